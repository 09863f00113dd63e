import PyProof.Rows.All
import Wide.All
import OpenK.AllK
import Wide.FinOn
import HandS.ForMost
import HandS.Exc
import HandS.TryOnly
import HandS.ExcOwn
import HandS.WordsExc
import HandS.Wide
import HandS.Gcd
import HandS.IsInst
import HandS.EndBits
import HandS.Codes
import HandS.Flow
import HandS.TupAny
import HandS.Defaults
import HandS.Small
import HandS.NoneIn
import HandS.StrMore
import HandS.Style
import HandS.WideBits
import HandS.Replace
import HandS.Zip
import HandS.Walk
import HandS.ExcInit
import HandS.ExcField
import HandS.ExcIs

import PySem.Challenge.RW_backsheet_k02_whole_arithmetic
set_option Elab.async false
set_option linter.all false
set_option maxRecDepth 100000
set_option exponentiation.threshold 10000
namespace Bs
open PySem
def top (i : Nat) : Stmt := PySem.Challenge.pw_backsheet_k02_whole_arithmetic.main.body.getD i (.Pass ⟨0, 0, 0, 0⟩)
open L2
abbrev s_InvalidNumber_init : Stmt := inClass (top 4) 0
theorem sc_InvalidNumber_init : FnScope ["self", "value"] ["self", "value"] (defScope s_InvalidNumber_init) := ⟨rfl, rfl, rfl, by decide +kernel, rfl, by decide +kernel, by decide +kernel⟩
abbrev s_is_whole : Stmt := top 6
theorem sc_is_whole : FnScope ["value"] ["value"] (defScope s_is_whole) := ⟨rfl, rfl, rfl, by decide +kernel, rfl, by decide +kernel, by decide +kernel⟩
abbrev s_is_ratio : Stmt := top 7
theorem sc_is_ratio : FnScope ["value", "top", "bottom"] ["value"] (defScope s_is_ratio) := ⟨rfl, rfl, rfl, by decide +kernel, rfl, by decide +kernel, by decide +kernel⟩
abbrev s_as_ratio : Stmt := top 8
theorem sc_as_ratio : FnScope ["value"] ["value"] (defScope s_as_ratio) := ⟨rfl, rfl, rfl, by decide +kernel, rfl, by decide +kernel, by decide +kernel⟩
abbrev s_ratio : Stmt := top 9
theorem sc_ratio : FnScope ["top", "bottom", "common"] ["top", "bottom"] (defScope s_ratio) := ⟨rfl, rfl, rfl, by decide +kernel, rfl, by decide +kernel, by decide +kernel⟩
abbrev s_add : Stmt := top 10
theorem sc_add : FnScope ["one", "other"] ["one", "other"] (defScope s_add) := ⟨rfl, rfl, rfl, by decide +kernel, rfl, by decide +kernel, by decide +kernel⟩
abbrev s_add_ratios : Stmt := top 11
theorem sc_add_ratios : FnScope ["one", "other", "one_top", "one_bottom", "other_top", "other_bottom"] ["one", "other"] (defScope s_add_ratios) := ⟨rfl, rfl, rfl, by decide +kernel, rfl, by decide +kernel, by decide +kernel⟩
abbrev s_subtract : Stmt := top 12
theorem sc_subtract : FnScope ["one", "other"] ["one", "other"] (defScope s_subtract) := ⟨rfl, rfl, rfl, by decide +kernel, rfl, by decide +kernel, by decide +kernel⟩
abbrev s_multiply : Stmt := top 13
theorem sc_multiply : FnScope ["one", "other"] ["one", "other"] (defScope s_multiply) := ⟨rfl, rfl, rfl, by decide +kernel, rfl, by decide +kernel, by decide +kernel⟩
abbrev s_multiply_ratios : Stmt := top 14
theorem sc_multiply_ratios : FnScope ["one", "other", "one_top", "one_bottom", "other_top", "other_bottom"] ["one", "other"] (defScope s_multiply_ratios) := ⟨rfl, rfl, rfl, by decide +kernel, rfl, by decide +kernel, by decide +kernel⟩
abbrev s_divide : Stmt := top 15
theorem sc_divide : FnScope ["one", "other", "one_top", "one_bottom", "other_top", "other_bottom"] ["one", "other"] (defScope s_divide) := ⟨rfl, rfl, rfl, by decide +kernel, rfl, by decide +kernel, by decide +kernel⟩
abbrev s_compare : Stmt := top 16
theorem sc_compare : FnScope ["one", "other", "top", "_"] ["one", "other"] (defScope s_compare) := ⟨rfl, rfl, rfl, by decide +kernel, rfl, by decide +kernel, by decide +kernel⟩
abbrev s_l_box : Stmt := top 18
theorem sc_l_box : FnScope ["_law_script", "_law_great", "_law_cell"] ["_law_script"] (defScope s_l_box) := ⟨rfl, rfl, rfl, by decide +kernel, rfl, by decide +kernel, by decide +kernel⟩
abbrev s_l_mixed : Stmt := top 19
theorem sc_l_mixed : FnScope ["_law_cell", "_law_k", "_law_whole"] ["_law_cell", "_law_k"] (defScope s_l_mixed) := ⟨rfl, rfl, rfl, by decide +kernel, rfl, by decide +kernel, by decide +kernel⟩
abbrev s_l_take : Stmt := top 20
theorem sc_l_take : FnScope ["_law_box_here", "_law_size", "_law_found", "_law_cell", "_law_reach"] ["_law_box_here", "_law_size"] (defScope s_l_take) := ⟨rfl, rfl, rfl, by decide +kernel, rfl, by decide +kernel, by decide +kernel⟩
abbrev s_l_shared : Stmt := top 21
theorem sc_l_shared : FnScope ["_law_one", "_law_other"] ["_law_one", "_law_other"] (defScope s_l_shared) := ⟨rfl, rfl, rfl, by decide +kernel, rfl, by decide +kernel, by decide +kernel⟩
abbrev s_l_ratio : Stmt := top 22
theorem sc_l_ratio : FnScope ["_law_top", "_law_bottom", "_law_by"] ["_law_top", "_law_bottom"] (defScope s_l_ratio) := ⟨rfl, rfl, rfl, by decide +kernel, rfl, by decide +kernel, by decide +kernel⟩
abbrev s_l_is_ratio : Stmt := top 23
theorem sc_l_is_ratio : FnScope ["_law_value", "_law_part"] ["_law_value"] (defScope s_l_is_ratio) := ⟨rfl, rfl, rfl, by decide +kernel, rfl, by decide +kernel, by decide +kernel⟩
abbrev s_l_number : Stmt := top 24
theorem sc_l_number : FnScope ["_law_box_here", "_law_way", "_law_top"] ["_law_box_here"] (defScope s_l_number) := ⟨rfl, rfl, rfl, by decide +kernel, rfl, by decide +kernel, by decide +kernel⟩
abbrev s_l_given : Stmt := top 25
theorem sc_l_given : FnScope ["_law_box_here", "_law_number_here"] ["_law_box_here", "_law_number_here"] (defScope s_l_given) := ⟨rfl, rfl, rfl, by decide +kernel, rfl, by decide +kernel, by decide +kernel⟩
abbrev s_l_longer : Stmt := top 26
theorem sc_l_longer : FnScope ["_law_box_here", "_law_way", "_law_most"] ["_law_box_here"] (defScope s_l_longer) := ⟨rfl, rfl, rfl, by decide +kernel, rfl, by decide +kernel, by decide +kernel⟩
abbrev s_l_divided : Stmt := top 27
theorem sc_l_divided : FnScope ["_law_one", "_law_other", "_law_found"] ["_law_one", "_law_other"] (defScope s_l_divided) := ⟨rfl, rfl, rfl, by decide +kernel, rfl, by decide +kernel, by decide +kernel⟩
abbrev s_l_right : Stmt := top 28
theorem sc_l_right : FnScope ["_law_one", "_law_other", "_law_passed", "_law_second", "_law_top", "_law_sign", "_law_due"] ["_law_one", "_law_other", "_law_passed", "_law_second"] (defScope s_l_right) := ⟨rfl, rfl, rfl, by decide +kernel, rfl, by decide +kernel, by decide +kernel⟩
abbrev s_law : Stmt := top 29
theorem sc_law : FnScope ["_law_script", "_law_box_here", "_law_turn", "_law_one", "_law_other", "_law_third", "_law_passed", "_law_second", "_law_k", "_law_found"] ["_law_script"] (defScope s_law) := ⟨rfl, rfl, rfl, by decide +kernel, rfl, by decide +kernel, by decide +kernel⟩
open PySem L2
/-! ### numbers -/
def CPowB (i j : Int) : Prop := 0 ≤ j ∧ (Builtin.Int.intBits i : Int) * j ≤ 2 ^ 27
theorem op_powB {X : Cx} : OpR X (binaryOp .Pow) (rI CPowB fun i j => .int (i ^ j.toNat)) := opI fun _ _ _ _ _ _ _ hc q => PyProof.Rows.pow_int hc.1 hc.2 q
/-- what the module leaves of the built-in names -/
structure Bt (mg : Str → Option Value) : Prop where
  n_len : mg "len" = none
  n_max : mg "max" = none
  n_abs : mg "abs" = none
  n_any : mg "any" = none
  n_all : mg "all" = none
  n_isinstance : mg "isinstance" = none
  n_range : mg "range" = none
  n_zip : mg "zip" = none
  n_int : mg "int" = none
  n_bool : mg "bool" = none
  n_tuple : mg "tuple" = none
  n_list : mg "list" = none
/-! ### a def that is known, and a def that keeps a promise -/
def Df (K : PySem.W.Frag) (mg : Str → Option Value) (x : Str) (st : Stmt) (ps : List Str) : Prop :=
  ∃ f fd, Fun K x x st f fd ∧ mg x = some (.ref f) ∧ Binds K fd ps []
def Kn (P : Program) (w : World) (K : PySem.W.Frag) (mg : Str → Option Value) (base : Heap) (cx : CXT) (x : Str) (k : Nat) (ps : List Str) (sp : Sp) : Prop :=
  ∃ f fd, FnOk P w K mg base cx k f fd ps sp ∧ mg x = some (.ref f) ∧ PySem.W.keepIn K (.ref f) = true ∧ Binds K fd ps []
/-! ### the box of draws: a list of a list, a number, a list, a number -/
def bl (g : Addr) (cur : Int) (c : Addr) (m : Int) : List V := [.ref g, .int cur, .ref c, .int m]
structure BoxIs (H : Hp) (b g c : Addr) (gs cs : List Int) (cur m : Int) : Prop where
  hb : H b = some (.lst (bl g cur c m))
  hg : H g = some (.lst (gs.map V.int))
  hc : H c = some (.lst (cs.map V.int))
  bg : b ≠ g
  bc : b ≠ c
  gc : g ≠ c
  m0 : 0 ≤ m
  lg : gs.length ≤ 63
  lc : cs.length ≤ 63
/-- a box from which at most n numbers have been drawn -/
def Box (H : Hp) (b g c : Addr) (n : Nat) : Prop := ∃ gs cs cur m, BoxIs H b g c gs cs cur m ∧ m ≤ (n : Int)
/-- all but the box's two objects is as it was -/
def But (b g : Addr) (H H' : Hp) : Prop := ∀ a o, H a = some o → a ≠ b → a ≠ g → H' a = some o
theorem But.refl (b g : Addr) (H : Hp) : But b g H H := fun _ _ h _ _ => h
theorem But.trans {b g : Addr} {H H1 H2 : Hp} (x : But b g H H1) (y : But b g H1 H2) : But b g H H2 := fun a o h h1 h2 => y a o (x a o h h1 h2) h1 h2
theorem But.of {b g : Addr} {H H' : Hp} (x : Same H H') : But b g H H' := fun a o h _ _ => x a o h
theorem But.updb {b g : Addr} {H : Hp} {o : HO} : But b g H (upd H b o) := fun a o' h h1 _ => by rw [upd_ne h1]; exact h
theorem But.updg {b g : Addr} {H : Hp} {o : HO} : But b g H (upd H g o) := fun a o' h _ h1 => by rw [upd_ne h1]; exact h
theorem same_new {H : Hp} {p : Addr} (h : H p = none) (o : HO) : Same H (upd H p o) := fun b u q => by rw [upd_ne (ne_of_none q h)]; exact q
theorem Box.same {H H' : Hp} {b g c : Addr} {n : Nat} (x : Box H b g c n) (s : Same H H') : Box H' b g c n := by
  obtain ⟨gs, cs, cur, m, B, hm⟩ := x
  exact ⟨gs, cs, cur, m, ⟨s _ _ B.hb, s _ _ B.hg, s _ _ B.hc, B.bg, B.bc, B.gc, B.m0, B.lg, B.lc⟩, hm⟩
theorem Box.mono {H : Hp} {b g c : Addr} {n k : Nat} (x : Box H b g c n) (h : n ≤ k) : Box H b g c k := by
  obtain ⟨gs, cs, cur, m, B, hm⟩ := x
  exact ⟨gs, cs, cur, m, B, by omega⟩
theorem BoxIs.updb {H : Hp} {b g c : Addr} {gs cs : List Int} {cur m cur' m' : Int} (B : BoxIs H b g c gs cs cur m) (h : 0 ≤ m') : BoxIs (upd H b (.lst (bl g cur' c m'))) b g c gs cs cur' m' :=
  ⟨upd_same, by rw [upd_ne B.bg.symm]; exact B.hg, by rw [upd_ne B.bc.symm]; exact B.hc, B.bg, B.bc, B.gc, h, B.lg, B.lc⟩
theorem BoxIs.updg {H : Hp} {b g c : Addr} {gs cs gs' : List Int} {cur m : Int} (B : BoxIs H b g c gs cs cur m) (h : gs'.length ≤ 63) : BoxIs (upd H g (.lst (gs'.map V.int))) b g c gs' cs cur m :=
  ⟨by rw [upd_ne B.bg]; exact B.hb, upd_same, by rw [upd_ne B.gc.symm]; exact B.hc, B.bg, B.bc, B.gc, B.m0, h, B.lc⟩
theorem seqIx0 {n : Nat} : seqIndex? 0 (n + 1) = some 0 := by
  have h : ixN (n + 1) 0 = some 0 := by
    unfold ixN
    rw [if_pos (by decide), if_pos (by omega)]
    rfl
  exact (ixN_seq h).1
theorem gcd_fmod (u v : Int) : Int.gcd v (u.fmod v) = Int.gcd u v := by
  have e : u.fmod v = u - v * u.fdiv v := Int.fmod_def u v
  apply Nat.dvd_antisymm
  · have d1 : (Int.gcd v (u.fmod v) : Int) ∣ v := Int.gcd_dvd_left ..
    have d2 : (Int.gcd v (u.fmod v) : Int) ∣ u.fmod v := Int.gcd_dvd_right ..
    have d3 : (Int.gcd v (u.fmod v) : Int) ∣ u := by
      have d4 := Int.dvd_add d2 (Int.dvd_trans d1 (Int.dvd_mul_right v (u.fdiv v)))
      rw [show u.fmod v + v * u.fdiv v = u by omega] at d4
      exact d4
    exact Int.dvd_gcd d3 d1
  · have d1 : (Int.gcd u v : Int) ∣ u := Int.gcd_dvd_left ..
    have d2 : (Int.gcd u v : Int) ∣ v := Int.gcd_dvd_right ..
    refine Int.dvd_gcd d2 ?_
    rw [e]
    exact Int.dvd_sub d1 (Int.dvd_trans d2 (Int.dvd_mul_right v _))
theorem natAbs_fmod_lt {u v : Int} (h : v ≠ 0) : (u.fmod v).natAbs < v.natAbs := by
  rw [Int.fmod_eq_emod]
  have h1 := Int.emod_nonneg u h
  have h2 := Int.emod_lt u h
  split <;> omega
/-! ### promises -/
def spMixed : Sp := fun vs H Q _ => ∃ cell k : Int, vs = [.int cell, .int k] ∧ 0 ≤ k ∧ k < 2000000 ∧ ∀ r : Int, Q (.int r) H
def spTake : Sp := fun vs H Q _ => ∃ (b g c : Addr) (n : Nat) (size : Int), vs = [.ref b, .int size] ∧ Box H b g c n ∧ n < 1000000 ∧ 0 < size ∧ size.natAbs < 2 ^ 8000 ∧
  ∀ (r : Int) (H' : Hp), 0 ≤ r → r < size → Box H' b g c (n + 1) → But b g H H' → Q (.int r) H'
def spBox (K : PySem.W.Frag) : Sp := fun vs H Q _ => ∃ (a : Addr) (ns : List Int), vs = [.ref a] ∧ SqL K H a (ns.map V.int) ∧ ns.length ≤ 63 ∧
  ∀ (b g c : Addr) (H' : Hp), Box H' b g c 0 → Same H H' → H b = none → H g = none → H c = none → Q (.ref b) H'
def spShared : Sp := fun vs H Q _ => ∃ a b : Int, vs = [.int a, .int b] ∧ Q (.int (Int.gcd a b : Int)) H
section
variable {P : Program} {w : World} {K : PySem.W.Frag} {mg : Str → Option Value} {base : Heap}
theorem ok_mixed (D : Df K mg "_law_mixed" s_l_mixed ["_law_cell", "_law_k"]) : Kn P w K mg base CX0 "_law_mixed" 1 ["_law_cell", "_law_k"] spMixed := by
  obtain ⟨f, fd, F, hm, hb⟩ := D
  refine ⟨f, fd, F.ok sc_l_mixed (fun vs H Q E h => ?_) (fun cdv A outer s H vs Q E hr h => ?_), hm, F.kp, hb⟩
  · obtain ⟨cell, k, rfl, _⟩ := h
    rfl
  · obtain ⟨cell, k, rfl, k0, k1, q⟩ := h
    refine ⟨_, (pss_cons (ps_set (i := 2) sc_l_mixed.nd rfl (Or.inl rfl) (pe_op op_mod (pe_op op_powB (pe_op op_add (pe_op op_add (pe_op op_add (pe_op op_mod (pv 0) pe_int) (pe_op op_mul (pe_op op_mul pe_int (pv 1)) (pv 1))) (pe_op op_mul pe_int (pv 1))) pe_int) pe_int) pe_int))
      (pss_one (ps_ret (pe_op op_mod (pe_op op_add (pe_op op_mul (pv 2) pe_int) (pe_op op_mul pe_int (pv 1))) pe_int)))), ?_⟩
    have c0 : (0 : Int) ≤ cell % 2147483647 := Int.emod_nonneg _ (by decide)
    have c1 : cell % 2147483647 < 2147483647 := Int.emod_lt_of_pos _ (by decide)
    have kk : (0 : Int) ≤ 1009 * k * k ∧ 1009 * k * k ≤ 1009 * 2000000 * 2000000 := by
      have a1 : 0 ≤ 1009 * k := by omega
      have a2 : 1009 * k ≤ 1009 * 2000000 := by omega
      exact ⟨Int.mul_nonneg a1 k0, Int.mul_le_mul a2 (by omega) k0 (by omega)⟩
    refine ⟨_, rfl, _, _, rfl, rfl, (show (0 : Int) < 2147483647 by decide), _, rfl, _, _, rfl, rfl, .inl ⟨by decide, by decide⟩, _, rfl, _, _, rfl, rfl, .inl ⟨by omega, by omega⟩, _, _, rfl, rfl,
      _, rfl, _, _, rfl, rfl, .inl ⟨by decide, by decide⟩, _, _, rfl, rfl, _, _, rfl, rfl, _, _, rfl, rfl, ⟨by decide, ?_⟩, _, _, rfl, rfl, (show (0 : Int) < 2147483647 by decide), ?_⟩
    · generalize hz : cell % 2147483647 + 1009 * k * k + 48611 * k + 17 = z
      have z0 : 0 ≤ z := by omega
      have z1 : z < 2 ^ 64 := by omega
      have hb := intBits_le_64 (k := z) (by omega) z1
      have : (Builtin.Int.intBits z : Int) ≤ 64 := by omega
      omega
    · refine ⟨_, rfl, _, _, rfl, rfl, .inr ⟨by decide, by decide⟩, _, rfl, _, _, rfl, rfl, .inl ⟨by decide, by decide⟩, _, _, rfl, rfl, _, _, rfl, rfl, (show (0 : Int) < 1000000007 by decide), ?_⟩
      exact q _
theorem ok_shared (T : Bt mg) (D : Df K mg "_law_shared" s_l_shared ["_law_one", "_law_other"]) : Kn P w K mg base CX0 "_law_shared" 1 ["_law_one", "_law_other"] spShared := by
  obtain ⟨f, fd, F, hm, hb⟩ := D
  refine ⟨f, fd, F.ok sc_l_shared (fun vs H Q E h => ?_) (fun cdv A outer s H vs Q E hr h => ?_), hm, F.kp, hb⟩
  · obtain ⟨x, y, rfl, _⟩ := h
    rfl
  · obtain ⟨x, y, rfl, q⟩ := h
    refine ⟨_, (pss_cons (ps_while PassesOwn.never (pt_cmpR op_ne (pv 1) pe_int (nomark _)) (pss_one (ps_par (i := 0) (j := 1) (by rfl) sc_l_shared.nd rfl rfl (by decide) rfl rfl (pa_cons (pv 1) (pa_cons (pe_op op_modN (pv 0) (pv 1)) pa_nil)) (by rfl))))
      (pss_one (ps_ret (pe_callB call_abs (by rfl) T.n_abs (by decide +kernel) (pa_cons (pv 0) pa_nil))))), ?_⟩
    refine while_by (fun σ H' => H' = H ∧ ∃ u v : Int, σ = [some (.int u), some (.int v)] ∧ Int.gcd u v = Int.gcd x y) (fun σ _ => match σ with | [_, some (.int v)] => v.natAbs | _ => 0) ⟨rfl, x, y, rfl, rfl⟩ ?_ ?_
    · rintro σ H' ⟨rfl, u, v, rfl, e⟩
      refine ⟨_, rfl, rfl, _, rfl, ?_⟩
      refine ite2 (fun c => ?_) (fun c => ?_)
      · have hv : v ≠ 0 := by
          intro z
          rw [z] at c
          exact absurd c (by decide)
        refine ⟨_, rfl, _, rfl, _, rfl, _, _, rfl, rfl, hv, _, _, rfl, ⟨rfl, _, _, rfl, ?_⟩, ?_⟩
        · rw [gcd_fmod]
          exact e
        · show (u.fmod v).natAbs < v.natAbs
          exact natAbs_fmod_lt hv
      · have hv : v = 0 := by
          by_cases z : v = 0
          · exact z
          · exact absurd (by simp [z]) c
        subst hv
        refine ⟨_, rfl, _, rfl, ?_⟩
        have e2 : (if u < 0 then -u else u) = (Int.gcd x y : Int) := by
          rw [← e, Int.gcd_zero_right]
          omega
        rw [e2]
        exact q
    · intro σ H' Q1 Q2 hq h
      obtain ⟨v, h1, h2, k, h3, h4⟩ := h
      exact ⟨v, h1, h2, k, h3, hq _ _ h4⟩
theorem ok_take (T : Bt mg) (GM : Kn P w K mg base CX0 "_law_mixed" 1 ["_law_cell", "_law_k"] spMixed) (D : Df K mg "_law_take" s_l_take ["_law_box_here", "_law_size"]) :
    Kn P w K mg base CX0 "_law_take" 2 ["_law_box_here", "_law_size"] spTake := by
  obtain ⟨f, fd, F, hm, hb⟩ := D
  obtain ⟨f_l_mixed, fd_l_mixed, G_l_mixed, m_l_mixed, k_l_mixed, b_l_mixed⟩ := GM
  refine ⟨f, fd, F.ok sc_l_take (fun vs H Q E h => ?_) (fun cdv A outer s H vs Q E hr h => ?_), hm, F.kp, hb⟩
  · obtain ⟨b, g, c, n, size, rfl, _⟩ := h
    rfl
  · obtain ⟨b, g, c, n, size, rfl, ⟨gs, cs, cur, m, B, hmn⟩, hn, s0, sB, q⟩ := h
    refine ⟨_, (pss_cons (ps_asg (pe_op op_add (pe_ix ix_list (pv 0) pe_int (fun _ _ => rfl)) pe_int) (pg_sub (pv 0) pe_int set_list))
      (C8.pss_cut (ps_if (PW.pt (pw_and (pt_cmpR op_eq (pe_ix ix_list (pv 0) pe_int (fun _ _ => rfl)) pe_int (nomark _)) (pw_and1 (pt_cmpR op_gt (pe_callB call_len_seq (by rfl) T.n_len (by decide +kernel) (pa_cons (pe_ix ix_list (pv 0) pe_int (fun _ _ => rfl)) pa_nil)) pe_int (nomark _))))) (pss_one (ps_asg (pe_bm PySem.F.plainAttrs_list PySem.F.slot_list_pop PySem.F.type_list_pop mt_popAt (pe_ix ix_list (pv 0) pe_int (fun _ _ => rfl)) (pa_cons pe_int pa_nil)) (pg_sub (pv 0) pe_int set_list))) pss_nil)
      (pss_cons (ps_if (pt_cmpR op_gt (pe_ix ix_list (pv 0) pe_int (fun _ _ => rfl)) pe_int (nomark _)) (pss_cons (ps_set (i := 2) sc_l_take.nd rfl (Or.inl rfl) (pe_op op_mod (pe_ix ix_list (pv 0) pe_int (fun _ _ => rfl)) (pv 1)))
      (pss_cons (ps_asg (pe_op op_fdivW (pe_ix ix_list (pv 0) pe_int (fun _ _ => rfl)) (pv 1)) (pg_sub (pv 0) pe_int set_list))
      (pss_one (ps_ret (pv 2))))) pss_nil)
      (pss_cons (ps_set (i := 3) sc_l_take.nd rfl (Or.inl rfl) (pe_ix ix_list (pe_op op_cat (pe_ix ix_list (pv 0) pe_int (fun _ _ => rfl)) (pe_lst (pa_cons (pe_op op_mul pe_int (pe_ix ix_list (pv 0) pe_int (fun _ _ => rfl))) pa_nil))) (pe_op op_mod (pe_ix ix_list (pv 0) pe_int (fun _ _ => rfl)) (pe_callB (call_max2 rfl) (by rfl) T.n_max (by decide +kernel) (pa_cons pe_int (pa_cons (pe_callB call_len_seq (by rfl) T.n_len (by decide +kernel) (pa_cons (pe_ix ix_list (pv 0) pe_int (fun _ _ => rfl)) pa_nil)) pa_nil)))) (fun _ _ => rfl)))
      (pss_cons (ps_set (i := 2) sc_l_take.nd rfl (Or.inl rfl) pe_int)
      (pss_cons (ps_set (i := 4) sc_l_take.nd rfl (Or.inl rfl) pe_int)
      (pss_cons (ps_while PassesOwn.never (pt_cmpR op_lt (pv 4) (pv 1) (nomark _)) (pss_cons (ps_set (i := 2) sc_l_take.nd rfl (Or.inl rfl) (pe_op op_add (pe_op op_mul (pv 2) pe_int) (pe_call G_l_mixed (hr.mono (by omega)) rfl m_l_mixed k_l_mixed b_l_mixed .nil pass0 (pa_cons (pv 3) (pa_cons (pe_op op_add (pe_ix ix_list (pv 0) pe_int (fun _ _ => rfl)) (pe_op op_mul pe_int (pe_op op_mod (pv 2) pe_int))) pa_nil)))))
      (pss_one (ps_set (i := 4) sc_l_take.nd rfl (Or.inl rfl) (pe_op op_mul (pv 4) pe_int)))))
      (pss_one (ps_ret (pe_op op_mod (pv 2) (pv 1))))))))))), ?_⟩
    have m0 := B.m0
    -- box[3] = box[3] + 1
    refine ⟨_, rfl, b, _, _, .int m, rfl, rfl, SqL.of B.hb, rfl, _, _, rfl, rfl, _, rfl, b, _, _, 3, rfl, rfl, B.hb, rfl, ?_⟩
    have B1 : BoxIs (upd H b (.lst (bl g cur c (m + 1)))) b g c gs cs cur (m + 1) := B.updb (by omega)
    refine ⟨fun σ H2 => σ = start ["_law_box_here", "_law_size", "_law_found", "_law_cell", "_law_reach"] [.ref b, .int size] ∧ But b g H H2 ∧ ∃ gs2 cur2, BoxIs H2 b g c gs2 cs cur2 (m + 1), ?_, ?_⟩
    · -- if box[1] == 0 and len(box[0]) > 0: box[1] = box[0].pop(0)
      refine ⟨_, rfl, b, _, _, .int cur, rfl, rfl, SqL.of B1.hb, rfl, rfl, _, rfl, ?_⟩
      refine ite2 (fun h => ?_) (fun h => ?_)
      · refine ⟨_, rfl, b, _, _, .ref g, rfl, rfl, SqL.of B1.hb, rfl, g, _, rfl, .inl (SqL.of B1.hg), _, _, rfl, rfl, _, rfl, ?_⟩
        refine ite2 (fun h2 => ?_) (fun h2 => ?_)
        · have h3 : (0 : Int) < ((gs.map V.int).length : Nat) := of_decide_eq_true h2
          rw [List.length_map] at h3
          obtain ⟨z, gr, rfl⟩ : ∃ z gr, gs = z :: gr := by
            cases gs with
            | nil => exact absurd h3 (by decide)
            | cons z gr => exact ⟨z, gr, rfl⟩
          have lg := B.lg
          refine ⟨_, rfl, b, _, _, .ref g, rfl, rfl, SqL.of B1.hb, rfl, .inl ⟨rfl, _, SqL.of B1.hg⟩, g, _, 0, 0, .int z, rfl, rfl, B1.hg, by decide, by decide, seqIx0, rfl, ?_⟩
          have B2 : BoxIs (upd (upd H b (.lst (bl g cur c (m + 1)))) g (.lst (gr.map V.int))) b g c gr cs cur (m + 1) := B1.updg (by rw [List.length_cons] at lg; omega)
          refine ⟨_, rfl, b, _, _, 1, rfl, rfl, B2.hb, rfl, ?_⟩
          exact ⟨rfl, (But.updb.trans But.updg).trans But.updb, gr, z, B2.updb (by omega)⟩
        · exact ⟨rfl, But.updb, gs, cur, B1⟩
      · exact ⟨rfl, But.updb, gs, cur, B1⟩
    · rintro σ H2 ⟨rfl, hbut, gs2, cur2, B2⟩
      -- if box[1] > 0
      refine ⟨_, rfl, b, _, _, .int cur2, rfl, rfl, SqL.of B2.hb, rfl, _, _, rfl, rfl, _, rfl, ?_⟩
      refine ite2 (fun h => ?_) (fun h => ?_)
      · refine ⟨_, rfl, b, _, _, .int cur2, rfl, rfl, SqL.of B2.hb, rfl, _, rfl, _, _, rfl, rfl, s0, ?_⟩
        refine ⟨_, rfl, b, _, _, .int cur2, rfl, rfl, SqL.of B2.hb, rfl, _, rfl, _, _, rfl, rfl, wide_div s0 sB (by decide) (by decide), ?_⟩
        refine ⟨_, rfl, b, _, _, 1, rfl, rfl, B2.hb, rfl, ?_⟩
        refine ⟨_, rfl, ?_⟩
        exact q _ _ (Int.emod_nonneg _ (by omega)) (Int.emod_lt_of_pos _ s0) ⟨gs2, cs, _, _, B2.updb (by omega), by omega⟩ (hbut.trans But.updb)
      · -- cell = (box[2] + [7 * box[3]])[box[3] % max(1, len(box[2]))]
        refine ⟨_, rfl, b, _, _, .ref c, rfl, rfl, SqL.of B2.hb, rfl, _, rfl, b, _, _, .int (m + 1), rfl, rfl, SqL.of B2.hb, rfl, _, _, rfl, rfl, .inl ⟨by decide, by decide⟩, (by show 1 ≤ sizeLine; decide), fun p np => ?_⟩
        have s1 := same_new np (.lst [.int (7 * (m + 1))])
        have lc := B.lc
        refine ⟨c, p, _, _, rfl, rfl, s1 _ _ B2.hc, upd_same, (by rw [List.length_map]; show cs.length + 1 ≤ sizeLine; exact Nat.le_of_lt (small1000 (by omega))), fun p2 np2 => ?_⟩
        have s2 := s1.trans (same_new np2 (.lst (cs.map V.int ++ [.int (7 * (m + 1))])))
        refine ⟨_, rfl, b, _, _, .int (m + 1), rfl, rfl, SqL.of (s2 _ _ B2.hb), rfl, _, rfl, b, _, _, .ref c, rfl, rfl, SqL.of (s2 _ _ B2.hb), rfl, c, _, rfl, .inl (SqL.of (s2 _ _ B2.hc)), _, _, rfl, ?_⟩
        have hmx : ((cs.map V.int).length : Int) = cs.length := by rw [List.length_map]
        rw [hmx]
        generalize hM : (if (cs.length : Int) > 1 then (cs.length : Int) else 1) = M
        have M0 : 0 < M := by split at hM <;> omega
        have M1 : M ≤ cs.length + 1 := by split at hM <;> omega
        refine ⟨_, _, rfl, rfl, M0, ?_⟩
        have i0 := Int.emod_nonneg (m + 1) (show M ≠ 0 by omega)
        have i1 := Int.emod_lt_of_pos (m + 1) M0
        obtain ⟨v, hv⟩ : ∃ v : Int, atI (cs.map V.int ++ [.int (7 * (m + 1))]) ((m + 1) % M) = some (.int v) := by
          generalize (m + 1) % M = j at i0 i1
          obtain ⟨k, rfl⟩ : ∃ k : Nat, j = (k : Int) := ⟨j.toNat, by omega⟩
          by_cases hk : k < cs.length
          · exact ⟨cs[k], atI_nat (by rw [List.getElem?_append_left (by rw [List.length_map]; exact hk), List.getElem?_map, List.getElem?_eq_getElem hk]; rfl)⟩
          · have ek : k = cs.length := by omega
            subst ek
            exact ⟨7 * (m + 1), atI_nat (by rw [List.getElem?_append_right (by rw [List.length_map]; exact Nat.le_refl _), List.length_map, Nat.sub_self]; rfl)⟩
        refine ⟨p2, _, _, .int v, rfl, rfl, SqL.of upd_same, hv, ?_⟩
        generalize hH3 : upd (upd H2 p (.lst [.int (7 * (m + 1))])) p2 (.lst (cs.map V.int ++ [.int (7 * (m + 1))])) = H3
        rw [hH3] at s2
        have hb3 : H3 b = some (.lst (bl g cur2 c (m + 1))) := s2 _ _ B2.hb
        -- found = 0; reach = 1; while ..
        refine while_by (fun σ H' => H' = H3 ∧ ∃ u v' : Int, σ = [some (.ref b), some (.int size), some (.int u), some (.int v), some (.int v')] ∧ 1 ≤ v') (fun σ _ => match σ with | [_, _, _, _, some (.int v')] => (size - v').toNat | _ => 0) ⟨rfl, 0, 1, rfl, by decide⟩ ?_ ?_
        · rintro σ H' ⟨rfl, u, v', rfl, hv'⟩
          refine ⟨_, rfl, _, rfl, _, _, rfl, rfl, _, rfl, ?_⟩
          refine ite2 (fun c => ?_) (fun c => ?_)
          · have hlt : v' < size := of_decide_eq_true c
            refine ⟨_, rfl, _, _, rfl, rfl, .inr ⟨by decide, by decide⟩, _, rfl, _, rfl, b, _, _, .int (m + 1), rfl, rfl, SqL.of hb3, rfl, _, rfl, _, _, rfl, rfl, (show (0 : Int) < 89 by decide), _, _, rfl, rfl, .inl ⟨by decide, by decide⟩, _, _, rfl, rfl, ?_⟩
            have f0 := Int.emod_nonneg u (show (89 : Int) ≠ 0 by decide)
            have f1 := Int.emod_lt_of_pos u (show (0 : Int) < 89 by decide)
            refine ⟨_, _, rfl, by omega, by omega, fun r => ?_⟩
            refine ⟨_, _, rfl, rfl, ?_⟩
            refine ⟨_, rfl, _, _, rfl, rfl, .inr ⟨by decide, by decide⟩, ⟨rfl, _, _, rfl, by omega⟩, ?_⟩
            show (size - v' * 1000000007).toNat < (size - v').toNat
            omega
          · refine ⟨_, rfl, _, rfl, _, _, rfl, rfl, s0, ?_⟩
            exact q _ _ (Int.emod_nonneg _ (by omega)) (Int.emod_lt_of_pos _ s0) ⟨gs2, cs, cur2, m + 1, ⟨hb3, s2 _ _ B2.hg, s2 _ _ B2.hc, B2.bg, B2.bc, B2.gc, B2.m0, B2.lg, B2.lc⟩, by omega⟩ (hbut.trans (But.of s2))
        · intro σ H' Q1 Q2 hq h
          obtain ⟨v, h1, v2, h2, i, j, e1, e2, k, e3, h3⟩ := h
          exact ⟨v, h1, v2, h2, i, j, e1, e2, k, e3, hq _ _ h3⟩
end

/-! ### isinstance of a caught error whose own dict stands (or that has none) -/
open PySem.W PySem.Calls PyProof.Rows in
theorem class_of_err {prog : Program} {w : World} {A : Around} {Bad : Value → Shared → Prop} {s : Shared} {K : PySem.W.Frag} {e D : Addr} {oe : Obj} {own : Option Obj} {Want : Option Value → Shared → Prop} (cc : L2.ExcC K D)
    (KI : K.In s.heap) (J : InstAt s.heap e oe D own) (q : Want (some (.ref D)) { s with toks := s.toks + 1 }) : wpAny (model prog w) A (getAttr? (.ref e) "__class__") Want Bad s := by
  have found : findObj K D own "__class__" = some (.bind (.builtin "getset_descriptor.__get__") (.builtin "object.__class__")) := by
    obtain ⟨cd, e0, _⟩ := any_some cc.hd
    unfold findObj
    rw [e0, Option.bind_some, cc.ha, Option.bind_some]
    simp [cc.hn, cc.ht]
  obtain ⟨hp, gs, dr, tk, osx⟩ := s
  have k1 := J.type (M := model prog w)
  have k2 := looks_findIn (M := model prog w) KI cc.hg
  have k3 := looks_findIn (M := model prog w) KI cc.hk
  have k4 := looks_find (M := model prog w) KI J found
  have isB : Looks (model prog w) hp (isInstance (.ref e) (.type "BaseException")) true := k1.andThen (looks_subIn KI cc.hs)
  have n1 : (false && onTheHeap (Value.builtin "BaseException.__getattribute__")) = false := rfl
  have n2 : (onTheHeap (Value.ref D) && Value.builtin "BaseException.__getattribute__" == Value.builtin "object.__getattribute__") = false := by
    rw [show (Value.builtin "BaseException.__getattribute__" == Value.builtin "object.__getattribute__") = false by decide +kernel]
    rfl
  unfold getAttr? getAttrBy? getAttrBy
  refine wpAny_bind (wpAny_mkText (wpAny_bind (wpAny_attempt (wpAny_holding (wpAny_bind (k1.at (wpAny_bind (k2.at ?_))))))))
  show wpAny _ _ (if (onTheHeap (Value.ref D) && Value.builtin "BaseException.__getattribute__" == Value.builtin "object.__getattribute__") = true then _ else _) _ _ _
  rw [n2, if_neg Bool.false_ne_true]
  unfold getAttrByItsOwn hookBefore
  refine wpAny_bind ?_
  rw [if_pos (show onTheHeap (Value.ref D) = true from rfl)]
  refine k3.at (wpAny_bind (wpAny_attempt (wpAny_holding ?_)))
  unfold callGetattribute
  rw [n1, if_neg Bool.false_ne_true]
  unfold boundAndCalled
  rw [PySem.F.excAttr_ValueError.ga.bind (.ref e)]
  refine wpAny_bind (wpAny_pure ?_)
  show wpAny _ _ (call (.builtin "BaseException.__getattribute__") [.ref e, .str "__class__" tk]) _ _ _
  refine wpAny_call (codeAny_call_builtin PySem.F.excAttr_ValueError.ga.plain PySem.F.entry_bexc_ga ?_)
  refine @check_slot (model prog w) _ _ ⟨hp, gs, dr, tk + 1, osx⟩ "BaseException.__getattribute__" "BaseException" "__getattribute__" (.ref e) [.str "__class__" tk] [] _ (by decide +kernel) (by decide +kernel) isB (PySem.F.args_bexc_ga (.ref e) (.str "__class__" tk)) ?_
  unfold Builtin.«object.__getattribute__»
  refine wpAny_bind (wpAny_of_eq (a := ((Value.ref e : Value), [Value.str "__class__" tk])) (by first | rfl | (simp only [slotArgs]; rfl)) ?_)
  refine wpAny_bind (wpAny_pure (wpAny_bind (k1.at (wpAny_bind (k4.at ?_)))))
  show wpAny _ _ (holding [Value.builtin "object.__class__"] (call (.builtin "getset_descriptor.__get__") [.builtin "object.__class__", .ref e, .ref D]) >>= ret) _ _ _
  refine wpAny_bind (wpAny_holding (wpAny_call (class_get (s := ⟨hp, gs, dr, tk + 1, osx⟩) (ox := oe) (od := own) KI J cc.hm ?_)))
  refine wpAny_pure ?_
  show wpAny _ _ (handedOut (.ref D)) _ _ _
  rw [handedOut_of (v := .ref D) rfl]
  first
    | exact wpAny_pure (wpAny_pure q)
    | exact wpAny_pure q
    | exact wpAny_pure (wpAny_bind (wpAny_pure (wpAny_pure q)))
open PySem.W in
theorem kit_err {K : PySem.W.Frag} {e D : Addr} {oe : Obj} {own : Option Obj} (cc : L2.ExcC K D) : KitX K (.ref e) (.ref D) (fun h => InstAt h e oe D own) where
  ty := fun _ _ _ J => J.type
  it := fun _ _ KI _ => by
    obtain ⟨cd, e0, _⟩ := any_some cc.hd
    unfold clsIn at e0
    split at e0
    · rename_i _ _ _ _ at0
      intro _ _ _ _ kk qq
      unfold isType loadHead
      exact wpAny_bind (wpAny_loadPart (kk _ _ (KI _ _ at0)) (wpAny_pure qq))
    · cases e0
  ne := fun h tp dd its n sl KI htp => by
    obtain ⟨cd, e0, _⟩ := any_some cc.hd
    refine Bool.eq_false_iff.mpr fun z => ?_
    have same : D = tp := Value.ref.inj (beq_iff_eq.mp z)
    subst same
    unfold clsIn at e0
    split at e0
    · rename_i _ _ _ _ at0
      have z2 := (KI _ _ at0).symm.trans htp
      cases z2
    · cases e0
  ca := fun KI J kk => class_of_err cc KI J kk
def rIsErr (K : PySem.W.Frag) (D a : Addr) (cls : Value) (d : Option Addr) : List V → Hp → VK → Prop := fun xs H Q => ∃ (c : V) (cv : Value) (b : Bool), xs = [.ref a, c] ∧ cls = .ref D ∧ ClsV c cv ∧ PySem.W.kitOne K (.ref D) cv = some b ∧
  (d = none ∨ ∃ dd fs, d = some dd ∧ H dd = some (.xd fs)) ∧ Q (.bl b) H
theorem call_isErr {X : Cx} {a D : Addr} {oe : Obj} {cls : Value} {d : Option Addr} {pn : List (Addr × Obj)} (cc : ExcC X.K D) (hz : Zc cls d oe) (hf : ∃ vs, oe.data = .fields vs) : CallR (X.suite a ((a, oe) :: pn)) (.builtin "isinstance") (rIsErr X.K D a cls d) := by
  intro pins s σ H xs us Q I r h
  obtain ⟨c, cv, b, rfl, rfl, hcv, e, hd, q⟩ := h
  obtain ⟨u1, u2, rfl, r1, r2⟩ := vals2 r
  cases (show u1 = Value.ref a from r1)
  have e2 := hcv.eq r2
  subst e2
  obtain ⟨at0, _⟩ := I.pin (a, oe) (List.mem_append.mpr (.inl List.mem_cons_self))
  obtain ⟨vs, hv⟩ := hf
  have J : ∃ own, PySem.W.InstAt s.heap a oe D own := by
    rcases hd with rfl | ⟨dd, fs, rfl, hx⟩
    · exact ⟨none, at0, hz.1, by unfold PySem.W.notCls; rw [hv] <;> rfl, by rw [hz.2]; exact True.intro⟩
    · have hx2 : ObjOk X.prog X.w H s.heap dd (.xd fs) := I.hok dd _ hx
      obtain ⟨mA, hns, hr⟩ := hx2
      obtain ⟨od, ho, hl⟩ := lookIn_ns hns
      exact ⟨some od, at0, hz.1, by unfold PySem.W.notCls; rw [hv] <;> rfl, by rw [hz.2]; exact ho⟩
  obtain ⟨own, J⟩ := J
  exact PySem.W.kia_one (kit_err cc) I.kIn J e (fun z => nomatch z) fun tk => ⟨.bl b, H, I.kept (t' := tk) fun _ _ z => z, rfl, q⟩

/-! ### data of any depth -/
def tyN : PyData → String
  | .none => "NoneType" | .bool _ => "bool" | .int _ => "int" | .str _ => "str" | .list _ => "list" | .tuple _ => "tuple" | .dict _ => "dict"
theorem dp_ty {K : PySem.W.Frag} {H : Hp} {v : V} {d : PyData} (h : Dp K H v d) : TyX K H v (.type (tyN d)) := by
  cases h with
  | non => exact .base .non
  | bl b => exact .base (.bl b)
  | int i => exact .base (.int i)
  | str x => exact .base (.str x)
  | lst hs _ =>
    rcases hs with (h | ⟨o, h⟩) | ⟨o, its, n, e, c, _⟩
    · exact .base (.lst h)
    · exact .base (.frz h)
    · exact .kList e c
  | tup hs _ =>
    rcases hs with (h | ⟨o, h⟩) | ⟨o, its, n, e, c, _⟩
    · exact .base (.tup h)
    · exact .fTuple h
    · exact .kTuple e c
theorem cr_isi {X : Cx} {K : PySem.W.Frag} (h : X.K = K) : CallR X (.builtin "isinstance") (rIsi K) := by
  subst h
  exact call_isi
theorem cr_isiT {X : Cx} {K : PySem.W.Frag} (h : X.K = K) : CallR X (.builtin "isinstance") (rIsiT K) := by
  subst h
  exact call_isiT
theorem pg_tupK {X : Cx} {K : PySem.W.Frag} {es : List Expr} {k n : Nat} {pos : Pos} {t : TGs} (hK : X.K = K) (hc : X.calm = true) (h : PGs X es t) (hn : (assignEach es X.env).length = n) (hst : (assignEach es X.env).findIdx? (·.1) = none) : PG X (.Tuple es k pos) (gTup K n t) := by
  subst hK
  exact pg_tup hc h hn hst
theorem walk_zipT {K : PySem.W.Frag} {a b : Addr} {xs ys : List V} {n : Nat} (ex : n = xs.length) (ey : n = ys.length) : Walk (RZ.ItzT K a b) n (fun H => SqT K H a xs ∧ SqT K H b ys) (YPair (fun i => xs[i]?) (fun i => ys[i]?)) where
  goes := fun i _ hi q => ⟨xs, ys, xs[i]'(by omega), ys[i]'(by omega), q.1, q.2, List.getElem?_eq_getElem _, List.getElem?_eq_getElem _⟩
  stops := fun _ q => ⟨xs, ys, q.1, q.2, by omega⟩
  yields := fun i H v H' _ q y => by
    obtain ⟨T, x, z, h1, h2, h3, h4, h5⟩ := y
    exact ⟨T, x, z, h1, h2, h3, h4 xs q.1, h5 ys q.2⟩
theorem isi_of {K : PySem.W.Frag} {H : Hp} {v : V} {d : PyData} {T : String} {r : Bool} {Q : VK} (h : Dp K H v d) (e : kitB (tyN d) T = some r) (q : Q (.bl r) H) : rIsi K [v, .ty T] H Q :=
  ⟨v, .ty T, _, _, r, rfl, .ty T, dp_ty h, kit_ty e, q⟩
def isInt : PyData → Bool | .int _ => true | .bool _ => true | _ => false
def isBool : PyData → Bool | .bool _ => true | _ => false
def isTup : PyData → Bool | .tuple _ => true | _ => false
def isLst : PyData → Bool | .list _ => true | _ => false
def isStr : PyData → Bool | .str _ => true | _ => false
theorem kb_int (d : PyData) : kitB (tyN d) "int" = some (isInt d) := by cases d <;> (dsimp only [tyN, isInt]; decide +kernel)
theorem kb_bool (d : PyData) : kitB (tyN d) "bool" = some (isBool d) := by cases d <;> (dsimp only [tyN, isBool]; decide +kernel)
theorem kb_tup (d : PyData) : kitB (tyN d) "tuple" = some (isTup d) := by cases d <;> (dsimp only [tyN, isTup]; decide +kernel)
theorem kb_lst (d : PyData) : kitB (tyN d) "list" = some (isLst d) := by cases d <;> (dsimp only [tyN, isLst]; decide +kernel)
theorem kb_str (d : PyData) : kitB (tyN d) "str" = some (isStr d) := by cases d <;> (dsimp only [tyN, isStr]; decide +kernel)
theorem same_seqT {K : PySem.W.Frag} {H H' : Hp} {a : Addr} {xs : List V} (e : Same H H') (h : SqT K H a xs) : SqT K H' a xs := by
  rcases h with (h | ⟨o, h⟩) | h
  · exact .inl (.inl (e _ _ h))
  · exact .inl (.inr ⟨o, e _ _ h⟩)
  · exact .inr h
mutual
theorem dp_same {K : PySem.W.Frag} {H H' : Hp} (s : Same H H') : ∀ (d : PyData) (v : V), Dp K H v d → Dp K H' v d
  | .none, _, h => by cases h; exact .non
  | .bool b, _, h => by cases h; exact .bl b
  | .int i, _, h => by cases h; exact .int i
  | .str x, _, h => by cases h; exact .str x
  | .list ds, _, h => by
    cases h with
    | lst hs ha => exact .lst (s.seq hs) (dps_same s ds _ ha)
  | .tuple ds, _, h => by
    cases h with
    | tup hs ha => exact .tup (same_seqT s hs) (dps_same s ds _ ha)
  | .dict _, _, h => by cases h
theorem dps_same {K : PySem.W.Frag} {H H' : Hp} (s : Same H H') : ∀ (ds : List PyData) (vs : List V), DpAll K H vs ds → DpAll K H' vs ds
  | [], _, h => by cases h; exact .nil
  | d :: ds, _, h => by
    cases h with
    | cons h1 h2 => exact .cons (dp_same s d _ h1) (dps_same s ds _ h2)
end
theorem dps_len {K : PySem.W.Frag} {H : Hp} : ∀ {vs : List V} {ds : List PyData}, DpAll K H vs ds → vs.length = ds.length
  | _, _, .nil => rfl
  | _, _, .cons _ t => congrArg (· + 1) (dps_len t)
theorem dps_get {K : PySem.W.Frag} {H : Hp} : ∀ {vs : List V} {ds : List PyData} {i : Nat} {v : V}, DpAll K H vs ds → vs[i]? = some v → ∃ d, ds[i]? = some d ∧ Dp K H v d
  | [], _, i, v, _, h => by simp at h
  | x :: vs, ds, 0, v, a, h => by
    cases a with
    | cons h1 t =>
      have e : x = v := Option.some.inj h
      rw [← e]
      exact ⟨_, rfl, h1⟩
  | x :: vs, ds, i + 1, v, a, h => by
    cases a with
    | cons h1 t => exact dps_get (i := i) t h
/-- the ratio that a value is; the number that it stands for -/
def intOf : PyData → Option Int | .int i => some i | _ => none
def rat2 : List PyData → Option (Int × Int)
  | [a, b] => (match intOf a with
    | some t => (match intOf b with
      | some m => if 1 ≤ m ∧ Int.gcd t m = 1 then some (t, m) else none
      | none => none)
    | none => none)
  | _ => none
def ratOf : PyData → Option (Int × Int)
  | .tuple ds => rat2 ds
  | _ => none
def numOf : PyData → Option (Int × Int)
  | .int i => some (i, 1)
  | d => ratOf d
def isRat (d : PyData) : Bool := (ratOf d).isSome
def wholeD : PyData → Bool | .int _ => true | _ => false
def rat (t m : Int) : PyData := .tuple [.int t, .int m]
theorem dp_rat {K : PySem.W.Frag} {H : Hp} {p : Addr} {t m : Int} (h : H p = some (.tup [.int t, .int m])) : Dp K H (.ref p) (rat t m) := .tup (SqT.of h) (.cons (.int t) (.cons (.int m) .nil))
def spD (K : PySem.W.Frag) (f : PyData → Bool) : Sp := fun vs H Q _ => ∃ (v : V) (d : PyData), vs = [v] ∧ Dp K H v d ∧ ∀ H', Same H H' → Q (.bl (f d)) H'
theorem Kn.mono {P : Program} {w : World} {K : PySem.W.Frag} {mg : Str → Option Value} {base : Heap} {cx : CXT} {x : Str} {j k : Nat} {ps : List Str} {sp : Sp} (h : Kn P w K mg base cx x j ps sp) (l : j ≤ k) : Kn P w K mg base cx x k ps sp := by
  obtain ⟨f, fd, F, a, b, c⟩ := h
  exact ⟨f, fd, F.mono l, a, b, c⟩

/-! ### the program's ratios -/
def CDivWN (_ j : Int) : Prop := j ≠ 0 ∧ j.natAbs.log2 < 9000
theorem op_fdivWN {X : Cx} : OpR X (binaryOp .FloorDiv) (rI CDivWN fun i j => .int (i.fdiv j)) := opI fun _ _ _ _ _ _ _ hc q => PyProof.Rows.floordiv_int hc.1 q (.inl (PyProof.noPylong_of_log2 hc.2))
/-- X() of an own exception class without __init__ -/
theorem pmk_own0 {X : Cx} {C : Addr} {bmB : List Value} {B newId initId : String} {x : Str} {p pos : Pos} (F : ExcBaseFacts B newId initId bmB) (xP : PySem.W.excIn X.K C bmB newId = true) (gP : X.mg x = some (.ref C))
    (kP : PySem.W.keepIn X.K (.ref C) = true) (rP : Raises X (.ref C)) (hg : Gl X x) (hdb : (x == ("__debug__" : Str)) = false := by decide) : PMk X (.Call (.Name x p) [] [] pos) (fun _ H Q => Q (.ref C) none H) := by
  intro pins s σ H Q I want
  refine wpAny_Call_Name_kw (ld_glob I hg gP ?_ hdb)
  refine PySem.W.callWith_K0 I.kIn kP ?_
  show wpAny _ _ (call (.ref C) []) _ _ _
  obtain ⟨bm, N, nm, qn, bs, hdct, sn, sub, ab, col, dd, k0, k1, k2, k3, k5, mN, at0, hN, hni, T⟩ := exc_obj I.kIn xP
  refine wpAny_call_exc_subT F T at0 hN hni (fun h' e made => ?_) (Nat.zero_le _)
  exact mk_of I made rP want (I.hok.gone made.new)
/-- an error class with one field: what is known of it -/
def spErrInit (C : Addr) (fld : Str) : Sp := fun vs H Q _ => ∃ (e : Addr) (v : V), vs = [.ref e, v] ∧ H e = some (exo e C none) ∧ ∀ dx, H dx = none → dx ≠ e → Q .non (upd (upd H dx (exd dx [(fld, v)])) e (exo e C (some dx)))
structure ErrF (P : Program) (w : World) (K : PySem.W.Frag) (mg : Str → Option Value) (base : Heap) (x fld : Str) (C : Addr) : Prop where
  gC : mg x = some (.ref C)
  ox : OexC K C
  xf : XfC K C
  no : PySem.W.findIn K (.ref C) fld = some none
  ec : ExcC K C
  ex : PySem.W.exmOne K (.ref C) (.ref C) = some true
  ini : ∃ fI fdI, PySem.W.findIn K (.ref C) "__init__" = some (some (.ref fI)) ∧ PySem.W.typeIn K (.ref fI) = some (.type "function") ∧ FnOk P w K mg base CX0 1 fI fdI ["self", fld] (spErrInit C fld) ∧ Binds K fdI ["self", fld] []
/-- an error class without fields -/
structure ErrZ (K : PySem.W.Frag) (mg : Str → Option Value) (x : Str) (C : Addr) : Prop where
  gP : mg x = some (.ref C)
  xP : PySem.W.excIn K C [.type "ValueError", .type "Exception", .type "BaseException", .type "object"] "ValueError.__new__" = true
  kP : PySem.W.keepIn K (.ref C) = true
  bP : PySem.W.subIn K (.ref C) (.type "BaseException") = some true
  tP : PySem.W.typeIn K (.ref C) = some (.type "type")
  ec : ExcC K C
  ex : PySem.W.exmOne K (.ref C) (.ref C) = some true
/-- a def with one default, 1 -/
def Df1 (K : PySem.W.Frag) (mg : Str → Option Value) (x : Str) (st : Stmt) (ps : List Str) : Prop :=
  ∃ f fd, FunD K x x (defArgs st) (defBody st) (defScope st) [.int 1] [] f fd ∧ mg x = some (.ref f) ∧ Binds K fd ps [] ∧ ∃ ds, Vals [.int 1] ds ∧ Binds K fd ps ds
def Kn1 (P : Program) (w : World) (K : PySem.W.Frag) (mg : Str → Option Value) (base : Heap) (cx : CXT) (x : Str) (k : Nat) (ps : List Str) (sp : Sp) : Prop :=
  ∃ f fd, FnOk P w K mg base cx k f fd ps sp ∧ mg x = some (.ref f) ∧ PySem.W.keepIn K (.ref f) = true ∧ Binds K fd ps [] ∧ ∃ ds, Vals [.int 1] ds ∧ Binds K fd ps ds
def spAsRatio (K : PySem.W.Frag) (C : Addr) : Sp := fun vs H Q E => ∃ (v : V) (d : PyData), vs = [v] ∧ Dp K H v d ∧ (∀ t m r H', numOf d = some (t, m) → Same H H' → Dp K H' r (rat t m) → Q r H') ∧
  (numOf d = none → ∀ dx H', Same H H' → H' dx = some (.xd [("value", v)]) → E (.ref C) (some dx) H')
/-- top / bottom in lowest terms -/
def nt (t m : Int) : Int := (if m < 0 then -t else t) / (Int.gcd t m : Int)
def nb (t m : Int) : Int := (m.natAbs : Int) / (Int.gcd t m : Int)
theorem gcd_pos {t m : Int} (h : m ≠ 0) : 0 < (Int.gcd t m : Int) := by
  have := Int.gcd_pos_of_ne_zero_right t h
  omega
theorem gcd_le {t m : Int} (h : m ≠ 0) : Int.gcd t m ≤ m.natAbs := Nat.le_of_dvd (by omega) (Nat.gcd_dvd_right t.natAbs m.natAbs)
theorem gcd_log {t m : Int} (h : m ≠ 0) (hB : m.natAbs < 2 ^ 8000) : (Int.gcd t m : Int).natAbs.log2 < 9000 :=
  Nat.lt_trans (PySem.Flt.log2_lt_of (by decide) (show (Int.gcd t m : Int).natAbs < 2 ^ 8000 from Nat.lt_of_le_of_lt (gcd_le h) hB)) (by decide)
theorem nt_pos {t m : Int} (h : ¬ m < 0) (g : 0 < (Int.gcd t m : Int)) : t.fdiv (Int.gcd t m : Int) = nt t m := by
  unfold nt
  rw [if_neg h, Int.fdiv_eq_ediv_of_nonneg _ (by omega)]
theorem nb_pos {t m : Int} (h : ¬ m < 0) (g : 0 < (Int.gcd t m : Int)) : m.fdiv (Int.gcd t m : Int) = nb t m := by
  unfold nb
  rw [Int.fdiv_eq_ediv_of_nonneg _ (by omega), show (m.natAbs : Int) = m by omega]
theorem nt_neg {t m : Int} (h : m < 0) (g : 0 < (Int.gcd t m : Int)) : t.fdiv (-(Int.gcd t m : Int)) = nt t m := by
  unfold nt
  rw [if_pos h, ← Int.fdiv_eq_ediv_of_nonneg _ (by omega), ← Int.neg_fdiv_neg, Int.neg_neg]
theorem nb_neg {t m : Int} (h : m < 0) (g : 0 < (Int.gcd t m : Int)) : m.fdiv (-(Int.gcd t m : Int)) = nb t m := by
  unfold nb
  rw [show (m.natAbs : Int) = -m by omega, ← Int.fdiv_eq_ediv_of_nonneg _ (by omega), ← Int.neg_fdiv_neg, Int.neg_neg]
def spRatio (C : Addr) : Sp := fun vs H Q E => ∃ t m : Int, vs = [.int t, .int m] ∧ (m ≠ 0 → (Int.gcd t m : Int).natAbs.log2 < 9000) ∧ (m ≠ 0 → ∀ p H', Same H H' → H' p = some (.tup [.int (nt t m), .int (nb t m)]) → Q (.ref p) H') ∧ (m = 0 → E (.ref C) none H)
theorem ratOf_is {d : PyData} {z : Int × Int} (h : ratOf d = some z) : d = rat z.1 z.2 := by
  unfold ratOf at h
  split at h
  · unfold rat2 at h
    split at h
    · rename_i a b
      cases a <;> first | cases h | skip
      cases b <;> first | cases h | skip
      rename_i x y
      simp only [intOf] at h
      split at h
      · cases h
        rfl
      · cases h
    · cases h
  · cases h
structure Gt (mg : Str → Option Value) : Prop where
  g_gcd : mg "gcd" = some (.builtin "math.gcd")
section
variable {P : Program} {w : World} {K : PySem.W.Frag} {mg : Str → Option Value} {base : Heap}
theorem ok_is_whole (T : Bt mg) (D : Df K mg "is_whole" s_is_whole ["value"]) : Kn P w K mg base CX0 "is_whole" 1 ["value"] (spD K wholeD) := by
  obtain ⟨f, fd, F, hm, hb⟩ := D
  refine ⟨f, fd, F.ok sc_is_whole (fun vs H Q E h => ?_) (fun cdv A outer s H vs Q E hr h => ?_), hm, F.kp, hb⟩
  · obtain ⟨v, d, rfl, _⟩ := h
    rfl
  · obtain ⟨v, d, rfl, hd, q⟩ := h
    refine ⟨_, (pss_one (ps_ret (pe_and (pe_callB (cr_isi (K := K) rfl) (by rfl) T.n_isinstance (by decide +kernel) (pa_cons (pv 0) (pa_cons (pe_bltn (v := .ty "int") (by rfl) T.n_int (by decide +kernel) rfl) pa_nil))) (pe_one (pe_not (pe_callB (cr_isi (K := K) rfl) (by rfl) T.n_isinstance (by decide +kernel) (pa_cons (pv 0) (pa_cons (pe_bltn (v := .ty "bool") (by rfl) T.n_bool (by decide +kernel) rfl) pa_nil)))))))), ?_⟩
    have q0 := q H (Same.refl H)
    refine ⟨_, rfl, _, _, _, _, _, rfl, .ty _, dp_ty hd, kit_ty (kb_int d), _, rfl, ?_⟩
    refine ite2 (fun c => ?_) (fun c => ?_)
    · refine ⟨_, rfl, _, _, _, _, _, rfl, .ty _, dp_ty hd, kit_ty (kb_bool d), _, rfl, ?_⟩
      have e : (!isBool d) = wholeD d := by cases d <;> first | rfl | cases c
      rw [e]
      exact q0
    · have e : false = wholeD d := by cases d <;> first | rfl | exact absurd rfl c
      rw [e]
      exact q0
theorem ok_is_ratio (T : Bt mg) (Tg : Gt mg) (GW : Kn P w K mg base CX0 "is_whole" 1 ["value"] (spD K wholeD)) (D : Df K mg "is_ratio" s_is_ratio ["value"]) : Kn P w K mg base CX0 "is_ratio" 2 ["value"] (spD K isRat) := by
  obtain ⟨f, fd, F, hm, hb⟩ := D
  obtain ⟨f_is_whole, fd_is_whole, G_is_whole, m_is_whole, k_is_whole, b_is_whole⟩ := GW
  refine ⟨f, fd, F.ok sc_is_ratio (fun vs H Q E h => ?_) (fun cdv A outer s H vs Q E hr h => ?_), hm, F.kp, hb⟩
  · obtain ⟨v, d, rfl, _⟩ := h
    rfl
  · obtain ⟨v, d, rfl, hd, q⟩ := h
    refine ⟨_, (pss_cons (ps_if (PW.pt (pw_or (pt_not (pt_val (pe_callB (cr_isi (K := K) rfl) (by rfl) T.n_isinstance (by decide +kernel) (pa_cons (pv 0) (pa_cons (pe_bltn (v := .ty "tuple") (by rfl) T.n_tuple (by decide +kernel) rfl) pa_nil))))) (pw_or1 (pt_cmpR op_ne (pe_callB call_len_seq (by rfl) T.n_len (by decide +kernel) (pa_cons (pv 0) pa_nil)) pe_int (nomark _))))) (pss_one (ps_ret pe_bl)) pss_nil)
      (pss_cons (ps_asg (pv 0) (pg_tup (by rfl) (pgs_cons (pg_name (i := 1) sc_is_ratio.nd rfl (Or.inl rfl)) (pgs_cons (pg_name (i := 2) sc_is_ratio.nd rfl (Or.inl rfl)) pgs_nil))))
      (pss_cons (ps_if (PW.pt (pw_or (pt_not (pt_val (pe_call G_is_whole (hr.mono (by omega)) rfl m_is_whole k_is_whole b_is_whole .nil pass0 (pa_cons (pv 1) pa_nil)))) (pw_or (pt_not (pt_val (pe_call G_is_whole (hr.mono (by omega)) rfl m_is_whole k_is_whole b_is_whole .nil pass0 (pa_cons (pv 2) pa_nil)))) (pw_or1 (pt_cmpR op_lt (pv 2) pe_int (nomark _)))))) (pss_one (ps_ret pe_bl)) pss_nil)
      (pss_one (ps_ret (pe_cmpR op_eq (pe_callBfun cr_gcd rfl Tg.g_gcd (pa_cons (pv 1) (pa_cons (pv 2) pa_nil))) pe_int (nomark _))))))), ?_⟩
    refine ⟨_, rfl, _, _, _, _, _, rfl, .ty _, dp_ty hd, kit_ty (kb_tup d), _, rfl, ?_⟩
    refine ite2 (fun c => ?_) (fun c => ?_)
    · have e : isRat d = false := by cases d <;> first | rfl | cases c
      have q0 := q H (Same.refl H)
      rw [e] at q0
      exact q0
    · obtain ⟨ds, rfl⟩ : ∃ ds, d = .tuple ds := by cases d <;> first | exact ⟨_, rfl⟩ | exact absurd rfl c
      cases hd with
      | @tup a xs _ hs ha =>
        have hl := dps_len ha
        refine ⟨_, rfl, a, _, rfl, .inr hs, rfl, _, rfl, ?_⟩
        refine ite2 (fun c2 => ?_) (fun c2 => ?_)
        · have e : isRat (.tuple ds) = false := by
            match ds, xs, hl, c2 with
            | [], _, _, _ => rfl
            | [_], _, _, _ => rfl
            | [_, _], xs, hl, c2 =>
              have hl2 : xs.length = 2 := hl
              rw [hl2] at c2
              exact absurd c2 (by decide)
            | _ :: _ :: _ :: _, _, _, _ => rfl
          have q0 := q H (Same.refl H)
          rw [e] at q0
          exact q0
        · have h2 : xs.length = 2 := by
            by_cases z : (xs.length : Int) = 2
            · omega
            · exact absurd (by simp [z]) c2
          obtain ⟨d1, d2, rfl⟩ : ∃ d1 d2, ds = [d1, d2] := by
            rw [h2] at hl
            match ds, hl with
            | [d1, d2], _ => exact ⟨d1, d2, rfl⟩
          cases ha with
          | @cons x1 _ _ _ h1 ha =>
            cases ha with
            | @cons x2 _ _ _ hx2 ha =>
              cases ha
              refine ⟨_, rfl, a, _, rfl, hs, rfl, x1, _, rfl, x2, _, rfl, rfl, ?_⟩
              refine ⟨_, rfl, x1, d1, rfl, h1, fun H1 s1 => ⟨_, rfl, ?_⟩⟩
              refine ite2 (fun c3 => ?_) (fun c3 => ?_)
              · have e : isRat (.tuple [d1, d2]) = false := by cases d1 <;> first | rfl | cases c3
                have q0 := q H1 s1
                rw [e] at q0
                exact q0
              · obtain ⟨t, rfl⟩ : ∃ t, d1 = .int t := by cases d1 <;> first | exact ⟨_, rfl⟩ | exact absurd rfl c3
                refine ⟨_, rfl, x2, d2, rfl, dp_same s1 _ _ hx2, fun H2 s2 => ⟨_, rfl, ?_⟩⟩
                refine ite2 (fun c4 => ?_) (fun c4 => ?_)
                · have e : isRat (.tuple [.int t, d2]) = false := by cases d2 <;> first | rfl | cases c4
                  have q0 := q H2 (s1.trans s2)
                  rw [e] at q0
                  exact q0
                · obtain ⟨m, rfl⟩ : ∃ m, d2 = .int m := by cases d2 <;> first | exact ⟨_, rfl⟩ | exact absurd rfl c4
                  cases h1
                  cases hx2
                  refine ⟨_, rfl, _, _, rfl, rfl, _, rfl, ?_⟩
                  refine ite2 (fun c5 => ?_) (fun c5 => ?_)
                  · have c6 : m < 1 := of_decide_eq_true c5
                    have e : isRat (.tuple [.int t, .int m]) = false := by
                      show (if 1 ≤ m ∧ Int.gcd t m = 1 then some (t, m) else none).isSome = false
                      rw [if_neg (by omega)]
                      rfl
                    have q0 := q H2 (s1.trans s2)
                    rw [e] at q0
                    exact q0
                  · have c6 : ¬ m < 1 := of_decide_eq_false (Bool.eq_false_iff.mpr c5)
                    refine ⟨_, rfl, _, rfl, _, _, rfl, rfl, ?_⟩
                    have e : isRat (.tuple [.int t, .int m]) = decide ((V.int ((Nat.gcd t.natAbs m.natAbs : Nat) : Int)) = V.int 1) := by
                      show (if 1 ≤ m ∧ Int.gcd t m = 1 then some (t, m) else none).isSome = _
                      have g : Int.gcd t m = Nat.gcd t.natAbs m.natAbs := rfl
                      rw [g]
                      by_cases z : Nat.gcd t.natAbs m.natAbs = 1
                      · rw [if_pos ⟨by omega, z⟩, z]
                        rfl
                      · rw [if_neg (fun y => z y.2)]
                        symm
                        apply decide_eq_false
                        intro y
                        injection y with y
                        omega
                    have q0 := q H2 (s1.trans s2)
                    rw [e] at q0
                    exact q0
theorem ok_errinit {x : Str} {C f : Addr} {fd : FuncData} (F : Fun K "__init__" x s_InvalidNumber_init f fd) (ox : OexC K C) (no : PySem.W.findIn K (.ref C) "value" = some none) : FnOk P w K mg base CX0 1 f fd ["self", "value"] (spErrInit C "value") := by
  refine F.ok sc_InvalidNumber_init (fun vs H Q E h => ?_) (fun cdv A outer s H vs Q E hr h => ?_)
  · obtain ⟨e, v, rfl, _⟩ := h
    rfl
  · obtain ⟨e, v, rfl, he, q⟩ := h
    refine ⟨_, pss_one (ps_ost (pv 0) (pv 1)), ?_⟩
    exact ⟨_, rfl, _, rfl, e, C, rfl, ox, no, .inl ⟨he, fun dx h1 h2 => q dx h1 h2⟩⟩
theorem ok_as_ratio {C : Addr} (T : Bt mg) (Ti : ErrF P w K mg base "InvalidNumber" "value" C) (GW : Kn P w K mg base CX0 "is_whole" 1 ["value"] (spD K wholeD)) (GR : Kn P w K mg base CX0 "is_ratio" 2 ["value"] (spD K isRat)) (D : Df K mg "as_ratio" s_as_ratio ["value"]) :
    Kn P w K mg base (L2.CX P w) "as_ratio" 3 ["value"] (spAsRatio K C) := by
  obtain ⟨f, fd, F, hm, hb⟩ := D
  obtain ⟨f_is_whole, fd_is_whole, G_is_whole, m_is_whole, k_is_whole, b_is_whole⟩ := GW
  obtain ⟨f_is_ratio, fd_is_ratio, G_is_ratio, m_is_ratio, k_is_ratio, b_is_ratio⟩ := GR
  obtain ⟨fI, fdI, iC, tI, F1, b1⟩ := Ti.ini
  refine ⟨f, fd, F.okX sc_as_ratio (fun vs H Q E h => ?_) (fun cdv A outer s H vs Q E hr h => ?_), hm, F.kp, hb⟩
  · obtain ⟨v, d, rfl, _⟩ := h
    rfl
  · obtain ⟨v, d, rfl, hd, q1, q2⟩ := h
    refine ⟨_, (pss_cons (ps_if (pt_val (pe_call G_is_whole (hr.mono (by omega)) rfl m_is_whole k_is_whole b_is_whole .nil pass0 (pa_cons (pv 0) pa_nil))) (pss_one (ps_ret (pe_tup (pa_cons (pv 0) (pa_cons pe_int pa_nil))))) pss_nil)
      (pss_cons (ps_if (pt_not (pt_val (pe_call G_is_ratio (hr.mono (by omega)) rfl m_is_ratio k_is_ratio b_is_ratio .nil pass0 (pa_cons (pv 0) pa_nil)))) (pss_one (ps_raise rfl (takes_of rfl rfl rfl rfl) (pmk_oex Ti.ox iC tI F1 (hr.mono (by omega)) b1 .nil pass0 rfl Ti.gC (pa_cons (pv 0) pa_nil)))) pss_nil)
      (pss_one (ps_ret (pv 0))))), ?_⟩
    refine ⟨_, rfl, v, d, rfl, hd, fun H1 s1 => ⟨_, rfl, ?_⟩⟩
    have hd1 := dp_same s1 _ _ hd
    refine ite2 (fun c => ?_) (fun c => ?_)
    · obtain ⟨t, rfl⟩ : ∃ t, d = .int t := by cases d <;> first | exact ⟨_, rfl⟩ | cases c
      cases hd
      refine ⟨_, rfl, (by show 2 ≤ sizeLine; decide), fun p np => ?_⟩
      exact q1 t 1 _ _ rfl (s1.trans (same_new np _)) (dp_rat upd_same)
    · refine ⟨_, rfl, v, d, rfl, hd1, fun H2 s2 => ⟨_, rfl, ?_⟩⟩
      refine ite2 (fun c2 => ?_) (fun c2 => ?_)
      · have e : numOf d = none := by
          cases hr : ratOf d with
          | some z =>
            unfold isRat at c2
            rw [hr] at c2
            cases c2
          | none =>
            cases d <;> first | exact hr | exact absurd rfl c
        refine ⟨_, rfl, (by show 1 ≤ 1000; decide), fun a na => ?_⟩
        refine ⟨a, v, rfl, upd_same, fun dx hdx nx => ⟨rfl, dx, [("value", v)], upd_same, ?_, ?_, ?_⟩⟩
        · rw [upd_ne nx, upd_same]
        · rw [upd_ne nx] at hdx
          exact hdx
        · rw [upd_ne nx] at hdx
          refine q2 e dx _ (s1.trans (s2.trans fun b o hbo => ?_)) upd_same
          have n1 : b ≠ a := ne_of_none hbo na
          have n2 : b ≠ dx := ne_of_none hbo hdx
          rw [upd_ne n2, del_ne n1, upd_ne n1, upd_ne n2, upd_ne n1]
          exact hbo
      · refine ⟨_, rfl, ?_⟩
        obtain ⟨t, m, hr, rfl⟩ : ∃ t m, ratOf d = some (t, m) ∧ d = rat t m := by
          cases hr : ratOf d with
          | none =>
            unfold isRat at c2
            rw [hr] at c2
            exact absurd rfl c2
          | some z => exact ⟨z.1, z.2, rfl, ratOf_is hr⟩
        exact q1 t m _ _ hr (s1.trans s2) (dp_same s2 _ _ hd1)
end

section
variable {P : Program} {w : World} {K : PySem.W.Frag} {mg : Str → Option Value} {base : Heap}
theorem ok_ratio {C : Addr} (T : Bt mg) (Tg : Gt mg) (Tz : ErrZ K mg "ZeroBottom" C) (D : Df1 K mg "ratio" s_ratio ["top", "bottom"]) : Kn1 P w K mg base (L2.CX P w) "ratio" 1 ["top", "bottom"] (spRatio C) := by
  obtain ⟨f, fd, F, hm, hb, hb1⟩ := D
  refine ⟨f, fd, F.ok sc_ratio (fun vs H Q E h => ?_) (fun cdv A outer s H vs Q E hr h => ?_), hm, F.kp, hb, hb1⟩
  · obtain ⟨t, m, rfl, _⟩ := h
    rfl
  · obtain ⟨t, m, rfl, hB, q1, q2⟩ := h
    refine ⟨_, (pss_cons (ps_if (pt_cmpR op_eq (pv 1) pe_int (nomark _)) (pss_one (ps_raise rfl (takes_of rfl rfl rfl rfl) (pmk_own0 PySem.F.excBase_ValueError Tz.xP Tz.gP Tz.kP (raises_own Tz.bP Tz.tP) rfl))) pss_nil)
      (pss_cons (ps_set (i := 2) sc_ratio.nd rfl (Or.inl rfl) (pe_callBfun cr_gcd rfl Tg.g_gcd (pa_cons (pv 0) (pa_cons (pv 1) pa_nil))))
      (pss_cons (ps_if (pt_cmpR op_lt (pv 1) pe_int (nomark _)) (pss_one (ps_set (i := 2) sc_ratio.nd rfl (Or.inl rfl) (pe_un un_neg (pv 2)))) pss_nil)
      (pss_one (ps_ret (pe_tup (pa_cons (pe_op op_fdivWN (pv 0) (pv 2)) (pa_cons (pe_op op_fdivWN (pv 1) (pv 2)) pa_nil)))))))), ?_⟩
    refine ⟨_, rfl, rfl, _, rfl, ?_⟩
    refine ite2 (fun c => ?_) (fun c => ?_)
    · have e : m = 0 := by
        have z := of_decide_eq_true c
        injection z
      exact q2 e
    · have e : m ≠ 0 := fun z => c (by rw [z]; rfl)
      refine ⟨_, rfl, _, rfl, _, _, rfl, ?_⟩
      have g0 : (Int.gcd t m : Int) = ((Nat.gcd t.natAbs m.natAbs : Nat) : Int) := rfl
      rw [← g0]
      have gp := gcd_pos (t := t) e
      have gl := hB e
      refine ⟨_, rfl, _, _, rfl, rfl, _, rfl, ?_⟩
      refine ite2 (fun c2 => ?_) (fun c2 => ?_)
      · have c3 : m < 0 := of_decide_eq_true c2
        refine ⟨_, rfl, _, rfl, ?_⟩
        refine ⟨_, rfl, _, rfl, _, _, rfl, rfl, ⟨by omega, by rw [Int.natAbs_neg]; exact gl⟩, _, rfl, _, rfl, _, _, rfl, rfl, ⟨by omega, by rw [Int.natAbs_neg]; exact gl⟩, (by show 2 ≤ sizeLine; decide), fun p np => ?_⟩
        refine q1 e p _ (same_new np _) ?_
        rw [upd_same, ← nt_neg c3 gp, ← nb_neg c3 gp]
      · have c3 : ¬ m < 0 := of_decide_eq_false (Bool.eq_false_iff.mpr c2)
        refine ⟨_, rfl, _, rfl, _, _, rfl, rfl, ⟨by omega, gl⟩, _, rfl, _, rfl, _, _, rfl, rfl, ⟨by omega, gl⟩, (by show 2 ≤ sizeLine; decide), fun p np => ?_⟩
        refine q1 e p _ (same_new np _) ?_
        rw [upd_same, ← nt_pos c3 gp, ← nb_pos c3 gp]
end

/-! ### the law's own draws and checks -/
theorem map_get {ns : List Int} {i : Nat} {x : V} (h : (ns.map V.int)[i]? = some x) : ∃ z, ns[i]? = some z ∧ x = V.int z := by
  rw [List.getElem?_map] at h
  cases e : ns[i]? with
  | none =>
    rw [e] at h
    cases h
  | some z =>
    rw [e] at h
    exact ⟨z, rfl, (Option.some.inj h).symm⟩
theorem take_more {α : Type} : ∀ {l : List α} {i : Nat} {x : α}, l[i]? = some x → l.take (i + 1) = l.take i ++ [x]
  | [], i, x, h => by simp at h
  | a :: l, 0, x, h => by
    have e := Option.some.inj h
    subst e
    rfl
  | a :: l, i + 1, x, h => congrArg (a :: ·) (take_more (l := l) (i := i) h)
theorem same_upd {H H1 : Hp} {D : Addr} {o : HO} (s : Same H H1) (h : H D = none) : Same H (upd H1 D o) := fun b u q => by
  rw [upd_ne (ne_of_none q h)]
  exact s _ _ q
theorem get_lt {α : Type} {l : List α} {i : Nat} {x : α} (h : l[i]? = some x) : i < l.length := (List.getElem?_eq_some_iff.mp h).1
/-- an item of a list at a drawn place -/
theorem at_lt {xs : List V} {r : Int} (h0 : 0 ≤ r) (h1 : r < xs.length) : ∃ v, v ∈ xs ∧ atI xs r = some v := by
  obtain ⟨k, rfl⟩ : ∃ k : Nat, r = (k : Int) := ⟨r.toNat, by omega⟩
  have hk : k < xs.length := by omega
  exact ⟨xs[k], List.getElem_mem hk, atI_nat (List.getElem?_eq_getElem hk)⟩
def mk (b g : Addr) (H : Hp) : Hp := fun a => if a = b ∨ a = g then none else H a
theorem mk_sub (b g : Addr) (H : Hp) : Same (mk b g H) H := fun a o h => by
  unfold mk at h
  split at h
  · cases h
  · exact h
theorem mk_but {b g : Addr} {H H' : Hp} (x : But b g H H') : Same (mk b g H) (mk b g H') := fun a o h => by
  unfold mk at h ⊢
  split at h
  · cases h
  · rename_i z
    rw [if_neg z]
    exact x a o h (fun y => z (.inl y)) (fun y => z (.inr y))
theorem mk_new {H : Hp} {b g c p : Addr} {n : Nat} {o : HO} (B : Box H b g c n) (np : H p = none) : mk b g (upd H p o) p = some o := by
  obtain ⟨gs, cs, cur, m, B, _⟩ := B
  unfold mk
  rw [if_neg (fun y => y.elim (fun e => by rw [e, B.hb] at np; cases np) (fun e => by rw [e, B.hg] at np; cases np)), upd_same]
theorem mk_tup {H : Hp} {b g c p : Addr} {n : Nat} {xs : List V} (B : Box H b g c n) (h : H p = some (.tup xs)) : mk b g H p = some (.tup xs) := by
  obtain ⟨gs, cs, cur, m, B, _⟩ := B
  unfold mk
  rw [if_neg (fun y => y.elim (fun e => by rw [e, B.hb] at h; cases h) (fun e => by rw [e, B.hg] at h; cases h)), h]
theorem But.tup {H H' : Hp} {b g c p : Addr} {n : Nat} {xs : List V} (x : But b g H H') (B : Box H b g c n) (h : H p = some (.tup xs)) : H' p = some (.tup xs) := by
  obtain ⟨gs, cs, cur, m, B, _⟩ := B
  exact x p _ h (fun e => by rw [e, B.hb] at h; cases h) (fun e => by rw [e, B.hg] at h; cases h)
def spLRatio : Sp := fun vs H Q _ => ∃ t m : Int, vs = [.int t, .int m] ∧ m ≠ 0 ∧ m.natAbs < 2 ^ 8000 ∧ ∀ p H', Same H H' → H' p = some (.tup [.int (nt t m), .int (nb t m)]) → Q (.ref p) H'
section
variable {P : Program} {w : World} {K : PySem.W.Frag} {mg : Str → Option Value} {base : Heap}
theorem ok_box (D : Df K mg "_law_box" s_l_box ["_law_script"]) : Kn P w K mg base CX0 "_law_box" 1 ["_law_script"] (spBox K) := by
  obtain ⟨f, fd, F, hm, hb⟩ := D
  refine ⟨f, fd, F.ok sc_l_box (fun vs H Q E h => ?_) (fun cdv A outer s H vs Q E hr h => ?_), hm, F.kp, hb⟩
  · obtain ⟨a, ns, rfl, _⟩ := h
    rfl
  · obtain ⟨a, ns, rfl, hS, hl, q⟩ := h
    refine ⟨_, (pss_cons (ps_setLc (i := 1) (own := [("_law_cell", 2)]) rfl sc_l_box.nd rfl rfl (sw_true rfl rfl rfl (by decide +kernel)) (pi_list (pv 0)) (blkOk_by (N := ["_law_script", "_law_great", "_law_cell"]) (sc := defScope s_l_box) (by decide +kernel)) (fun _ _ _ _ _ => (pg_name (i := 2) sc_l_box.nd rfl (Or.inl rfl))) (fun _ _ _ _ _ => (pts_one (pt_cmpR op_ge (pv 2) (pe_op op_powB pe_int pe_int) (nomark _)))) (fun _ _ _ _ _ => (pv 2)))
      (pss_one (ps_ret (pe_lst (pa_cons (pv 1) (pa_cons pe_int (pa_cons (pe_lc (own := [("_law_cell", 2)]) rfl sc_l_box.nd (pi_list (pv 0)) (blkOk_by (N := ["_law_script", "_law_great", "_law_cell"]) (sc := defScope s_l_box) (by decide +kernel)) (fun _ _ _ _ _ => (pg_name (i := 2) sc_l_box.nd rfl (Or.inl rfl))) (fun _ _ _ _ _ => (pts_one (pt_cmpR op_lt (pv 2) (pe_op op_powB pe_int pe_int) (nomark _)))) (fun _ _ _ _ _ => (pv 2))) (pa_cons pe_int pa_nil)))))))), ?_⟩
    refine ⟨_, rfl, a, rfl, ⟨_, hS⟩, fun D hD => ?_⟩
    refine lc_list (K := K) (a := a) (xs := ns.map V.int) (fun i H' => Same H H' ∧ ∃ acc : List Int, H' D = some (.lst (acc.map V.int)) ∧ acc.length ≤ i) ⟨same_new hD _, [], upd_same, Nat.le_refl _⟩ (fun i H' _ h => h.1.seq hS) ?_ ?_
    · rintro i x H1 hx ⟨s1, acc, hacc, hlen⟩
      obtain ⟨z, hz, rfl⟩ := map_get hx
      have hi := get_lt hz
      refine ⟨rfl, _, rfl, _, _, rfl, rfl, ⟨by decide, by decide +kernel⟩, _, _, rfl, rfl, _, rfl, ?_⟩
      refine ite2 (fun _ => ?_) (fun _ => ?_)
      · refine ⟨_, rfl, _, hacc, (by rw [List.length_map]; exact small1000 (by omega)), same_upd s1 hD, acc ++ [z], (by rw [upd_same, List.map_append]; rfl), by rw [List.length_append]; exact Nat.succ_le_succ hlen⟩
      · exact ⟨s1, acc, hacc, by omega⟩
    · rintro H1 ⟨s1, gs, hg, hgl⟩
      rw [List.length_map] at hgl
      refine ⟨_, rfl, _, rfl, a, rfl, ⟨_, s1.seq hS⟩, fun D2 hD2 => ?_⟩
      refine lc_list (K := K) (a := a) (xs := ns.map V.int) (fun i H' => Same H1 H' ∧ ∃ acc : List Int, H' D2 = some (.lst (acc.map V.int)) ∧ acc.length ≤ i) ⟨same_new hD2 _, [], upd_same, Nat.le_refl _⟩ (fun i H' _ h => (s1.trans h.1).seq hS) ?_ ?_
      · rintro i x H2 hx ⟨s2, acc, hacc, hlen⟩
        obtain ⟨z, hz, rfl⟩ := map_get hx
        have hi := get_lt hz
        refine ⟨rfl, _, rfl, _, _, rfl, rfl, ⟨by decide, by decide +kernel⟩, _, _, rfl, rfl, _, rfl, ?_⟩
        refine ite2 (fun _ => ?_) (fun _ => ?_)
        · refine ⟨_, rfl, _, hacc, (by rw [List.length_map]; exact small1000 (by omega)), same_upd s2 hD2, acc ++ [z], (by rw [upd_same, List.map_append]; rfl), by rw [List.length_append]; exact Nat.succ_le_succ hlen⟩
        · exact ⟨s2, acc, hacc, by omega⟩
      · rintro H2 ⟨s2, cs, hc, hcl⟩
        rw [List.length_map] at hcl
        refine ⟨(by show 4 ≤ sizeLine; decide), fun p np => ?_⟩
        have hg2 := s2 _ _ hg
        have n1 : p ≠ D := (ne_of_none hg2 np).symm
        have n2 : p ≠ D2 := (ne_of_none hc np).symm
        have n3 : D ≠ D2 := ne_of_none hg hD2
        refine q p D D2 _ ⟨gs, cs, 0, 0, ⟨upd_same, by rw [upd_ne n1.symm]; exact hg2, by rw [upd_ne n2.symm]; exact hc, n1, n2, n3, by decide, by omega, by omega⟩, by decide⟩ ((s1.trans s2).trans (same_new np _)) ((s1.trans s2).free np) hD (s1.free hD2)
theorem ok_lratio (GS : Kn P w K mg base CX0 "_law_shared" 1 ["_law_one", "_law_other"] spShared) (D : Df K mg "_law_ratio" s_l_ratio ["_law_top", "_law_bottom"]) : Kn P w K mg base CX0 "_law_ratio" 2 ["_law_top", "_law_bottom"] spLRatio := by
  obtain ⟨f, fd, F, hm, hb⟩ := D
  obtain ⟨f_l_shared, fd_l_shared, G_l_shared, m_l_shared, k_l_shared, b_l_shared⟩ := GS
  refine ⟨f, fd, F.ok sc_l_ratio (fun vs H Q E h => ?_) (fun cdv A outer s H vs Q E hr h => ?_), hm, F.kp, hb⟩
  · obtain ⟨t, m, rfl, _⟩ := h
    rfl
  · obtain ⟨t, m, rfl, h0, hB, q⟩ := h
    refine ⟨_, (C8.pss_cut (ps_if (pt_cmpR op_lt (pv 1) pe_int (nomark _)) (pss_one (ps_par (i := 0) (j := 1) (by rfl) sc_l_ratio.nd rfl rfl (by decide) rfl rfl (pa_cons (pe_op op_sub pe_int (pv 0)) (pa_cons (pe_op op_sub pe_int (pv 1)) pa_nil)) (by rfl))) pss_nil)
      (pss_cons (ps_set (i := 2) sc_l_ratio.nd rfl (Or.inl rfl) (pe_call G_l_shared (hr.mono (by omega)) rfl m_l_shared k_l_shared b_l_shared .nil pass0 (pa_cons (pv 0) (pa_cons (pv 1) pa_nil))))
      (pss_one (ps_ret (pe_tup (pa_cons (pe_op op_fdivW (pv 0) (pv 2)) (pa_cons (pe_op op_fdivW (pv 1) (pv 2)) pa_nil))))))), ?_⟩
    refine ⟨fun σ H' => H' = H ∧ σ = [some (.int (if m < 0 then -t else t)), some (.int (m.natAbs : Int)), none], ?_, ?_⟩
    · refine ⟨_, rfl, _, _, rfl, rfl, _, rfl, ?_⟩
      refine ite2 (fun c => ?_) (fun c => ?_)
      · have c3 : m < 0 := of_decide_eq_true c
        refine ⟨_, rfl, _, _, rfl, rfl, _, rfl, _, _, rfl, rfl, _, _, rfl, rfl, ?_⟩
        rw [if_pos c3, show -t = 0 - t by omega, show (m.natAbs : Int) = 0 - m by omega]
        rfl
      · have c3 : ¬ m < 0 := of_decide_eq_false (Bool.eq_false_iff.mpr c)
        refine ⟨rfl, ?_⟩
        rw [if_neg c3, show (m.natAbs : Int) = m by omega]
        rfl
    · rintro σ H' ⟨rfl, rfl⟩
      have e : (Int.gcd (if m < 0 then -t else t) (m.natAbs : Int) : Int) = (Int.gcd t m : Int) := by
        unfold Int.gcd
        split <;> simp
      refine ⟨_, rfl, _, rfl, _, _, rfl, ?_⟩
      rw [e]
      have gp := gcd_pos (t := t) h0
      have gB : (Int.gcd t m : Int).natAbs < 2 ^ 8000 := Nat.lt_of_le_of_lt (gcd_le h0) hB
      refine ⟨_, rfl, _, rfl, _, _, rfl, rfl, wide_div gp gB (by decide) (by decide), _, rfl, _, rfl, _, _, rfl, rfl, wide_div gp gB (by decide) (by decide), (by show 2 ≤ sizeLine; decide), fun p np => ?_⟩
      exact q p _ (same_new np _) upd_same
end

section
variable {P : Program} {w : World} {K : PySem.W.Frag} {mg : Str → Option Value} {base : Heap}
theorem ok_lis_ratio (T : Bt mg) (GS : Kn P w K mg base CX0 "_law_shared" 1 ["_law_one", "_law_other"] spShared) (D : Df K mg "_law_is_ratio" s_l_is_ratio ["_law_value"]) : Kn P w K mg base CX0 "_law_is_ratio" 2 ["_law_value"] (spD K isRat) := by
  obtain ⟨f, fd, F, hm, hb⟩ := D
  obtain ⟨f_l_shared, fd_l_shared, G_l_shared, m_l_shared, k_l_shared, b_l_shared⟩ := GS
  refine ⟨f, fd, F.ok sc_l_is_ratio (fun vs H Q E h => ?_) (fun cdv A outer s H vs Q E hr h => ?_), hm, F.kp, hb⟩
  · obtain ⟨v, d, rfl, _⟩ := h
    rfl
  · obtain ⟨v, d, rfl, hd, q⟩ := h
    refine ⟨_, (pss_cons (ps_if (PW.pt (pw_or (pt_not (pt_val (pe_callB (cr_isi (K := K) rfl) (by rfl) T.n_isinstance (by decide +kernel) (pa_cons (pv 0) (pa_cons (pe_bltn (v := .ty "tuple") (by rfl) T.n_tuple (by decide +kernel) rfl) pa_nil))))) (pw_or1 (pt_cmpR op_ne (pe_callB call_len_seq (by rfl) T.n_len (by decide +kernel) (pa_cons (pv 0) pa_nil)) pe_int (nomark _))))) (pss_one (ps_ret pe_bl)) pss_nil)
      (pss_cons (ps_if (pt_val (pe_callB (cr_any rfl) (by rfl) T.n_any (by decide +kernel) (pa_cons (pe_lc (own := [("_law_part", 1)]) rfl sc_l_is_ratio.nd (pi_tup (pv 0)) (blkOk_by (N := ["_law_value", "_law_part"]) (sc := defScope s_l_is_ratio) (by decide +kernel)) (fun _ _ _ _ _ => (pg_name (i := 1) sc_l_is_ratio.nd rfl (Or.inl rfl))) (fun _ _ _ _ _ => pts_nil) (fun _ _ _ _ _ => (pe_or (pe_callB (cr_isi (K := K) rfl) (by rfl) T.n_isinstance (by decide +kernel) (pa_cons (pv 1) (pa_cons (pe_bltn (v := .ty "bool") (by rfl) T.n_bool (by decide +kernel) rfl) pa_nil))) (pe_one (pe_not (pe_callB (cr_isi (K := K) rfl) (by rfl) T.n_isinstance (by decide +kernel) (pa_cons (pv 1) (pa_cons (pe_bltn (v := .ty "int") (by rfl) T.n_int (by decide +kernel) rfl) pa_nil)))))))) pa_nil))) (pss_one (ps_ret pe_bl)) pss_nil)
      (pss_one (ps_ret (pe_and (pe_cmpR op_gt (pe_ix ix_tup (pv 0) pe_int (fun _ _ => rfl)) pe_int (nomark _)) (pe_one (pe_cmpR op_eq (pe_call G_l_shared (hr.mono (by omega)) rfl m_l_shared k_l_shared b_l_shared .nil pass0 (pa_cons (pe_ix ix_tup (pv 0) pe_int (fun _ _ => rfl)) (pa_cons (pe_ix ix_tup (pv 0) pe_int (fun _ _ => rfl)) pa_nil))) pe_int (nomark _)))))))), ?_⟩
    refine ⟨_, rfl, _, _, _, _, _, rfl, .ty _, dp_ty hd, kit_ty (kb_tup d), _, rfl, ?_⟩
    refine ite2 (fun c => ?_) (fun c => ?_)
    · have e : isRat d = false := by cases d <;> first | rfl | cases c
      have q0 := q H (Same.refl H)
      rw [e] at q0
      exact q0
    · obtain ⟨ds, rfl⟩ : ∃ ds, d = .tuple ds := by cases d <;> first | exact ⟨_, rfl⟩ | exact absurd rfl c
      cases hd with
      | @tup a xs _ hs ha =>
        have hl := dps_len ha
        refine ⟨_, rfl, a, _, rfl, .inr hs, rfl, _, rfl, ?_⟩
        refine ite2 (fun c2 => ?_) (fun c2 => ?_)
        · have e : isRat (.tuple ds) = false := by
            match ds, xs, hl, c2 with
            | [], _, _, _ => rfl
            | [_], _, _, _ => rfl
            | [_, _], xs, hl, c2 =>
              have hl2 : xs.length = 2 := hl
              rw [hl2] at c2
              exact absurd c2 (by decide)
            | _ :: _ :: _ :: _, _, _, _ => rfl
          have q0 := q H (Same.refl H)
          rw [e] at q0
          exact q0
        · have h2 : xs.length = 2 := by
            by_cases z : (xs.length : Int) = 2
            · omega
            · exact absurd (by simp [z]) c2
          obtain ⟨d1, d2, rfl⟩ : ∃ d1 d2, ds = [d1, d2] := by
            rw [h2] at hl
            match ds, hl with
            | [d1, d2], _ => exact ⟨d1, d2, rfl⟩
          refine ⟨_, rfl, a, rfl, ⟨_, hs⟩, fun D hD => ?_⟩
          refine lc_tup (K := K) (a := a) (xs := xs) (fun i H' => Same H H' ∧ H' D = some (.lst ((([d1, d2].take i).map fun d => !wholeD d).map V.bl))) ⟨same_new hD _, upd_same⟩ (fun i H' _ h => same_seqT h.1 hs) ?_ ?_
          · rintro i x H1 hx ⟨s1, hacc⟩
            obtain ⟨d, hd, hx2⟩ := dps_get ha hx
            have hx3 := dp_same s1 _ _ hx2
            have key : ∀ b : Bool, b = (!wholeD d) → ∃ acc, H1 D = some (.lst acc) ∧ acc.length < sizeLine ∧ Same H (upd H1 D (.lst (acc ++ [V.bl b]))) ∧ (upd H1 D (.lst (acc ++ [V.bl b]))) D = some (.lst ((([d1, d2].take (i + 1)).map fun d => !wholeD d).map V.bl)) := by
              intro b hb
              refine ⟨_, hacc, ?_, same_upd s1 hD, ?_⟩
              · rw [List.length_map, List.length_map, List.length_take]
                exact small1000 (Nat.le_trans (Nat.min_le_right _ _) (by decide : 2 ≤ 1000))
              · rw [upd_same, hb, take_more hd, List.map_append, List.map_append]
                rfl
            refine ⟨rfl, ?_⟩
            refine ⟨_, rfl, _, _, _, _, _, rfl, .ty _, dp_ty hx3, kit_ty (kb_bool d), _, rfl, ?_⟩
            refine ite2 (fun c3 => ?_) (fun c3 => ?_)
            · exact key true (by cases d <;> first | rfl | cases c3)
            · refine ⟨_, rfl, _, _, _, _, _, rfl, .ty _, dp_ty hx3, kit_ty (kb_int d), _, rfl, ?_⟩
              exact key _ (by cases d <;> first | rfl | exact absurd rfl c3)
          · rintro H1 ⟨s1, hacc⟩
            rw [h2] at hacc
            refine ⟨D, _, rfl, SqL.of hacc, _, rfl, ?_⟩
            cases ha with
            | @cons x1 _ _ _ h1 ha =>
              cases ha with
              | @cons x2 _ _ _ hx2 ha =>
                cases ha
                refine ite2 (fun c3 => ?_) (fun c3 => ?_)
                · have e : isRat (.tuple [d1, d2]) = false := by
                    cases d1 <;> first | rfl | skip
                    cases d2 <;> first | rfl | cases c3
                  have q0 := q H1 s1
                  rw [e] at q0
                  exact q0
                · obtain ⟨t, rfl⟩ : ∃ t, d1 = .int t := by cases d1 <;> first | exact ⟨_, rfl⟩ | exact absurd rfl c3
                  obtain ⟨m, rfl⟩ : ∃ m, d2 = .int m := by cases d2 <;> first | exact ⟨_, rfl⟩ | exact absurd rfl c3
                  cases h1
                  cases hx2
                  have hs1 := same_seqT s1 hs
                  refine ⟨_, rfl, a, _, _, .int m, rfl, rfl, hs1, rfl, _, _, rfl, rfl, _, rfl, ?_⟩
                  have q0 := q H1 s1
                  refine ite2 (fun c5 => ?_) (fun c5 => ?_)
                  · have c6 : m > 0 := of_decide_eq_true c5
                    refine ⟨_, rfl, a, _, _, .int t, rfl, rfl, hs1, rfl, _, rfl, a, _, _, .int m, rfl, rfl, hs1, rfl, _, _, rfl, ?_⟩
                    have e : isRat (.tuple [.int t, .int m]) = decide (V.int (Int.gcd t m : Int) = V.int 1) := by
                      show (if 1 ≤ m ∧ Int.gcd t m = 1 then some (t, m) else none).isSome = _
                      by_cases z : Int.gcd t m = 1
                      · rw [if_pos ⟨by omega, z⟩, z]
                        rfl
                      · rw [if_neg (fun y => z y.2)]
                        symm
                        apply decide_eq_false
                        intro y
                        injection y with y
                        omega
                    rw [e] at q0
                    exact ⟨rfl, q0⟩
                  · have c6 : ¬ m > 0 := of_decide_eq_false (Bool.eq_false_iff.mpr c5)
                    have e : isRat (.tuple [.int t, .int m]) = false := by
                      show (if 1 ≤ m ∧ Int.gcd t m = 1 then some (t, m) else none).isSome = false
                      rw [if_neg (by omega)]
                      rfl
                    rw [e] at q0
                    exact q0
end

/-! ### ratios in lowest terms -/
structure Red (z : Int × Int) : Prop where
  pos : 0 < z.2
  co : Int.gcd z.1 z.2 = 1
def nrm (t m : Int) : Int × Int := (nt t m, nb t m)
theorem gcd_abs (t m : Int) : Int.gcd (if m < 0 then -t else t) (m.natAbs : Int) = Int.gcd t m := by
  unfold Int.gcd
  split <;> simp
theorem nrm_red {t m : Int} (h : m ≠ 0) : Red (nrm t m) := by
  have gp := gcd_pos (t := t) h
  have e := gcd_abs t m
  refine ⟨?_, ?_⟩
  · show 0 < (m.natAbs : Int) / (Int.gcd t m : Int)
    have d : (Int.gcd t m : Int) ∣ (m.natAbs : Int) := Int.natAbs_dvd_natAbs.mp (by simp [Int.gcd]; exact Nat.gcd_dvd_right _ _)
    have c := Int.ediv_mul_cancel d
    have z : (m.natAbs : Int) / (Int.gcd t m : Int) ≠ 0 := fun q => by
      rw [q] at c
      omega
    have z2 : 0 ≤ (m.natAbs : Int) / (Int.gcd t m : Int) := Int.ediv_nonneg (by omega) (by omega)
    omega
  · show Int.gcd ((if m < 0 then -t else t) / (Int.gcd t m : Int)) ((m.natAbs : Int) / (Int.gcd t m : Int)) = 1
    rw [← e]
    exact Int.gcd_ediv_gcd_ediv_gcd (by rw [e]; omega)
theorem nrm_cross {t m : Int} (h : m ≠ 0) : (nrm t m).1 * m = t * (nrm t m).2 := by
  have d1 : (Int.gcd t m : Int) ∣ t := Int.gcd_dvd_left ..
  have d2 : (Int.gcd t m : Int) ∣ m := Int.gcd_dvd_right ..
  obtain ⟨a, ha⟩ := d1
  obtain ⟨b, hb⟩ := d2
  have gp := gcd_pos (t := t) h
  have e1 : (nrm t m).1 = (if m < 0 then -a else a) := by
    show (if m < 0 then -t else t) / (Int.gcd t m : Int) = _
    generalize (Int.gcd t m : Int) = g at *
    subst ha
    split
    · rw [show -(g * a) = g * (-a) by grind, Int.mul_ediv_cancel_left _ (by omega)]
    · rw [Int.mul_ediv_cancel_left _ (by omega)]
  have e2 : (nrm t m).2 = (if m < 0 then -b else b) := by
    show (m.natAbs : Int) / (Int.gcd t m : Int) = _
    have z : (m.natAbs : Int) = if m < 0 then -m else m := by split <;> omega
    rw [z]
    clear z
    generalize (Int.gcd t m : Int) = g at *
    clear ha e1
    split
    · rw [hb, show -(g * b) = g * (-b) by grind, Int.mul_ediv_cancel_left _ (by omega)]
    · rw [hb, Int.mul_ediv_cancel_left _ (by omega)]
  rw [e1, e2]
  generalize (Int.gcd t m : Int) = g at *
  split <;> (rename_i w; clear e1 e2 w h gp; subst ha; subst hb; grind)
theorem red_uniq {a b : Int × Int} (ha : Red a) (hb : Red b) (e : a.1 * b.2 = b.1 * a.2) : a = b := by
  have pa := ha.pos
  have pb := hb.pos
  have e' : a.1.natAbs * b.2.natAbs = b.1.natAbs * a.2.natAbs := by rw [← Int.natAbs_mul, ← Int.natAbs_mul, e]
  have c1 : Nat.Coprime a.2.natAbs a.1.natAbs := Nat.Coprime.symm ha.co
  have c2 : Nat.Coprime b.2.natAbs b.1.natAbs := Nat.Coprime.symm hb.co
  have d1 : a.2.natAbs ∣ b.2.natAbs := c1.dvd_of_dvd_mul_left ⟨b.1.natAbs, by rw [e', Nat.mul_comm]⟩
  have d2 : b.2.natAbs ∣ a.2.natAbs := c2.dvd_of_dvd_mul_left ⟨a.1.natAbs, by rw [← e', Nat.mul_comm]⟩
  have e2 : a.2 = b.2 := by
    have z := Nat.dvd_antisymm d1 d2
    omega
  have e1 : a.1 = b.1 := Int.eq_of_mul_eq_mul_right (a := b.2) (by omega) (by rw [e, e2])
  exact Prod.ext e1 e2
theorem nrm_eq {t m t' m' : Int} (h : m ≠ 0) (h' : m' ≠ 0) (e : t * m' = t' * m) : nrm t m = nrm t' m' := by
  have x := nrm_cross (t := t) h
  have y := nrm_cross (t := t') h'
  refine red_uniq (nrm_red h) (nrm_red h') ?_
  refine Int.eq_of_mul_eq_mul_right (a := m * m') (Int.mul_ne_zero h h') ?_
  generalize (nrm t m).1 = a at *
  generalize (nrm t m).2 = b at *
  generalize (nrm t' m').1 = c at *
  generalize (nrm t' m').2 = d at *
  clear h h'
  grind
theorem nrm_of {z : Int × Int} (h : Red z) : nrm z.1 z.2 = z := by
  have p := h.pos
  have x := nrm_cross (t := z.1) (m := z.2) (by omega)
  exact red_uniq (nrm_red (by omega)) h x
theorem nrm_is {t m : Int} {z : Int × Int} (h : m ≠ 0) (hz : Red z) (e : t * z.2 = z.1 * m) : nrm t m = z := by
  have p := hz.pos
  rw [← nrm_of hz]
  exact nrm_eq h (by omega) e
theorem nt_le (t m : Int) : (nrm t m).1.natAbs ≤ t.natAbs := by
  show ((if m < 0 then -t else t) / (Int.gcd t m : Int)).natAbs ≤ t.natAbs
  refine Nat.le_trans (Int.natAbs_ediv_le_natAbs _ _) ?_
  split <;> omega
theorem nb_le (t m : Int) : (nrm t m).2.natAbs ≤ m.natAbs := by
  show ((m.natAbs : Int) / (Int.gcd t m : Int)).natAbs ≤ m.natAbs
  exact Nat.le_trans (Int.natAbs_ediv_le_natAbs _ _) (by omega)
/-- both parts are below 2 ^ k -/
def Sz (k : Nat) (z : Int × Int) : Prop := z.1.natAbs < 2 ^ k ∧ z.2.natAbs < 2 ^ k
theorem Sz.mono {j k : Nat} {z : Int × Int} (h : Sz j z) (l : j ≤ k) : Sz k z :=
  ⟨Nat.lt_of_lt_of_le h.1 (Nat.pow_le_pow_right (by decide) l), Nat.lt_of_lt_of_le h.2 (Nat.pow_le_pow_right (by decide) l)⟩
theorem sz_nrm {t m : Int} {k : Nat} (h1 : t.natAbs < 2 ^ k) (h2 : m.natAbs < 2 ^ k) : Sz k (nrm t m) := ⟨Nat.lt_of_le_of_lt (nt_le t m) h1, Nat.lt_of_le_of_lt (nb_le t m) h2⟩
theorem lt_mul {x y : Int} {j k : Nat} (h1 : x.natAbs < 2 ^ j) (h2 : y.natAbs < 2 ^ k) : (x * y).natAbs < 2 ^ (j + k) := wide_lt h1 h2
theorem lt_add {x y : Int} {k : Nat} (h1 : x.natAbs < 2 ^ k) (h2 : y.natAbs < 2 ^ k) : (x + y).natAbs < 2 ^ (k + 1) := by
  have := Int.natAbs_add_le x y
  rw [Nat.pow_succ]
  omega
def addz (a b : Int × Int) : Int × Int := nrm (a.1 * b.2 + b.1 * a.2) (a.2 * b.2)
def mulz (a b : Int × Int) : Int × Int := nrm (a.1 * b.1) (a.2 * b.2)
def negz (a : Int × Int) : Int × Int := (-a.1, a.2)
def divz (a b : Int × Int) : Int × Int := nrm (a.1 * b.2) (a.2 * b.1)
theorem mne {a b : Int × Int} (ha : Red a) (hb : Red b) : a.2 * b.2 ≠ 0 := by
  have := ha.pos
  have := hb.pos
  exact Int.mul_ne_zero (by omega) (by omega)
theorem add_red {a b : Int × Int} (ha : Red a) (hb : Red b) : Red (addz a b) := nrm_red (mne ha hb)
theorem mul_red {a b : Int × Int} (ha : Red a) (hb : Red b) : Red (mulz a b) := nrm_red (mne ha hb)
theorem neg_red {a : Int × Int} (ha : Red a) : Red (negz a) := ⟨ha.pos, by show Int.gcd (-a.1) a.2 = 1; rw [Int.neg_gcd]; exact ha.co⟩
theorem add_sz {a b : Int × Int} {j k : Nat} (ha : Sz j a) (hb : Sz k b) : Sz (j + k + 1) (addz a b) := by
  refine sz_nrm (lt_add (lt_mul ha.1 hb.2) ?_) (Nat.lt_of_lt_of_le (lt_mul ha.2 hb.2) (Nat.pow_le_pow_right (by decide) (by omega)))
  rw [Int.mul_comm]
  exact lt_mul ha.2 hb.1
theorem mul_sz {a b : Int × Int} {j k : Nat} (ha : Sz j a) (hb : Sz k b) : Sz (j + k) (mulz a b) := sz_nrm (lt_mul ha.1 hb.1) (lt_mul ha.2 hb.2)
theorem neg_sz {a : Int × Int} {j : Nat} (ha : Sz j a) : Sz j (negz a) := ⟨by show (-a.1).natAbs < _; rw [Int.natAbs_neg]; exact ha.1, ha.2⟩
theorem add_cross {a b : Int × Int} (ha : Red a) (hb : Red b) : (addz a b).1 * (a.2 * b.2) = (a.1 * b.2 + b.1 * a.2) * (addz a b).2 := nrm_cross (mne ha hb)
theorem mul_cross {a b : Int × Int} (ha : Red a) (hb : Red b) : (mulz a b).1 * (a.2 * b.2) = (a.1 * b.1) * (mulz a b).2 := nrm_cross (mne ha hb)
theorem cancel {x y k : Int} (h : k ≠ 0) (e : x * k = y * k) : x = y := Int.eq_of_mul_eq_mul_right h e
theorem add_comm' (a b : Int × Int) : addz a b = addz b a := by
  unfold addz
  rw [Int.add_comm, Int.mul_comm a.2]
theorem mul_comm' (a b : Int × Int) : mulz a b = mulz b a := by
  unfold mulz
  rw [Int.mul_comm a.1, Int.mul_comm a.2]
theorem add_assoc' {a b c : Int × Int} (ha : Red a) (hb : Red b) (hc : Red c) : addz (addz a b) c = addz a (addz b c) := by
  have x := add_cross ha hb
  have y := add_cross hb hc
  have na := mne ha hb
  have nc := mne hb hc
  have rab := add_red ha hb
  have rbc := add_red hb hc
  refine nrm_eq (mne rab hc) (mne ha rbc) ?_
  refine cancel (k := (a.2 * b.2) * (b.2 * c.2)) (Int.mul_ne_zero na nc) ?_
  generalize addz a b = u at *
  generalize addz b c = v at *
  clear na nc rab rbc ha hb hc
  grind
theorem mul_assoc' {a b c : Int × Int} (ha : Red a) (hb : Red b) (hc : Red c) : mulz (mulz a b) c = mulz a (mulz b c) := by
  have x := mul_cross ha hb
  have y := mul_cross hb hc
  have na := mne ha hb
  have nc := mne hb hc
  have rab := mul_red ha hb
  have rbc := mul_red hb hc
  refine nrm_eq (mne rab hc) (mne ha rbc) ?_
  refine cancel (k := (a.2 * b.2) * (b.2 * c.2)) (Int.mul_ne_zero na nc) ?_
  generalize mulz a b = u at *
  generalize mulz b c = v at *
  clear na nc rab rbc ha hb hc
  grind
theorem mul_add' {a b c : Int × Int} (ha : Red a) (hb : Red b) (hc : Red c) : mulz (addz a b) c = addz (mulz a c) (mulz b c) := by
  have x := add_cross ha hb
  have y := mul_cross ha hc
  have z := mul_cross hb hc
  have n1 := mne ha hb
  have n2 := mne ha hc
  have n3 := mne hb hc
  refine nrm_eq (mne (add_red ha hb) hc) (mne (mul_red ha hc) (mul_red hb hc)) ?_
  refine cancel (k := (a.2 * b.2) * ((a.2 * c.2) * (b.2 * c.2))) (Int.mul_ne_zero n1 (Int.mul_ne_zero n2 n3)) ?_
  generalize addz a b = u at *
  generalize mulz a c = v at *
  generalize mulz b c = w at *
  clear n1 n2 n3 ha hb hc
  grind
theorem add_sub' {a b : Int × Int} (ha : Red a) (hb : Red b) : addz (addz a b) (negz b) = a := by
  have x := add_cross ha hb
  have n1 := mne ha hb
  refine nrm_is (mne (add_red ha hb) (neg_red hb)) ha ?_
  refine cancel (k := a.2 * b.2) n1 ?_
  show ((addz a b).1 * b.2 + (-b.1) * (addz a b).2) * a.2 * (a.2 * b.2) = a.1 * ((addz a b).2 * b.2) * (a.2 * b.2)
  generalize addz a b = u at *
  clear n1 ha hb
  grind
theorem mul_div' {a b : Int × Int} (ha : Red a) (hb : Red b) (h0 : b.1 ≠ 0) : divz (mulz a b) b = a := by
  have x := mul_cross ha hb
  have n1 := mne ha hb
  have r := mul_red ha hb
  have p := r.pos
  refine nrm_is (Int.mul_ne_zero (by omega) h0) ha ?_
  refine cancel (k := a.2 * b.2) n1 ?_
  generalize mulz a b = u at *
  clear n1 ha hb r p h0
  grind
/-- the sign of a difference -/
def sgn (x : Int) : Int := if x < 0 then -1 else if x > 0 then 1 else 0
theorem sgn_nrm {t m : Int} (h : 0 < m) : sgn (nrm t m).1 = sgn t := by
  have x := nrm_cross (t := t) (m := m) (by omega)
  have r := (nrm_red (t := t) (m := m) (by omega)).pos
  generalize (nrm t m).1 = a at *
  generalize (nrm t m).2 = b at *
  unfold sgn
  rcases Int.lt_trichotomy t 0 with h1 | h1 | h1
  · have z : a < 0 := by
      rcases Int.lt_or_le a 0 with q | q
      · exact q
      · have := Int.mul_nonneg q (Int.le_of_lt h)
        have := Int.mul_neg_of_neg_of_pos h1 r
        omega
    rw [if_pos z, if_pos h1]
  · subst h1
    rw [Int.zero_mul] at x
    have z : a = 0 := by
      rcases Int.mul_eq_zero.mp x with q | q
      · exact q
      · omega
    rw [z]
  · have z : 0 < a := by
      rcases Int.lt_or_le 0 a with q | q
      · exact q
      · have := Int.mul_pos h1 r
        have := Int.mul_nonpos_of_nonpos_of_nonneg q (Int.le_of_lt h)
        omega
    rw [if_neg (by omega), if_pos z, if_neg (by omega), if_pos h1]
def cmpz (a b : Int × Int) : Int := sgn (a.1 * b.2 - b.1 * a.2)
theorem cmp_sub {a b : Int × Int} (ha : Red a) (hb : Red b) : sgn (addz a (negz b)).1 = cmpz a b := by
  have p1 := ha.pos
  have p2 := hb.pos
  unfold cmpz
  have e : a.1 * b.2 - b.1 * a.2 = a.1 * (negz b).2 + (negz b).1 * a.2 := by show a.1 * b.2 - b.1 * a.2 = a.1 * b.2 + (-b.1) * a.2; grind
  rw [e]
  exact sgn_nrm (m := a.2 * (negz b).2) (Int.mul_pos p1 p2)
theorem sgn_neg (x : Int) : sgn x = 0 - sgn (-x) := by
  unfold sgn
  split <;> split <;> (try split) <;> (try split) <;> omega
theorem cmp_neg (a b : Int × Int) : cmpz a b = 0 - cmpz b a := by
  unfold cmpz
  rw [sgn_neg, show -(a.1 * b.2 - b.1 * a.2) = b.1 * a.2 - a.1 * b.2 by grind]
theorem cmp_same (a : Int × Int) : cmpz a a = 0 := by
  unfold cmpz
  rw [Int.sub_self]
  rfl
theorem cmp_up {a : Int × Int} {s : Int} (ha : Red a) (hs : Red (1, s)) : cmpz a (addz a (1, s)) = -1 := by
  have x := add_cross ha hs
  have r := (add_red ha hs).pos
  have p1 := ha.pos
  have p2 : 0 < s := hs.pos
  unfold cmpz
  have x' : (addz a (1, s)).1 * (a.2 * s) = (a.1 * s + 1 * a.2) * (addz a (1, s)).2 := x
  generalize addz a (1, s) = u at *
  have key : (a.1 * u.2 - u.1 * a.2) * s = - (a.2 * u.2) := by
    refine cancel (k := 1) (by decide) ?_
    clear x hs ha
    grind
  have neg : a.1 * u.2 - u.1 * a.2 < 0 := by
    rcases Int.lt_or_le (a.1 * u.2 - u.1 * a.2) 0 with q | q
    · exact q
    · have z1 := Int.mul_nonneg q (Int.le_of_lt p2)
      have z2 := Int.mul_pos p1 r
      omega
  unfold sgn
  rw [if_pos neg]

/-- a number: an int or a ratio -/
def Nv (K : PySem.W.Frag) (H : Hp) (v : V) (z : Int × Int) : Prop := ∃ d, Dp K H v d ∧ numOf d = some z
theorem Nv.same {K : PySem.W.Frag} {H H' : Hp} {v : V} {z : Int × Int} (h : Nv K H v z) (s : Same H H') : Nv K H' v z := by
  obtain ⟨d, hd, e⟩ := h
  exact ⟨d, dp_same s _ _ hd, e⟩
theorem Nv.int {K : PySem.W.Frag} {H : Hp} (i : Int) : Nv K H (.int i) (i, 1) := ⟨.int i, .int i, rfl⟩
theorem numOf_rat {z : Int × Int} (h : Red z) : numOf (rat z.1 z.2) = some z := by
  show (if 1 ≤ z.2 ∧ Int.gcd z.1 z.2 = 1 then some (z.1, z.2) else none) = some z
  have := h.pos
  rw [if_pos ⟨by omega, h.co⟩]
theorem Nv.rat {K : PySem.W.Frag} {H : Hp} {p : Addr} {z : Int × Int} (h : H p = some (.tup [.int z.1, .int z.2])) (r : Red z) : Nv K H (.ref p) z := ⟨_, dp_rat h, numOf_rat r⟩
theorem numOf_red {d : PyData} {z : Int × Int} (h : numOf d = some z) : Red z := by
  have key : ∀ d', ratOf d' = some z → Red z := fun d' h' => by
    have e := ratOf_is h'
    rw [e] at h'
    have h2 : (if 1 ≤ z.2 ∧ Int.gcd z.1 z.2 = 1 then some (z.1, z.2) else none) = some z := h'
    split at h2
    · rename_i w
      exact ⟨by omega, w.2⟩
    · cases h2
  cases d with
  | int i =>
    have e : (i, (1 : Int)) = z := Option.some.inj h
    rw [← e]
    exact ⟨by show (0 : Int) < 1; decide, by show Int.gcd i 1 = 1; exact Int.gcd_one_right i⟩
  | none => exact key .none h
  | bool b => exact key (.bool b) h
  | str b => exact key (.str b) h
  | list b => exact key (.list b) h
  | tuple b => exact key (.tuple b) h
  | dict b => exact key (.dict b) h
theorem Nv.red {K : PySem.W.Frag} {H : Hp} {v : V} {z : Int × Int} (h : Nv K H v z) : Red z := by
  obtain ⟨d, _, e⟩ := h
  exact numOf_red e
theorem dp_rat_inv {K : PySem.W.Frag} {H : Hp} {v : V} {t m : Int} (h : Dp K H v (rat t m)) : ∃ a, v = .ref a ∧ SqT K H a [.int t, .int m] := by
  cases h with
  | tup hs ha =>
    cases ha with
    | cons h1 h2 =>
      cases h2 with
      | cons h2 h3 =>
        cases h3
        cases h1
        cases h2
        exact ⟨_, rfl, hs⟩
def spBin (K : PySem.W.Frag) (f : Int × Int → Int × Int → Int × Int) : Sp := fun vs H Q _ => ∃ (x y : V) (a b : Int × Int) (j k : Nat), vs = [x, y] ∧ Nv K H x a ∧ Nv K H y b ∧ Sz j a ∧ Sz k b ∧ j + k + 1 ≤ 7000 ∧
  ∀ p H', Same H H' → H' p = some (.tup [.int (f a b).1, .int (f a b).2]) → Q (.ref p) H'
def spDiv (K : PySem.W.Frag) (C : Addr) : Sp := fun vs H Q E => ∃ (x y : V) (a b : Int × Int) (j k : Nat), vs = [x, y] ∧ Nv K H x a ∧ Nv K H y b ∧ Sz j a ∧ Sz k b ∧ j + k + 1 ≤ 7000 ∧
  (b.1 ≠ 0 → ∀ p H', Same H H' → H' p = some (.tup [.int (divz a b).1, .int (divz a b).2]) → Q (.ref p) H') ∧ (b.1 = 0 → ∀ H', Same H H' → E (.ref C) none H')
def spSub (K : PySem.W.Frag) : Sp := fun vs H Q _ => ∃ (x y : V) (a b : Int × Int) (j k : Nat), vs = [x, y] ∧ Nv K H x a ∧ Nv K H y b ∧ Sz j a ∧ Sz k b ∧ j + k + 2 ≤ 7000 ∧
  ∀ p H', Same H H' → H' p = some (.tup [.int (addz a (negz b)).1, .int (addz a (negz b)).2]) → Q (.ref p) H'
def spCmp (K : PySem.W.Frag) : Sp := fun vs H Q _ => ∃ (x y : V) (a b : Int × Int) (j k : Nat), vs = [x, y] ∧ Nv K H x a ∧ Nv K H y b ∧ Sz j a ∧ Sz k b ∧ j + k + 2 ≤ 7000 ∧ ∀ H', Same H H' → Q (.int (cmpz a b)) H'
theorem p2pos (k : Nat) (h : 0 < k) {x : Int} (hx : x.natAbs < 2 ^ k) : x.natAbs < 2 ^ k := hx
theorem Sz.pos {k : Nat} {z : Int × Int} (h : Sz k z) (r : Red z) : 0 < k := by
  have p := r.pos
  have q := h.2
  cases k with
  | zero => simp at q; omega
  | succ n => exact Nat.succ_pos _
theorem mulW_of {x y : Int} {j k : Nat} (hx : x.natAbs < 2 ^ j) (hy : y.natAbs < 2 ^ k) (j0 : 0 < j) (k0 : 0 < k) (l : j + k + 1 ≤ 7000) : CMulW x y := wide_mul hx hy j0 k0 (by omega)
theorem to8000 {x : Int} {k : Nat} (h : x.natAbs < 2 ^ k) (l : k ≤ 7999) : x.natAbs < 2 ^ 8000 := Nat.lt_of_lt_of_le h (Nat.pow_le_pow_right (by decide) (by omega))


/-! ### sums and products of ratios that are known to be some -/
def spBinR (K : PySem.W.Frag) (f : Int × Int → Int × Int → Int × Int) : Sp := fun vs H Q _ => ∃ (x y : V) (a b : Int × Int) (j k : Nat), vs = [x, y] ∧ Dp K H x (rat a.1 a.2) ∧ Dp K H y (rat b.1 b.2) ∧ Red a ∧ Red b ∧ Sz j a ∧ Sz k b ∧ j + k + 1 ≤ 7000 ∧
  ∀ p H', Same H H' → H' p = some (.tup [.int (f a b).1, .int (f a b).2]) → Q (.ref p) H'
section
variable {P : Program} {w : World} {K : PySem.W.Frag} {mg : Str → Option Value} {base : Heap}
theorem ok_add_ratios {Cz : Addr} (GR : Kn1 P w K mg base (L2.CX P w) "ratio" 1 ["top", "bottom"] (spRatio Cz)) (D : Df K mg "add_ratios" s_add_ratios ["one", "other"]) :
    Kn P w K mg base CX0 "add_ratios" 2 ["one", "other"] (spBinR K addz) := by
  obtain ⟨f, fd, F, hm, hb⟩ := D
  obtain ⟨f_ratio, fd_ratio, G_ratio, m_ratio, k_ratio, b_ratio, _⟩ := GR
  refine ⟨f, fd, F.ok sc_add_ratios (fun vs H Q E h => ?_) (fun cdv A outer s H vs Q E hr h => ?_), hm, F.kp, hb⟩
  · obtain ⟨x, y, a, b, j, k, rfl, _⟩ := h
    rfl
  · obtain ⟨x, y, a, b, j, k, rfl, hx, hy, ra, rb, sa, sb, hjk, q⟩ := h
    have j0 := sa.pos ra
    have k0 := sb.pos rb
    refine ⟨_, (pss_cons (ps_asg (pv 0) (pg_tup (by rfl) (pgs_cons (pg_name (i := 2) sc_add_ratios.nd rfl (Or.inl rfl)) (pgs_cons (pg_name (i := 3) sc_add_ratios.nd rfl (Or.inl rfl)) pgs_nil))))
      (pss_cons (ps_asg (pv 1) (pg_tup (by rfl) (pgs_cons (pg_name (i := 4) sc_add_ratios.nd rfl (Or.inl rfl)) (pgs_cons (pg_name (i := 5) sc_add_ratios.nd rfl (Or.inl rfl)) pgs_nil))))
      (pss_one (ps_ret (pe_call G_ratio (hr.mono (by omega)) rfl m_ratio k_ratio b_ratio .nil passL (pa_cons (pe_op op_add (pe_op op_mulW (pv 2) (pv 5)) (pe_op op_mulW (pv 4) (pv 3))) (pa_cons (pe_op op_mulW (pv 3) (pv 5)) pa_nil))))))), ?_⟩
    obtain ⟨p1, rfl, hp1⟩ := dp_rat_inv hx
    obtain ⟨p2, rfl, hp2⟩ := dp_rat_inv hy
    refine ⟨_, rfl, p1, _, rfl, hp1, rfl, .int _, _, rfl, .int _, _, rfl, rfl, ?_⟩
    refine ⟨_, rfl, p2, _, rfl, hp2, rfl, .int _, _, rfl, .int _, _, rfl, rfl, ?_⟩
    refine ⟨_, rfl, _, rfl, _, _, rfl, rfl, mulW_of sa.1 sb.2 j0 k0 hjk, _, rfl, _, rfl, _, _, rfl, rfl, mulW_of sb.1 sa.2 k0 j0 (by omega), _, _, rfl, rfl, _, rfl, _, rfl, _, _, rfl, rfl, mulW_of sa.2 sb.2 j0 k0 hjk, ?_⟩
    refine ⟨_, _, rfl, fun h => gcd_log h (to8000 (lt_mul sa.2 sb.2) (by omega)), fun _ p H3 s3 h3 => q p H3 s3 h3, fun z => absurd z (mne ra rb)⟩
theorem ok_multiply_ratios {Cz : Addr} (GR : Kn1 P w K mg base (L2.CX P w) "ratio" 1 ["top", "bottom"] (spRatio Cz)) (D : Df K mg "multiply_ratios" s_multiply_ratios ["one", "other"]) :
    Kn P w K mg base CX0 "multiply_ratios" 2 ["one", "other"] (spBinR K mulz) := by
  obtain ⟨f, fd, F, hm, hb⟩ := D
  obtain ⟨f_ratio, fd_ratio, G_ratio, m_ratio, k_ratio, b_ratio, _⟩ := GR
  refine ⟨f, fd, F.ok sc_multiply_ratios (fun vs H Q E h => ?_) (fun cdv A outer s H vs Q E hr h => ?_), hm, F.kp, hb⟩
  · obtain ⟨x, y, a, b, j, k, rfl, _⟩ := h
    rfl
  · obtain ⟨x, y, a, b, j, k, rfl, hx, hy, ra, rb, sa, sb, hjk, q⟩ := h
    have j0 := sa.pos ra
    have k0 := sb.pos rb
    refine ⟨_, (pss_cons (ps_asg (pv 0) (pg_tup (by rfl) (pgs_cons (pg_name (i := 2) sc_multiply_ratios.nd rfl (Or.inl rfl)) (pgs_cons (pg_name (i := 3) sc_multiply_ratios.nd rfl (Or.inl rfl)) pgs_nil))))
      (pss_cons (ps_asg (pv 1) (pg_tup (by rfl) (pgs_cons (pg_name (i := 4) sc_multiply_ratios.nd rfl (Or.inl rfl)) (pgs_cons (pg_name (i := 5) sc_multiply_ratios.nd rfl (Or.inl rfl)) pgs_nil))))
      (pss_one (ps_ret (pe_call G_ratio (hr.mono (by omega)) rfl m_ratio k_ratio b_ratio .nil passL (pa_cons (pe_op op_mulW (pv 2) (pv 4)) (pa_cons (pe_op op_mulW (pv 3) (pv 5)) pa_nil))))))), ?_⟩
    obtain ⟨p1, rfl, hp1⟩ := dp_rat_inv hx
    obtain ⟨p2, rfl, hp2⟩ := dp_rat_inv hy
    refine ⟨_, rfl, p1, _, rfl, hp1, rfl, .int _, _, rfl, .int _, _, rfl, rfl, ?_⟩
    refine ⟨_, rfl, p2, _, rfl, hp2, rfl, .int _, _, rfl, .int _, _, rfl, rfl, ?_⟩
    refine ⟨_, rfl, _, rfl, _, _, rfl, rfl, mulW_of sa.1 sb.1 j0 k0 hjk, _, rfl, _, rfl, _, _, rfl, rfl, mulW_of sa.2 sb.2 j0 k0 hjk, ?_⟩
    refine ⟨_, _, rfl, fun h => gcd_log h (to8000 (lt_mul sa.2 sb.2) (by omega)), fun _ p H3 s3 h3 => q p H3 s3 h3, fun z => absurd z (mne ra rb)⟩
end

section
variable {P : Program} {w : World} {K : PySem.W.Frag} {mg : Str → Option Value} {base : Heap}
theorem ok_add {C : Addr} (GA : Kn P w K mg base (L2.CX P w) "as_ratio" 3 ["value"] (spAsRatio K C)) (GR : Kn P w K mg base CX0 "add_ratios" 2 ["one", "other"] (spBinR K addz)) (D : Df K mg "add" s_add ["one", "other"]) :
    Kn P w K mg base CX0 "add" 4 ["one", "other"] (spBin K addz) := by
  obtain ⟨f, fd, F, hm, hb⟩ := D
  obtain ⟨f_as_ratio, fd_as_ratio, G_as_ratio, m_as_ratio, k_as_ratio, b_as_ratio⟩ := GA
  obtain ⟨f_add_ratios, fd_add_ratios, G_add_ratios, m_add_ratios, k_add_ratios, b_add_ratios⟩ := GR
  refine ⟨f, fd, F.ok sc_add (fun vs H Q E h => ?_) (fun cdv A outer s H vs Q E hr h => ?_), hm, F.kp, hb⟩
  · obtain ⟨x, y, a, b, j, k, rfl, _⟩ := h
    rfl
  · obtain ⟨x, y, a, b, j, k, rfl, hx, hy, sa, sb, hjk, q⟩ := h
    have ra := hx.red
    have rb := hy.red
    refine ⟨_, (pss_one (ps_ret (pe_call G_add_ratios (hr.mono (by omega)) rfl m_add_ratios k_add_ratios b_add_ratios .nil pass0 (pa_cons (pe_call G_as_ratio (hr.mono (by omega)) rfl m_as_ratio k_as_ratio b_as_ratio .nil passL (pa_cons (pv 0) pa_nil)) (pa_cons (pe_call G_as_ratio (hr.mono (by omega)) rfl m_as_ratio k_as_ratio b_as_ratio .nil passL (pa_cons (pv 1) pa_nil)) pa_nil))))), ?_⟩
    obtain ⟨d1, hd1, e1⟩ := hx
    obtain ⟨d2, hd2, e2⟩ := hy
    refine ⟨_, rfl, x, d1, rfl, hd1, fun t m r H1 e s1 hr1 => ?_, fun e => by rw [e1] at e; cases e⟩
    obtain rfl : a = (t, m) := Option.some.inj (e1.symm.trans e)
    refine ⟨_, rfl, y, d2, rfl, dp_same s1 _ _ hd2, fun t2 m2 r2 H2 e s2 hr2 => ?_, fun e => by rw [e2] at e; cases e⟩
    obtain rfl : b = (t2, m2) := Option.some.inj (e2.symm.trans e)
    exact ⟨r, r2, _, _, j, k, rfl, dp_same s2 _ _ hr1, hr2, ra, rb, sa, sb, hjk, fun p H3 s3 h3 => q p H3 (s1.trans (s2.trans s3)) h3⟩
theorem ok_multiply {C : Addr} (GA : Kn P w K mg base (L2.CX P w) "as_ratio" 3 ["value"] (spAsRatio K C)) (GR : Kn P w K mg base CX0 "multiply_ratios" 2 ["one", "other"] (spBinR K mulz)) (D : Df K mg "multiply" s_multiply ["one", "other"]) :
    Kn P w K mg base CX0 "multiply" 4 ["one", "other"] (spBin K mulz) := by
  obtain ⟨f, fd, F, hm, hb⟩ := D
  obtain ⟨f_as_ratio, fd_as_ratio, G_as_ratio, m_as_ratio, k_as_ratio, b_as_ratio⟩ := GA
  obtain ⟨f_multiply_ratios, fd_multiply_ratios, G_multiply_ratios, m_multiply_ratios, k_multiply_ratios, b_multiply_ratios⟩ := GR
  refine ⟨f, fd, F.ok sc_multiply (fun vs H Q E h => ?_) (fun cdv A outer s H vs Q E hr h => ?_), hm, F.kp, hb⟩
  · obtain ⟨x, y, a, b, j, k, rfl, _⟩ := h
    rfl
  · obtain ⟨x, y, a, b, j, k, rfl, hx, hy, sa, sb, hjk, q⟩ := h
    have ra := hx.red
    have rb := hy.red
    refine ⟨_, (pss_one (ps_ret (pe_call G_multiply_ratios (hr.mono (by omega)) rfl m_multiply_ratios k_multiply_ratios b_multiply_ratios .nil pass0 (pa_cons (pe_call G_as_ratio (hr.mono (by omega)) rfl m_as_ratio k_as_ratio b_as_ratio .nil passL (pa_cons (pv 0) pa_nil)) (pa_cons (pe_call G_as_ratio (hr.mono (by omega)) rfl m_as_ratio k_as_ratio b_as_ratio .nil passL (pa_cons (pv 1) pa_nil)) pa_nil))))), ?_⟩
    obtain ⟨d1, hd1, e1⟩ := hx
    obtain ⟨d2, hd2, e2⟩ := hy
    refine ⟨_, rfl, x, d1, rfl, hd1, fun t m r H1 e s1 hr1 => ?_, fun e => by rw [e1] at e; cases e⟩
    obtain rfl : a = (t, m) := Option.some.inj (e1.symm.trans e)
    refine ⟨_, rfl, y, d2, rfl, dp_same s1 _ _ hd2, fun t2 m2 r2 H2 e s2 hr2 => ?_, fun e => by rw [e2] at e; cases e⟩
    obtain rfl : b = (t2, m2) := Option.some.inj (e2.symm.trans e)
    exact ⟨r, r2, _, _, j, k, rfl, dp_same s2 _ _ hr1, hr2, ra, rb, sa, sb, hjk, fun p H3 s3 h3 => q p H3 (s1.trans (s2.trans s3)) h3⟩

theorem ok_divide {C Cz : Addr} (GA : Kn P w K mg base (L2.CX P w) "as_ratio" 3 ["value"] (spAsRatio K C)) (GR : Kn1 P w K mg base (L2.CX P w) "ratio" 1 ["top", "bottom"] (spRatio Cz)) (D : Df K mg "divide" s_divide ["one", "other"]) :
    Kn P w K mg base (L2.CX P w) "divide" 4 ["one", "other"] (spDiv K Cz) := by
  obtain ⟨f, fd, F, hm, hb⟩ := D
  obtain ⟨f_as_ratio, fd_as_ratio, G_as_ratio, m_as_ratio, k_as_ratio, b_as_ratio⟩ := GA
  obtain ⟨f_ratio, fd_ratio, G_ratio, m_ratio, k_ratio, b_ratio, _⟩ := GR
  refine ⟨f, fd, F.okX sc_divide (fun vs H Q E h => ?_) (fun cdv A outer s H vs Q E hr h => ?_), hm, F.kp, hb⟩
  · obtain ⟨x, y, a, b, j, k, rfl, _⟩ := h
    rfl
  · obtain ⟨x, y, a, b, j, k, rfl, hx, hy, sa, sb, hjk, q1, q2⟩ := h
    have ra := hx.red
    have rb := hy.red
    have j0 := sa.pos ra
    have k0 := sb.pos rb
    refine ⟨_, (pss_cons (ps_asg (pe_call G_as_ratio (hr.mono (by omega)) rfl m_as_ratio k_as_ratio b_as_ratio .nil passL (pa_cons (pv 0) pa_nil)) (pg_tup (by rfl) (pgs_cons (pg_name (i := 2) sc_divide.nd rfl (Or.inl rfl)) (pgs_cons (pg_name (i := 3) sc_divide.nd rfl (Or.inl rfl)) pgs_nil))))
      (pss_cons (ps_asg (pe_call G_as_ratio (hr.mono (by omega)) rfl m_as_ratio k_as_ratio b_as_ratio .nil passL (pa_cons (pv 1) pa_nil)) (pg_tup (by rfl) (pgs_cons (pg_name (i := 4) sc_divide.nd rfl (Or.inl rfl)) (pgs_cons (pg_name (i := 5) sc_divide.nd rfl (Or.inl rfl)) pgs_nil))))
      (pss_one (ps_ret (pe_call G_ratio (hr.mono (by omega)) rfl m_ratio k_ratio b_ratio .nil (passes_call (takes_of rfl rfl rfl rfl) (fun _ _ _ _ h => h)) (pa_cons (pe_op op_mulW (pv 2) (pv 5)) (pa_cons (pe_op op_mulW (pv 3) (pv 4)) pa_nil))))))), ?_⟩
    obtain ⟨d1, hd1, e1⟩ := hx
    obtain ⟨d2, hd2, e2⟩ := hy
    refine ⟨_, rfl, x, d1, rfl, hd1, fun t m r H1 e s1 hr1 => ?_, fun e => by rw [e1] at e; cases e⟩
    obtain rfl : a = (t, m) := Option.some.inj (e1.symm.trans e)
    obtain ⟨p1, rfl, hp1⟩ := dp_rat_inv hr1
    refine ⟨p1, _, rfl, hp1, rfl, .int t, _, rfl, .int m, _, rfl, rfl, ?_⟩
    refine ⟨_, rfl, y, d2, rfl, dp_same s1 _ _ hd2, fun t2 m2 r H2 e s2 hr2 => ?_, fun e => by rw [e2] at e; cases e⟩
    obtain rfl : b = (t2, m2) := Option.some.inj (e2.symm.trans e)
    obtain ⟨p2, rfl, hp2⟩ := dp_rat_inv hr2
    refine ⟨p2, _, rfl, hp2, rfl, .int t2, _, rfl, .int m2, _, rfl, rfl, ?_⟩
    refine ⟨_, rfl, _, rfl, _, _, rfl, rfl, mulW_of sa.1 sb.2 j0 k0 hjk, _, rfl, _, rfl, _, _, rfl, rfl, mulW_of sa.2 sb.1 j0 k0 hjk, ?_⟩
    have pm : m ≠ 0 := by
      have := ra.pos
      omega
    refine ⟨_, _, rfl, fun h => gcd_log h (to8000 (lt_mul sa.2 sb.1) (by omega)), fun h0 p H3 s3 h3 => q1 (fun z => h0 (by show m * t2 = 0; rw [show t2 = 0 from z, Int.mul_zero])) p H3 (s1.trans (s2.trans s3)) h3, fun z => q2 ?_ _ (s1.trans s2)⟩
    rcases Int.mul_eq_zero.mp z with y1 | y1
    · exact absurd y1 pm
    · exact y1
theorem neg_is {b : Int × Int} (h : Red b) : mulz (-1, 1) b = negz b := by
  have r := neg_red h
  have p := h.pos
  refine nrm_is (by show 1 * b.2 ≠ 0; omega) r ?_
  show -1 * b.1 * b.2 = -b.1 * (1 * b.2)
  grind
theorem ok_subtract (GA : Kn P w K mg base CX0 "add" 4 ["one", "other"] (spBin K addz)) (GM : Kn P w K mg base CX0 "multiply" 4 ["one", "other"] (spBin K mulz)) (D : Df K mg "subtract" s_subtract ["one", "other"]) :
    Kn P w K mg base CX0 "subtract" 5 ["one", "other"] (spSub K) := by
  obtain ⟨f, fd, F, hm, hb⟩ := D
  obtain ⟨f_add, fd_add, G_add, m_add, k_add, b_add⟩ := GA
  obtain ⟨f_multiply, fd_multiply, G_multiply, m_multiply, k_multiply, b_multiply⟩ := GM
  refine ⟨f, fd, F.ok sc_subtract (fun vs H Q E h => ?_) (fun cdv A outer s H vs Q E hr h => ?_), hm, F.kp, hb⟩
  · obtain ⟨x, y, a, b, j, k, rfl, _⟩ := h
    rfl
  · obtain ⟨x, y, a, b, j, k, rfl, hx, hy, sa, sb, hjk, q⟩ := h
    have rb := hy.red
    have k0 := sb.pos rb
    refine ⟨_, (pss_one (ps_ret (pe_call G_add (hr.mono (by omega)) rfl m_add k_add b_add .nil pass0 (pa_cons (pv 0) (pa_cons (pe_call G_multiply (hr.mono (by omega)) rfl m_multiply k_multiply b_multiply .nil pass0 (pa_cons (pe_un un_neg pe_int) (pa_cons (pv 1) pa_nil))) pa_nil))))), ?_⟩
    refine ⟨_, rfl, _, rfl, _, rfl, .int (-1), y, (-1, 1), b, 1, k, rfl, Nv.int (-1), hy, ⟨by decide, by decide⟩, sb, by omega, fun p H1 s1 h1 => ?_⟩
    rw [neg_is rb] at h1
    refine ⟨x, .ref p, a, negz b, j, k, rfl, hx.same s1, Nv.rat h1 (neg_red rb), sa, neg_sz sb, by omega, fun p2 H2 s2 h2 => ?_⟩
    exact q p2 H2 (s1.trans s2) h2
theorem ok_compare (GS : Kn P w K mg base CX0 "subtract" 5 ["one", "other"] (spSub K)) (D : Df K mg "compare" s_compare ["one", "other"]) :
    Kn P w K mg base CX0 "compare" 6 ["one", "other"] (spCmp K) := by
  obtain ⟨f, fd, F, hm, hb⟩ := D
  obtain ⟨f_subtract, fd_subtract, G_subtract, m_subtract, k_subtract, b_subtract⟩ := GS
  refine ⟨f, fd, F.ok sc_compare (fun vs H Q E h => ?_) (fun cdv A outer s H vs Q E hr h => ?_), hm, F.kp, hb⟩
  · obtain ⟨x, y, a, b, j, k, rfl, _⟩ := h
    rfl
  · obtain ⟨x, y, a, b, j, k, rfl, hx, hy, sa, sb, hjk, q⟩ := h
    refine ⟨_, (pss_cons (ps_asg (pe_call G_subtract (hr.mono (by omega)) rfl m_subtract k_subtract b_subtract .nil pass0 (pa_cons (pv 0) (pa_cons (pv 1) pa_nil))) (pg_tup (by rfl) (pgs_cons (pg_name (i := 2) sc_compare.nd rfl (Or.inl rfl)) (pgs_cons (pg_name (i := 3) sc_compare.nd rfl (Or.inl rfl)) pgs_nil))))
      (pss_cons (ps_if (pt_cmpR op_lt (pv 2) pe_int (nomark _)) (pss_one (ps_ret (pe_un un_neg pe_int))) pss_nil)
      (pss_cons (ps_if (pt_cmpR op_gt (pv 2) pe_int (nomark _)) (pss_one (ps_ret pe_int)) pss_nil)
      (pss_one (ps_ret pe_int))))), ?_⟩
    have ra := hx.red
    have rb := hy.red
    refine ⟨_, rfl, _, rfl, x, y, a, b, j, k, rfl, hx, hy, sa, sb, hjk, fun p H1 s1 h1 => ?_⟩
    have q1 := q H1 s1
    rw [← cmp_sub ra rb] at q1
    refine ⟨p, _, rfl, SqT.of h1, rfl, .int _, _, rfl, .int _, _, rfl, rfl, ?_⟩
    generalize (addz a (negz b)).1 = t at *
    unfold sgn at q1
    refine ⟨_, rfl, _, _, rfl, rfl, _, rfl, ?_⟩
    refine ite2 (fun c => ?_) (fun c => ?_)
    · have c2 : t < 0 := of_decide_eq_true c
      rw [if_pos c2] at q1
      exact ⟨_, rfl, q1⟩
    · have c2 : ¬ t < 0 := of_decide_eq_false (Bool.eq_false_iff.mpr c)
      rw [if_neg c2] at q1
      refine ⟨_, rfl, _, _, rfl, rfl, _, rfl, ?_⟩
      refine ite2 (fun c3 => ?_) (fun c3 => ?_)
      · have c4 : t > 0 := of_decide_eq_true c3
        rw [if_pos c4] at q1
        exact q1
      · have c4 : ¬ t > 0 := of_decide_eq_false (Bool.eq_false_iff.mpr c3)
        rw [if_neg c4] at q1
        exact q1
end

/-! ### the law's drawn numbers -/
theorem But.new {H H' : Hp} {b g c p : Addr} {n : Nat} {o : HO} (B : Box H b g c n) (np : H p = none) (x : But b g (upd H p o) H') : H' p = some o := by
  obtain ⟨gs, cs, cur, m, B, _⟩ := B
  exact x p o upd_same (fun e => by rw [e, B.hb] at np; cases np) (fun e => by rw [e, B.hg] at np; cases np)
theorem But.after {H H' : Hp} {b g p : Addr} {o : HO} (np : H p = none) (x : But b g (upd H p o) H') : But b g H H' := (But.of (same_new np o)).trans x
theorem at_pick {H : Hp} {p : Addr} {xs : List V} {r k : Int} (_ : H p = some (.lst xs)) (r0 : 0 ≤ r) (r1 : r < k) (hk : (xs.length : Int) = k) : ∃ v, v ∈ xs ∧ atI xs r = some v := at_lt r0 (by omega)
theorem pow8000 (k : Nat) (h : k < 8000) : 2 ^ k < 2 ^ 8000 := Nat.pow_lt_pow_right (by decide) h
theorem pow8000' (j : Int) (k : Nat) (h : k < 8000) (h2 : j.natAbs < 2 ^ k) : j.natAbs < 2 ^ 8000 := Nat.lt_trans h2 (pow8000 k h)
/-- a drawn number: a new tuple in lowest terms -/
def spNum (cost : Nat) : Sp := fun vs H Q _ => ∃ (b g c : Addr) (n : Nat), vs = [.ref b] ∧ Box H b g c n ∧ n + cost < 1000000 ∧
  ∀ (p : Addr) (z : Int × Int) (H' : Hp), Red z → Sz 700 z → H' p = some (.tup [.int z.1, .int z.2]) → Box H' b g c (n + cost) → But b g H H' → Q (.ref p) H'
/-- a number as it is passed: the int where the bottom is 1, at times -/
def spGiven (K : PySem.W.Frag) : Sp := fun vs H Q _ => ∃ (b g c p : Addr) (n : Nat) (z : Int × Int), vs = [.ref b, .ref p] ∧ Box H b g c n ∧ n + 1 < 1000000 ∧ H p = some (.tup [.int z.1, .int z.2]) ∧ Red z ∧
  ∀ (v : V) (H' : Hp), Nv K (mk b g H') v z → Box H' b g c (n + 1) → But b g H H' → Q v H'
theorem red_one (t : Int) : Red (t, 1) := ⟨by show (0 : Int) < 1; decide, Int.gcd_one_right t⟩
theorem sz_of {z : Int × Int} {k : Nat} (h : Sz k z) (l : k ≤ 700) : Sz 700 z := h.mono l
section
variable {P : Program} {w : World} {K : PySem.W.Frag} {mg : Str → Option Value} {base : Heap}
theorem ok_number (GT : Kn P w K mg base CX0 "_law_take" 2 ["_law_box_here", "_law_size"] spTake) (GR : Kn P w K mg base CX0 "_law_ratio" 2 ["_law_top", "_law_bottom"] spLRatio) (D : Df K mg "_law_number" s_l_number ["_law_box_here"]) :
    Kn P w K mg base CX0 "_law_number" 3 ["_law_box_here"] (spNum 6) := by
  obtain ⟨f, fd, F, hm, hb⟩ := D
  obtain ⟨f_l_take, fd_l_take, G_l_take, m_l_take, k_l_take, b_l_take⟩ := GT
  obtain ⟨f_l_ratio, fd_l_ratio, G_l_ratio, m_l_ratio, k_l_ratio, b_l_ratio⟩ := GR
  refine ⟨f, fd, F.ok sc_l_number (fun vs H Q E h => ?_) (fun cdv A outer s H vs Q E hr h => ?_), hm, F.kp, hb⟩
  · obtain ⟨b, g, c, n, rfl, _⟩ := h
    rfl
  · obtain ⟨b, g, c, n, rfl, B, hn, q⟩ := h
    refine ⟨_, (pss_cons (ps_set (i := 1) sc_l_number.nd rfl (Or.inl rfl) (pe_call G_l_take (hr.mono (by omega)) rfl m_l_take k_l_take b_l_take .nil pass0 (pa_cons (pv 0) (pa_cons pe_int pa_nil))))
      (pss_cons (ps_if (pt_cmpR op_lt (pv 1) pe_int (nomark _)) (pss_one (ps_ret (pe_tup (pa_cons (pe_op op_sub (pe_call G_l_take (hr.mono (by omega)) rfl m_l_take k_l_take b_l_take .nil pass0 (pa_cons (pv 0) (pa_cons pe_int pa_nil))) pe_int) (pa_cons pe_int pa_nil))))) pss_nil)
      (pss_cons (ps_if (pt_cmpR op_lt (pv 1) pe_int (nomark _)) (pss_one (ps_ret (pe_call G_l_ratio (hr.mono (by omega)) rfl m_l_ratio k_l_ratio b_l_ratio .nil pass0 (pa_cons (pe_op op_sub (pe_call G_l_take (hr.mono (by omega)) rfl m_l_take k_l_take b_l_take .nil pass0 (pa_cons (pv 0) (pa_cons pe_int pa_nil))) pe_int) (pa_cons (pe_op op_add pe_int (pe_call G_l_take (hr.mono (by omega)) rfl m_l_take k_l_take b_l_take .nil pass0 (pa_cons (pv 0) (pa_cons pe_int pa_nil)))) pa_nil))))) pss_nil)
      (pss_cons (ps_set (i := 2) sc_l_number.nd rfl (Or.inl rfl) (pe_op op_mul (pe_call G_l_take (hr.mono (by omega)) rfl m_l_take k_l_take b_l_take .nil pass0 (pa_cons (pv 0) (pa_cons (pe_op op_powB pe_int pe_int) pa_nil))) (pe_ix ix_list (pe_lst (pa_cons pe_int (pa_cons (pe_un un_neg pe_int) pa_nil))) (pe_call G_l_take (hr.mono (by omega)) rfl m_l_take k_l_take b_l_take .nil pass0 (pa_cons (pv 0) (pa_cons pe_int pa_nil))) (fun _ _ => rfl))))
      (pss_one (ps_ret (pe_call G_l_ratio (hr.mono (by omega)) rfl m_l_ratio k_l_ratio b_l_ratio .nil pass0 (pa_cons (pv 2) (pa_cons (pe_ix ix_list (pe_lst (pa_cons pe_int (pa_cons (pe_op op_add pe_int (pe_call G_l_take (hr.mono (by omega)) rfl m_l_take k_l_take b_l_take .nil pass0 (pa_cons (pv 0) (pa_cons (pe_op op_sub (pe_op op_powB pe_int pe_int) pe_int) pa_nil)))) pa_nil))) (pe_call G_l_take (hr.mono (by omega)) rfl m_l_take k_l_take b_l_take .nil pass0 (pa_cons (pv 0) (pa_cons pe_int pa_nil))) (fun _ _ => rfl)) pa_nil))))))))), ?_⟩
    refine ⟨_, rfl, b, g, c, n, 10, rfl, B, by omega, by decide, pow8000' 10 4 (by decide) (by decide), fun way H1 w0 w1 B1 b1 => ?_⟩
    refine ⟨_, rfl, _, _, rfl, rfl, _, rfl, ?_⟩
    refine ite2 (fun _ => ?_) (fun _ => ?_)
    · refine ⟨_, rfl, b, g, c, _, 21, rfl, B1, by omega, by decide, pow8000' 21 5 (by decide) (by decide), fun x H2 x0 x1 B2 b2 => ?_⟩
      refine ⟨_, _, rfl, rfl, (by show 2 ≤ sizeLine; decide), fun p np => ?_⟩
      exact q p (x - 10, 1) _ (red_one _) (sz_of (k := 5) ⟨by show (x - 10).natAbs < 32; omega, by show (1 : Int).natAbs < 32; decide⟩ (by decide)) upd_same ((B2.same (same_new np _)).mono (by omega)) ((b1.trans b2).trans (But.of (same_new np _)))
    refine ⟨_, rfl, _, _, rfl, rfl, _, rfl, ?_⟩
    refine ite2 (fun _ => ?_) (fun _ => ?_)
    · refine ⟨_, rfl, b, g, c, _, 61, rfl, B1, by omega, by decide, pow8000' 61 6 (by decide) (by decide), fun x H2 x0 x1 B2 b2 => ?_⟩
      refine ⟨_, _, rfl, rfl, _, rfl, b, g, c, _, 12, rfl, B2, by omega, by decide, pow8000' 12 4 (by decide) (by decide), fun y H3 y0 y1 B3 b3 => ?_⟩
      refine ⟨_, _, rfl, rfl, x - 30, 1 + y, rfl, by omega, pow8000' (1 + y) 4 (by decide) (by show (1 + y).natAbs < 16; omega), fun p H4 s4 h4 => ?_⟩
      exact q p (nrm (x - 30) (1 + y)) _ (nrm_red (by omega)) (sz_of (k := 6) (sz_nrm (by show (x - 30).natAbs < 64; omega) (by show (1 + y).natAbs < 64; omega)) (by decide)) h4 ((B3.same s4).mono (by omega)) (((b1.trans b2).trans b3).trans (But.of s4))
    refine ⟨_, rfl, _, _, rfl, rfl, ⟨by decide, by decide +kernel⟩, b, g, c, _, _, rfl, B1, by omega, (by show (0 : Int) < 10 ^ 12; decide), pow8000' (10 ^ 12) 40 (by decide) (by decide), fun x H2 x0 x1 B2 b2 => ?_⟩
    have x2 : x < 10 ^ 12 := x1
    refine ⟨_, rfl, ?_⟩
    refine ⟨(by show 2 ≤ sizeLine; decide), fun p3 np3 => ⟨_, rfl, b, g, c, _, 2, rfl, B2.same (same_new np3 _), (by omega), (by decide), (by decide), fun r3 H3 r03 r13 B3 bt3 => ?_⟩⟩
    have hp3 := But.new B2 np3 bt3
    have bu3 := But.after np3 bt3
    obtain ⟨v3, hv3, hat3⟩ := at_pick hp3 r03 r13 rfl
    refine ⟨p3, _, r3, v3, rfl, rfl, SqL.of hp3, hat3, ?_⟩
    have hw : ∃ y : Int, v3 = .int y ∧ (y = 1 ∨ y = -1) := by
      simp only [List.mem_cons, List.not_mem_nil, or_false] at hv3
      rcases hv3 with e | e
      · exact ⟨_, e, .inl rfl⟩
      · exact ⟨_, e, .inr rfl⟩
    obtain ⟨y, rfl, hy⟩ := hw
    refine ⟨_, _, rfl, rfl, .inr ⟨by omega, by omega⟩, ?_⟩
    have hxy : (x * y).natAbs < 2 ^ 40 := by
      rcases hy with rfl | rfl
      · rw [Int.mul_one]
        omega
      · rw [Int.mul_neg, Int.mul_one]
        omega
    refine ⟨_, rfl, _, rfl, _, _, rfl, rfl, ⟨by decide, by decide +kernel⟩, _, _, rfl, rfl, b, g, c, _, _, rfl, B3, by omega, (by show (0 : Int) < 10 ^ 12 - 1; decide), pow8000' (10 ^ 12 - 1) 40 (by decide) (by decide), fun u H4 u0 u1 B4 b4 => ?_⟩
    have u2 : u < 10 ^ 12 - 1 := u1
    refine ⟨_, _, rfl, rfl, ?_⟩
    refine ⟨(by show 2 ≤ sizeLine; decide), fun p5 np5 => ⟨_, rfl, b, g, c, _, 2, rfl, B4.same (same_new np5 _), (by omega), (by decide), (by decide), fun r5 H5 r05 r15 B5 bt5 => ?_⟩⟩
    have hp5 := But.new B4 np5 bt5
    have bu5 := But.after np5 bt5
    obtain ⟨v5, hv5, hat5⟩ := at_pick hp5 r05 r15 rfl
    refine ⟨p5, _, r5, v5, rfl, rfl, SqL.of hp5, hat5, ?_⟩
    have hm : ∃ y : Int, v5 = .int y ∧ 0 < y ∧ y.natAbs < 2 ^ 40 := by
      simp only [List.mem_cons, List.not_mem_nil, or_false] at hv5
      rcases hv5 with e | e
      · exact ⟨_, e, by decide, by decide⟩
      · exact ⟨_, e, by show (0 : Int) < 1 + u; omega, by show (1 + u).natAbs < 2 ^ 40; omega⟩
    obtain ⟨m, rfl, m0, mB⟩ := hm
    refine ⟨x * y, m, rfl, by omega, pow8000' m 40 (by decide) mB, fun p H6 s6 h6 => ?_⟩
    exact q p (nrm (x * y) m) _ (nrm_red (by omega)) (sz_of (k := 40) (sz_nrm hxy mB) (by decide)) h6 ((B5.same s6).mono (by omega)) (((((b1.trans b2).trans bu3).trans b4).trans bu5).trans (But.of s6))
theorem ok_given (GT : Kn P w K mg base CX0 "_law_take" 2 ["_law_box_here", "_law_size"] spTake) (D : Df K mg "_law_given" s_l_given ["_law_box_here", "_law_number_here"]) :
    Kn P w K mg base CX0 "_law_given" 3 ["_law_box_here", "_law_number_here"] (spGiven K) := by
  obtain ⟨f, fd, F, hm, hb⟩ := D
  obtain ⟨f_l_take, fd_l_take, G_l_take, m_l_take, k_l_take, b_l_take⟩ := GT
  refine ⟨f, fd, F.ok sc_l_given (fun vs H Q E h => ?_) (fun cdv A outer s H vs Q E hr h => ?_), hm, F.kp, hb⟩
  · obtain ⟨b, g, c, p, n, z, rfl, _⟩ := h
    rfl
  · obtain ⟨b, g, c, p, n, z, rfl, B, hn, hp, rz, q⟩ := h
    refine ⟨_, (pss_cons (ps_if (PW.pt (pw_and (pt_cmpR op_eq (pe_ix ix_tup (pv 1) pe_int (fun _ _ => rfl)) pe_int (nomark _)) (pw_and1 (pt_cmpR op_eq (pe_call G_l_take (hr.mono (by omega)) rfl m_l_take k_l_take b_l_take .nil pass0 (pa_cons (pv 0) (pa_cons pe_int pa_nil))) pe_int (nomark _))))) (pss_one (ps_ret (pe_ix ix_tup (pv 1) pe_int (fun _ _ => rfl)))) pss_nil)
      (pss_one (ps_ret (pv 1)))), ?_⟩
    refine ⟨_, rfl, p, _, _, .int z.2, rfl, rfl, SqT.of hp, rfl, rfl, _, rfl, ?_⟩
    refine ite2 (fun h1 => ?_) (fun _ => ?_)
    · have e : z.2 = 1 := by
        have y := of_decide_eq_true h1
        injection y
      refine ⟨_, rfl, b, g, c, n, 2, rfl, B, by omega, by decide, pow8000' 2 2 (by decide) (by decide), fun x H1 x0 x1 B1 b1 => ?_⟩
      have hp1 := b1.tup B hp
      refine ⟨rfl, _, rfl, ?_⟩
      refine ite2 (fun _ => ?_) (fun _ => ?_)
      · refine ⟨_, rfl, p, _, _, .int z.1, rfl, rfl, SqT.of hp1, rfl, ?_⟩
        refine q _ _ ?_ B1 b1
        have : (z.1, (1 : Int)) = z := Prod.ext rfl e.symm
        rw [← this]
        exact Nv.int _
      · refine ⟨_, rfl, ?_⟩
        exact q _ _ (Nv.rat (mk_tup B1 hp1) rz) B1 b1
    · refine ⟨_, rfl, ?_⟩
      exact q _ _ (Nv.rat (mk_tup B hp) rz) (B.mono (by omega)) (But.refl _ _ _)
end

def divD (a b : Int × Int) : PyData := if b.1 = 0 then .none else rat (divz a b).1 (divz a b).2
def spDivided (K : PySem.W.Frag) : Sp := fun vs H Q _ => ∃ (x y : V) (a b : Int × Int) (j k : Nat), vs = [x, y] ∧ Nv K H x a ∧ Nv K H y b ∧ Sz j a ∧ Sz k b ∧ j + k + 1 ≤ 7000 ∧ ∀ r H', Same H H' → Dp K H' r (divD a b) → Q r H'
def spRight (K : PySem.W.Frag) : Sp := fun vs H Q _ => ∃ (p q' : Addr) (x y : V) (a b : Int × Int), vs = [.ref p, .ref q', x, y] ∧ H p = some (.tup [.int a.1, .int a.2]) ∧ H q' = some (.tup [.int b.1, .int b.2]) ∧ Nv K H x a ∧ Nv K H y b ∧ Sz 700 a ∧ Sz 700 b ∧
  ∀ H', Same H H' → Q (.bl true) H'
theorem eqv_rat (t m : Int) : PyData.eqv (rat t m) (rat t m) = true := PySem.SeqAt.eqv_refl _ rfl
theorem shp_rat (t m : Int) : SeqAt.shaped (rat t m) = true := rfl
theorem divz_nrm (a b : Int × Int) : divz a b = nrm (a.1 * b.2) (a.2 * b.1) := rfl
theorem iteEqv {c : Bool} {A B : Prop} (hc : c = true) (h : B) : if (!c) = true then A else B := by
  rw [hc]
  exact iteF h
theorem sgn_ints (x : Int) : (if decide (x > 0) = true then (1 : Int) else 0) - (if decide (x < 0) = true then (1 : Int) else 0) = sgn x := by
  unfold sgn
  by_cases h : x < 0
  · have : ¬ x > 0 := by omega
    simp [h, this]
  · by_cases h2 : x > 0
    · simp [h, h2]
    · simp [h, h2]
theorem most_lt : (((10 : Int) ^ (49 : Int).toNat) ^ (4 : Int).toNat).natAbs < 2 ^ 652 := by decide +kernel
theorem most_bits : (Builtin.Int.intBits ((10 : Int) ^ (49 : Int).toNat) : Int) * 4 ≤ 2 ^ 27 := by decide +kernel
theorem most_pos : 0 < (((10 : Int) ^ (49 : Int).toNat) ^ (4 : Int).toNat) := by decide +kernel
section
variable {P : Program} {w : World} {K : PySem.W.Frag} {mg : Str → Option Value} {base : Heap}
theorem ok_longer (GT : Kn P w K mg base CX0 "_law_take" 2 ["_law_box_here", "_law_size"] spTake) (GR : Kn P w K mg base CX0 "_law_ratio" 2 ["_law_top", "_law_bottom"] spLRatio) (GN : Kn P w K mg base CX0 "_law_number" 3 ["_law_box_here"] (spNum 6))
    (D : Df K mg "_law_longer" s_l_longer ["_law_box_here"]) : Kn P w K mg base CX0 "_law_longer" 4 ["_law_box_here"] (spNum 10) := by
  obtain ⟨f, fd, F, hm, hb⟩ := D
  obtain ⟨f_l_take, fd_l_take, G_l_take, m_l_take, k_l_take, b_l_take⟩ := GT
  obtain ⟨f_l_ratio, fd_l_ratio, G_l_ratio, m_l_ratio, k_l_ratio, b_l_ratio⟩ := GR
  obtain ⟨f_l_number, fd_l_number, G_l_number, m_l_number, k_l_number, b_l_number⟩ := GN
  refine ⟨f, fd, F.ok sc_l_longer (fun vs H Q E h => ?_) (fun cdv A outer s H vs Q E hr h => ?_), hm, F.kp, hb⟩
  · obtain ⟨b, g, c, n, rfl, _⟩ := h
    rfl
  · obtain ⟨b, g, c, n, rfl, B, hn, q⟩ := h
    refine ⟨_, (pss_cons (ps_set (i := 1) sc_l_longer.nd rfl (Or.inl rfl) (pe_call G_l_take (hr.mono (by omega)) rfl m_l_take k_l_take b_l_take .nil pass0 (pa_cons (pv 0) (pa_cons pe_int pa_nil))))
      (pss_cons (ps_if (pt_cmpR op_eq (pv 1) pe_int (nomark _)) (pss_one (ps_ret (pe_tup (pa_cons pe_int (pa_cons pe_int pa_nil))))) pss_nil)
      (pss_cons (ps_if (pt_cmpR op_lt (pv 1) pe_int (nomark _)) (pss_cons (ps_set (i := 2) sc_l_longer.nd rfl (Or.inl rfl) (pe_ix ix_list (pe_lst (pa_cons (pe_op op_powB pe_int pe_int) (pa_cons (pe_op op_powB (pe_op op_powB pe_int pe_int) pe_int) pa_nil))) (pe_op op_sub (pv 1) pe_int) (fun _ _ => rfl)))
      (pss_one (ps_ret (pe_call G_l_ratio (hr.mono (by omega)) rfl m_l_ratio k_l_ratio b_l_ratio .nil pass0 (pa_cons (pe_op op_sub (pe_call G_l_take (hr.mono (by omega)) rfl m_l_take k_l_take b_l_take .nil pass0 (pa_cons (pv 0) (pa_cons (pv 2) pa_nil))) (pe_op op_fdivW (pv 2) pe_int)) (pa_cons (pe_op op_add pe_int (pe_call G_l_take (hr.mono (by omega)) rfl m_l_take k_l_take b_l_take .nil pass0 (pa_cons (pv 0) (pa_cons (pv 2) pa_nil)))) pa_nil)))))) pss_nil)
      (pss_one (ps_ret (pe_call G_l_number (hr.mono (by omega)) rfl m_l_number k_l_number b_l_number .nil pass0 (pa_cons (pv 0) pa_nil))))))), ?_⟩
    refine ⟨_, rfl, b, g, c, n, 8, rfl, B, by omega, by decide, pow8000' 8 4 (by decide) (by decide), fun way H1 w0 w1 B1 b1 => ?_⟩
    refine ⟨_, rfl, rfl, _, rfl, ?_⟩
    refine ite2 (fun _ => ?_) (fun hw0 => ?_)
    · refine ⟨(by show 2 ≤ sizeLine; decide), fun p np => ?_⟩
      exact q p (0, 1) _ (red_one _) (sz_of (k := 5) ⟨by decide, by decide⟩ (by decide)) upd_same ((B1.same (same_new np _)).mono (by omega)) (b1.trans (But.of (same_new np _)))
    have hw : way ≠ 0 := fun z => hw0 (by rw [z]; rfl)
    refine ⟨_, rfl, _, _, rfl, rfl, _, rfl, ?_⟩
    refine ite2 (fun h3 => ?_) (fun _ => ?_)
    · have h3' : way < 3 := of_decide_eq_true h3
      refine ⟨_, _, rfl, rfl, ⟨by decide, by decide +kernel⟩, _, _, rfl, rfl, ⟨by decide, by decide +kernel⟩, _, _, rfl, rfl, ⟨by decide, most_bits⟩, (by show 2 ≤ sizeLine; decide), fun pl npl => ?_⟩
      have sl := same_new npl (.lst [.int (10 ^ (60 : Int).toNat), .int ((10 ^ (49 : Int).toNat) ^ (4 : Int).toNat)])
      have Bl := B1.same sl
      obtain ⟨v, hv, hat⟩ := at_lt (xs := [V.int (10 ^ (60 : Int).toNat), V.int ((10 ^ (49 : Int).toNat) ^ (4 : Int).toNat)]) (r := way - 1) (by omega) (by show way - 1 < 2; omega)
      refine ⟨_, rfl, _, _, rfl, rfl, pl, _, way - 1, v, rfl, rfl, SqL.of upd_same, hat, ?_⟩
      have hz : ∃ z : Int, v = .int z ∧ 0 < z ∧ z.natAbs < 2 ^ 652 := by
        simp only [List.mem_cons, List.not_mem_nil, or_false] at hv
        rcases hv with e | e
        · exact ⟨_, e, by decide, by decide +kernel⟩
        · exact ⟨_, e, most_pos, most_lt⟩
      obtain ⟨z, rfl, z0, zB⟩ := hz
      refine ⟨_, rfl, _, rfl, b, g, c, _, z, rfl, Bl, by omega, z0, Nat.lt_trans zB (pow8000 652 (by decide)), fun x H2 x0 x1 B2 b2 => ?_⟩
      refine ⟨_, rfl, _, _, rfl, rfl, ⟨by decide, by decide⟩, _, _, rfl, rfl, _, rfl, _, rfl, b, g, c, _, z, rfl, B2, by omega, z0, Nat.lt_trans zB (pow8000 652 (by decide)), fun y H3 y0 y1 B3 b3 => ?_⟩
      have hq0 : 0 ≤ z / 10 := Int.ediv_nonneg (by omega) (by decide)
      have hq1 : z / 10 ≤ z := Int.ediv_le_self _ (by omega)
      generalize hzq : z / 10 = zq at *
      have zp : (2 : Nat) ^ 653 = 2 ^ 652 + 2 ^ 652 := by decide
      generalize (2 : Nat) ^ 652 = K0 at zB zp
      refine ⟨_, _, rfl, rfl, x - zq, 1 + y, rfl, by omega, ?_, fun p H4 s4 h4 => ?_⟩
      · refine Nat.lt_trans ?_ (pow8000 653 (by decide))
        omega
      refine q p (nrm (x - zq) (1 + y)) _ (nrm_red (by omega)) (sz_of (k := 653) (sz_nrm ?_ ?_) (by decide)) h4 ((B3.same s4).mono (by omega)) ((((b1.trans (But.of sl)).trans b2).trans b3).trans (But.of s4))
      · omega
      · omega
    · exact ⟨_, rfl, b, g, c, _, rfl, B1, by omega, fun p z H2 rz sz h2 B2 b2 => q p z H2 rz sz h2 (B2.mono (by omega)) (b1.trans b2)⟩
theorem ok_divided {C : Addr} (Tz : ErrZ K mg "ZeroBottom" C) (GD : Kn P w K mg base (L2.CX P w) "divide" 4 ["one", "other"] (spDiv K C)) (D : Df K mg "_law_divided" s_l_divided ["_law_one", "_law_other"]) :
    Kn P w K mg base CX0 "_law_divided" 5 ["_law_one", "_law_other"] (spDivided K) := by
  obtain ⟨f, fd, F, hm, hb⟩ := D
  obtain ⟨f_divide, fd_divide, G_divide, m_divide, k_divide, b_divide⟩ := GD
  refine ⟨f, fd, F.ok sc_l_divided (fun vs H Q E h => ?_) (fun cdv A outer s H vs Q E hr h => ?_), hm, F.kp, hb⟩
  · obtain ⟨x, y, a, b, j, k, rfl, _⟩ := h
    rfl
  · obtain ⟨x, y, a, b, j, k, rfl, hx, hy, sa, sb, hjk, q⟩ := h
    refine ⟨_, (pss_cons (ps_set (i := 2) sc_l_divided.nd rfl (Or.inl rfl) pe_non)
      (pss_cons (ps_try_only rfl rfl ⟨rfl, by decide, Or.inl Tz.gP⟩ takes0 (fun W pn xe tk _ => (pss_one (ps_set (i := 2) sc_l_divided.nd rfl (Or.inl rfl) (pe_callS G_divide (hr.mono (by omega)) rfl m_divide k_divide b_divide (fun σ => passAt tk σ) (pa_cons (pv 0) (pa_cons (pv 1) pa_nil)))))) (fun ea oe cls ed pn hz hf => (pss_one (ps_set (i := 2) sc_l_divided.nd rfl (Or.inl rfl) pe_non))))
      (pss_one (ps_ret (pv 2))))), ?_⟩
    refine ⟨_, rfl, _, rfl, x, y, a, b, j, k, rfl, hx, hy, sa, sb, hjk, fun h0 p H1 s1 h1 => ?_, fun h0 H1 s1 => ?_⟩
    · refine ⟨_, rfl, q _ _ s1 ?_⟩
      unfold divD
      rw [if_neg h0]
      exact dp_rat h1
    · refine ⟨true, Tz.ex, fun _ ea hea => ⟨_, rfl, q _ _ s1 ?_⟩, fun z => nomatch z⟩
      unfold divD
      rw [if_pos h0]
      exact .non
theorem ok_right (T : Bt mg) (GA : Kn P w K mg base CX0 "add" 4 ["one", "other"] (spBin K addz)) (GM : Kn P w K mg base CX0 "multiply" 4 ["one", "other"] (spBin K mulz)) (GS : Kn P w K mg base CX0 "subtract" 5 ["one", "other"] (spSub K))
    (GC : Kn P w K mg base CX0 "compare" 6 ["one", "other"] (spCmp K)) (GD : Kn P w K mg base CX0 "_law_divided" 5 ["_law_one", "_law_other"] (spDivided K)) (GR : Kn P w K mg base CX0 "_law_ratio" 2 ["_law_top", "_law_bottom"] spLRatio)
    (D : Df K mg "_law_right" s_l_right ["_law_one", "_law_other", "_law_passed", "_law_second"]) : Kn P w K mg base CX0 "_law_right" 7 ["_law_one", "_law_other", "_law_passed", "_law_second"] (spRight K) := by
  obtain ⟨f, fd, F, hm, hb⟩ := D
  obtain ⟨f_add, fd_add, G_add, m_add, k_add, b_add⟩ := GA
  obtain ⟨f_multiply, fd_multiply, G_multiply, m_multiply, k_multiply, b_multiply⟩ := GM
  obtain ⟨f_subtract, fd_subtract, G_subtract, m_subtract, k_subtract, b_subtract⟩ := GS
  obtain ⟨f_compare, fd_compare, G_compare, m_compare, k_compare, b_compare⟩ := GC
  obtain ⟨f_l_divided, fd_l_divided, G_l_divided, m_l_divided, k_l_divided, b_l_divided⟩ := GD
  obtain ⟨f_l_ratio, fd_l_ratio, G_l_ratio, m_l_ratio, k_l_ratio, b_l_ratio⟩ := GR
  refine ⟨f, fd, F.ok sc_l_right (fun vs H Q E h => ?_) (fun cdv A outer s H vs Q E hr h => ?_), hm, F.kp, hb⟩
  · obtain ⟨p, q', x, y, a, b, rfl, _⟩ := h
    rfl
  · obtain ⟨p, p', x, y, a, b, rfl, hp, hp', hx, hy, sa, sb, q⟩ := h
    have ra := hx.red
    have rb := hy.red
    have pa := ra.pos
    have pb := rb.pos
    have mm : ∀ {u v : Int}, u.natAbs < 2 ^ 700 → v.natAbs < 2 ^ 700 → CMulW u v := fun h1 h2 => mulW_of h1 h2 (by decide) (by decide) (by decide)
    have b8 : ∀ {u v : Int}, u.natAbs < 2 ^ 700 → v.natAbs < 2 ^ 700 → (u * v).natAbs < 2 ^ 8000 := fun h1 h2 => to8000 (lt_mul h1 h2) (by decide)
    have ne := mne ra rb
    refine ⟨_, (pss_cons (ps_set (i := 4) sc_l_right.nd rfl (Or.inl rfl) (pe_op op_sub (pe_op op_mulW (pe_ix ix_tup (pv 0) pe_int (fun _ _ => rfl)) (pe_ix ix_tup (pv 1) pe_int (fun _ _ => rfl))) (pe_op op_mulW (pe_ix ix_tup (pv 1) pe_int (fun _ _ => rfl)) (pe_ix ix_tup (pv 0) pe_int (fun _ _ => rfl)))))
      (pss_cons (ps_if (pt_cmpR (op_neD hr.units) (pe_call G_add (hr.mono (by omega)) rfl m_add k_add b_add .nil pass0 (pa_cons (pv 2) (pa_cons (pv 3) pa_nil))) (pe_call G_l_ratio (hr.mono (by omega)) rfl m_l_ratio k_l_ratio b_l_ratio .nil pass0 (pa_cons (pe_op op_add (pe_op op_mulW (pe_ix ix_tup (pv 0) pe_int (fun _ _ => rfl)) (pe_ix ix_tup (pv 1) pe_int (fun _ _ => rfl))) (pe_op op_mulW (pe_ix ix_tup (pv 1) pe_int (fun _ _ => rfl)) (pe_ix ix_tup (pv 0) pe_int (fun _ _ => rfl)))) (pa_cons (pe_op op_mulW (pe_ix ix_tup (pv 0) pe_int (fun _ _ => rfl)) (pe_ix ix_tup (pv 1) pe_int (fun _ _ => rfl))) pa_nil))) (nomark _)) (pss_one (ps_ret pe_bl)) pss_nil)
      (pss_cons (ps_if (pt_cmpR (op_neD hr.units) (pe_call G_subtract (hr.mono (by omega)) rfl m_subtract k_subtract b_subtract .nil pass0 (pa_cons (pv 2) (pa_cons (pv 3) pa_nil))) (pe_call G_l_ratio (hr.mono (by omega)) rfl m_l_ratio k_l_ratio b_l_ratio .nil pass0 (pa_cons (pv 4) (pa_cons (pe_op op_mulW (pe_ix ix_tup (pv 0) pe_int (fun _ _ => rfl)) (pe_ix ix_tup (pv 1) pe_int (fun _ _ => rfl))) pa_nil))) (nomark _)) (pss_one (ps_ret pe_bl)) pss_nil)
      (pss_cons (ps_if (pt_cmpR (op_neD hr.units) (pe_call G_multiply (hr.mono (by omega)) rfl m_multiply k_multiply b_multiply .nil pass0 (pa_cons (pv 2) (pa_cons (pv 3) pa_nil))) (pe_call G_l_ratio (hr.mono (by omega)) rfl m_l_ratio k_l_ratio b_l_ratio .nil pass0 (pa_cons (pe_op op_mulW (pe_ix ix_tup (pv 0) pe_int (fun _ _ => rfl)) (pe_ix ix_tup (pv 1) pe_int (fun _ _ => rfl))) (pa_cons (pe_op op_mulW (pe_ix ix_tup (pv 0) pe_int (fun _ _ => rfl)) (pe_ix ix_tup (pv 1) pe_int (fun _ _ => rfl))) pa_nil))) (nomark _)) (pss_one (ps_ret pe_bl)) pss_nil)
      (pss_cons (ps_set (i := 5) sc_l_right.nd rfl (Or.inl rfl) (pe_call G_compare (hr.mono (by omega)) rfl m_compare k_compare b_compare .nil pass0 (pa_cons (pv 2) (pa_cons (pv 3) pa_nil))))
      (pss_cons (ps_if (PW.pt (pw_or (pt_val (pe_callB (cr_isi (K := K) rfl) (by rfl) T.n_isinstance (by decide +kernel) (pa_cons (pv 5) (pa_cons (pe_bltn (v := .ty "bool") (by rfl) T.n_bool (by decide +kernel) rfl) pa_nil)))) (pw_or1 (pt_cmpR op_ne (pv 5) (pe_op op_sub (pe_callTy call_int1 (by rfl) T.n_int (by decide +kernel) (pa_cons (pe_cmpR op_gt (pv 4) pe_int (nomark _)) pa_nil)) (pe_callTy call_int1 (by rfl) T.n_int (by decide +kernel) (pa_cons (pe_cmpR op_lt (pv 4) pe_int (nomark _)) pa_nil))) (nomark _))))) (pss_one (ps_ret pe_bl)) pss_nil)
      (C8.pss_cut (ps_set (i := 6) sc_l_right.nd rfl (Or.inl rfl) (pe_ifExp (pt_cmpR op_eq (pe_ix ix_tup (pv 1) pe_int (fun _ _ => rfl)) pe_int (nomark _)) pe_non (pe_call G_l_ratio (hr.mono (by omega)) rfl m_l_ratio k_l_ratio b_l_ratio .nil pass0 (pa_cons (pe_op op_mulW (pe_ix ix_tup (pv 0) pe_int (fun _ _ => rfl)) (pe_ix ix_tup (pv 1) pe_int (fun _ _ => rfl))) (pa_cons (pe_op op_mulW (pe_ix ix_tup (pv 0) pe_int (fun _ _ => rfl)) (pe_ix ix_tup (pv 1) pe_int (fun _ _ => rfl))) pa_nil)))))
      (pss_one (ps_ret (pe_cmpR (op_eqD hr.units) (pe_call G_l_divided (hr.mono (by omega)) rfl m_l_divided k_l_divided b_l_divided .nil pass0 (pa_cons (pv 2) (pa_cons (pv 3) pa_nil))) (pv 6) (nomark _))))))))))), ?_⟩
    -- top = one[0] * other[1] - other[0] * one[1]
    refine ⟨_, rfl, p, _, _, .int a.1, rfl, rfl, SqT.of hp, rfl, _, rfl, p', _, _, .int b.2, rfl, rfl, SqT.of hp', rfl, _, _, rfl, rfl, mm sa.1 sb.2, _, rfl, p', _, _, .int b.1, rfl, rfl, SqT.of hp', rfl, _, rfl, p, _, _, .int a.2, rfl, rfl, SqT.of hp, rfl, _, _, rfl, rfl, mm sb.1 sa.2, _, _, rfl, rfl, ?_⟩
    -- add
    refine ⟨_, rfl, _, rfl, x, y, a, b, 700, 700, rfl, hx, hy, sa, sb, by decide, fun r1 H1 s1 h1 => ?_⟩
    refine ⟨_, rfl, p, _, _, .int a.1, rfl, rfl, SqT.of (s1 _ _ hp), rfl, _, rfl, p', _, _, .int b.2, rfl, rfl, SqT.of (s1 _ _ hp'), rfl, _, _, rfl, rfl, mm sa.1 sb.2, _, rfl, p', _, _, .int b.1, rfl, rfl, SqT.of (s1 _ _ hp'), rfl, _, rfl, p, _, _, .int a.2, rfl, rfl, SqT.of (s1 _ _ hp), rfl, _, _, rfl, rfl, mm sb.1 sa.2, _, _, rfl, rfl,
      _, rfl, p, _, _, .int a.2, rfl, rfl, SqT.of (s1 _ _ hp), rfl, _, rfl, p', _, _, .int b.2, rfl, rfl, SqT.of (s1 _ _ hp'), rfl, _, _, rfl, rfl, mm sa.2 sb.2, ?_⟩
    refine ⟨_, _, rfl, ne, b8 sa.2 sb.2, fun r2 H2 s2 h2 => ?_⟩
    refine ⟨_, _, dp_rat (s2 _ _ h1), dp_rat h2, shp_rat _ _, shp_rat _ _, _, rfl, ?_⟩
    refine iteEqv (eqv_rat _ _) ?_
    have s02 := s1.trans s2
    -- subtract
    refine ⟨_, rfl, _, rfl, x, y, a, b, 700, 700, rfl, hx.same s02, hy.same s02, sa, sb, by decide, fun r3 H3 s3 h3 => ?_⟩
    have s03 := s02.trans s3
    refine ⟨_, rfl, _, rfl, p, _, _, .int a.2, rfl, rfl, SqT.of (s03 _ _ hp), rfl, _, rfl, p', _, _, .int b.2, rfl, rfl, SqT.of (s03 _ _ hp'), rfl, _, _, rfl, rfl, mm sa.2 sb.2, ?_⟩
    refine ⟨_, _, rfl, ne, b8 sa.2 sb.2, fun r4 H4 s4 h4 => ?_⟩
    have e4 : addz a (negz b) = nrm (a.1 * b.2 - b.1 * a.2) (a.2 * b.2) := by
      show nrm (a.1 * b.2 + (-b.1) * a.2) (a.2 * b.2) = _
      rw [show a.1 * b.2 + (-b.1) * a.2 = a.1 * b.2 - b.1 * a.2 by grind]
    rw [e4] at h3
    refine ⟨_, _, dp_rat (s4 _ _ h3), dp_rat h4, shp_rat _ _, shp_rat _ _, _, rfl, ?_⟩
    refine iteEqv (eqv_rat _ _) ?_
    have s04 := s03.trans s4
    -- multiply
    refine ⟨_, rfl, _, rfl, x, y, a, b, 700, 700, rfl, hx.same s04, hy.same s04, sa, sb, by decide, fun r5 H5 s5 h5 => ?_⟩
    have s05 := s04.trans s5
    refine ⟨_, rfl, p, _, _, .int a.1, rfl, rfl, SqT.of (s05 _ _ hp), rfl, _, rfl, p', _, _, .int b.1, rfl, rfl, SqT.of (s05 _ _ hp'), rfl, _, _, rfl, rfl, mm sa.1 sb.1, _, rfl, p, _, _, .int a.2, rfl, rfl, SqT.of (s05 _ _ hp), rfl, _, rfl, p', _, _, .int b.2, rfl, rfl, SqT.of (s05 _ _ hp'), rfl, _, _, rfl, rfl, mm sa.2 sb.2, ?_⟩
    refine ⟨_, _, rfl, ne, b8 sa.2 sb.2, fun r6 H6 s6 h6 => ?_⟩
    refine ⟨_, _, dp_rat (s6 _ _ h5), dp_rat h6, shp_rat _ _, shp_rat _ _, _, rfl, ?_⟩
    refine iteEqv (eqv_rat _ _) ?_
    have s06 := s05.trans s6
    -- compare
    refine ⟨_, rfl, _, rfl, x, y, a, b, 700, 700, rfl, hx.same s06, hy.same s06, sa, sb, by decide, fun H7 s7 => ?_⟩
    have s07 := s06.trans s7
    refine ⟨_, rfl, _, _, _, _, _, rfl, .ty _, dp_ty (Dp.int _), kit_ty (kb_bool _), _, rfl, ?_⟩
    refine iteF ?_
    refine ⟨_, rfl, _, rfl, _, _, rfl, rfl, .inr ⟨_, rfl, _, rfl, _, _, rfl, rfl, .inr ⟨_, rfl, _, _, rfl, rfl, rfl, _, rfl, ?_⟩⟩⟩
    refine iteNS (congrArg V.int (sgn_ints _).symm) ?_
    -- due
    refine ⟨fun σ H8 => Same H H8 ∧ ∃ dv s1 s2, σ = [some (.ref p), some (.ref p'), some x, some y, s1, s2, some dv] ∧ Dp K H8 dv (divD a b), ?_, ?_⟩
    · refine ⟨_, rfl, p', _, _, .int b.1, rfl, rfl, SqT.of (s07 _ _ hp'), rfl, rfl, _, rfl, ?_⟩
      refine ite2 (fun h0 => ?_) (fun h0 => ?_)
      · have e : b.1 = 0 := by
          have z := of_decide_eq_true h0
          injection z
        refine ⟨s07, _, _, _, rfl, ?_⟩
        unfold divD
        rw [if_pos e]
        exact .non
      · have e : b.1 ≠ 0 := fun z => h0 (by rw [z]; rfl)
        refine ⟨_, rfl, p, _, _, .int a.1, rfl, rfl, SqT.of (s07 _ _ hp), rfl, _, rfl, p', _, _, .int b.2, rfl, rfl, SqT.of (s07 _ _ hp'), rfl, _, _, rfl, rfl, mm sa.1 sb.2, _, rfl, p, _, _, .int a.2, rfl, rfl, SqT.of (s07 _ _ hp), rfl, _, rfl, p', _, _, .int b.1, rfl, rfl, SqT.of (s07 _ _ hp'), rfl, _, _, rfl, rfl, mm sa.2 sb.1, ?_⟩
        refine ⟨_, _, rfl, Int.mul_ne_zero (by omega) e, b8 sa.2 sb.1, fun r8 H8 s8 h8 => ?_⟩
        refine ⟨s07.trans s8, _, _, _, rfl, ?_⟩
        unfold divD
        rw [if_neg e]
        exact dp_rat h8
    · rintro σ H8 ⟨s08, dv, t1, t2, rfl, hdv⟩
      refine ⟨_, rfl, _, rfl, x, y, a, b, 700, 700, rfl, hx.same s08, hy.same s08, sa, sb, by decide, fun r H9 s9 hr9 => ?_⟩
      have shd : SeqAt.shaped (divD a b) = true := by
        unfold divD
        split <;> rfl
      refine ⟨_, rfl, _, _, hr9, dp_same s9 _ _ hdv, shd, shd, ?_⟩
      have q9 := q H9 (s08.trans s9)
      rw [← PySem.SeqAt.eqv_refl (divD a b) (SeqAt.canLay_of_shaped shd)] at q9
      exact q9
end

def spLaw (K : PySem.W.Frag) : Sp := fun vs H Q _ => ∃ (a : Addr) (ns : List Int), vs = [.ref a] ∧ SqL K H a (ns.map V.int) ∧ ns.length ≤ 63 ∧ ∀ H', Q (.bl true) H'
theorem list3 {α : Type} {l : List α} (h : l.length = 3) : ∃ x y z, l = [x, y, z] := by
  match l, h with
  | [x, y, z], _ => exact ⟨x, y, z, rfl⟩
theorem isRat_rat {z : Int × Int} (h : Red z) : isRat (rat z.1 z.2) = true := by
  show (if 1 ≤ z.2 ∧ Int.gcd z.1 z.2 = 1 then some (z.1, z.2) else none).isSome = true
  have := h.pos
  rw [if_pos ⟨by omega, h.co⟩]
  rfl
theorem all_true : ∀ n : Nat, (List.replicate n true).all id = true
  | 0 => rfl
  | n + 1 => by rw [List.replicate_succ, List.all_cons, all_true n]; rfl
def Tp (H : Hp) (p : Addr) (z : Int × Int) : Prop := H p = some (.tup [.int z.1, .int z.2])
theorem step_red : Red ((1 : Int), (10 : Int) ^ (20 : Int).toNat) := ⟨by show (0 : Int) < (10 : Int) ^ (20 : Int).toNat; decide, Int.one_gcd⟩
section
variable {P : Program} {w : World} {K : PySem.W.Frag} {mg : Str → Option Value} {base : Heap}
theorem ok_law {Cz : Addr} (T : Bt mg) (GB : Kn P w K mg base CX0 "_law_box" 1 ["_law_script"] (spBox K)) (GL : Kn P w K mg base CX0 "_law_longer" 4 ["_law_box_here"] (spNum 10)) (GG : Kn P w K mg base CX0 "_law_given" 3 ["_law_box_here", "_law_number_here"] (spGiven K))
    (GR : Kn P w K mg base CX0 "_law_right" 7 ["_law_one", "_law_other", "_law_passed", "_law_second"] (spRight K)) (GI : Kn P w K mg base CX0 "_law_is_ratio" 2 ["_law_value"] (spD K isRat))
    (GA : Kn P w K mg base CX0 "add" 4 ["one", "other"] (spBin K addz)) (GM : Kn P w K mg base CX0 "multiply" 4 ["one", "other"] (spBin K mulz)) (GS : Kn P w K mg base CX0 "subtract" 5 ["one", "other"] (spSub K))
    (GC : Kn P w K mg base CX0 "compare" 6 ["one", "other"] (spCmp K)) (GD : Kn P w K mg base (L2.CX P w) "divide" 4 ["one", "other"] (spDiv K Cz))
    {f : Addr} {fd : FuncData} (F : Fun K "law" "law" s_law f fd) : FnOk P w K mg base CX0 10 f fd ["_law_script"] (spLaw K) := by
  obtain ⟨f_l_box, fd_l_box, G_l_box, m_l_box, k_l_box, b_l_box⟩ := GB
  obtain ⟨f_l_longer, fd_l_longer, G_l_longer, m_l_longer, k_l_longer, b_l_longer⟩ := GL
  obtain ⟨f_l_given, fd_l_given, G_l_given, m_l_given, k_l_given, b_l_given⟩ := GG
  obtain ⟨f_l_right, fd_l_right, G_l_right, m_l_right, k_l_right, b_l_right⟩ := GR
  obtain ⟨f_l_is_ratio, fd_l_is_ratio, G_l_is_ratio, m_l_is_ratio, k_l_is_ratio, b_l_is_ratio⟩ := GI
  obtain ⟨f_add, fd_add, G_add, m_add, k_add, b_add⟩ := GA
  obtain ⟨f_multiply, fd_multiply, G_multiply, m_multiply, k_multiply, b_multiply⟩ := GM
  obtain ⟨f_subtract, fd_subtract, G_subtract, m_subtract, k_subtract, b_subtract⟩ := GS
  obtain ⟨f_compare, fd_compare, G_compare, m_compare, k_compare, b_compare⟩ := GC
  obtain ⟨f_divide, fd_divide, G_divide, m_divide, k_divide, b_divide⟩ := GD
  refine F.ok sc_law (k := 9) (fun vs H Q E h => ?_) (fun cdv A outer s H vs Q E hr h => ?_)
  · obtain ⟨a, ns, rfl, _⟩ := h
    rfl
  · obtain ⟨a, ns, rfl, hS, hl, q⟩ := h
    refine ⟨_, (pss_cons (ps_set (i := 1) sc_law.nd rfl (Or.inr rfl) (pe_call G_l_box (hr.mono (by omega)) rfl m_l_box k_l_box b_l_box .nil pass0 (pa_cons (pv 0) pa_nil)))
      (pss_cons (ps_for PassesOwn.never rfl (pi_range1 rfl T.n_range (pa_cons pe_int pa_nil)) (pg_name (i := 2) sc_law.nd rfl (Or.inl rfl))
        (pss_cons (ps_asg (pe_lc (own := [("_law_k", 8)]) rfl sc_law.nd (pi_range1 rfl T.n_range (pa_cons pe_int pa_nil)) (blkOk_by (N := ["_law_script", "_law_box_here", "_law_turn", "_law_one", "_law_other", "_law_third", "_law_passed", "_law_second", "_law_k", "_law_found"]) (sc := defScope s_law) (by decide +kernel)) (fun _ _ _ _ _ => (pg_name (i := 8) sc_law.nd rfl (Or.inl rfl))) (fun _ _ _ _ _ => pts_nil) (fun _ _ _ _ _ => (pe_call G_l_longer (hr.mono (by omega)) rfl m_l_longer k_l_longer b_l_longer .nil pass0 (pa_cons (pv 1) pa_nil)))) (pg_unl (by rfl) (pgs_cons (pg_name (i := 3) sc_law.nd rfl (Or.inl rfl)) (pgs_cons (pg_name (i := 4) sc_law.nd rfl (Or.inl rfl)) (pgs_cons (pg_name (i := 5) sc_law.nd rfl (Or.inl rfl)) pgs_nil)))))
      (pss_cons (ps_par (i := 6) (j := 7) (by rfl) sc_law.nd rfl rfl (by decide) rfl rfl (pa_cons (pe_call G_l_given (hr.mono (by omega)) rfl m_l_given k_l_given b_l_given .nil pass0 (pa_cons (pv 1) (pa_cons (pv 3) pa_nil))) (pa_cons (pe_call G_l_given (hr.mono (by omega)) rfl m_l_given k_l_given b_l_given .nil pass0 (pa_cons (pv 1) (pa_cons (pv 4) pa_nil))) pa_nil)) (by rfl))
      (pss_cons (ps_if (PW.pt (pw_or (pt_not (pt_val (pe_call G_l_right (hr.mono (by omega)) rfl m_l_right k_l_right b_l_right .nil pass0 (pa_cons (pv 3) (pa_cons (pv 4) (pa_cons (pv 6) (pa_cons (pv 7) pa_nil))))))) (pw_or1 (pt_not (pt_val (pe_call G_l_right (hr.mono (by omega)) rfl m_l_right k_l_right b_l_right .nil pass0 (pa_cons (pv 4) (pa_cons (pv 3) (pa_cons (pv 7) (pa_cons (pv 6) pa_nil)))))))))) (pss_one (ps_ret pe_bl)) pss_nil)
      (pss_cons (ps_if (pt_not (pt_val (pe_callB (cr_all rfl) (by rfl) T.n_all (by decide +kernel) (pa_cons (pe_lc (own := [("_law_found", 9)]) rfl sc_law.nd (pi_tup (pe_tup (pa_cons (pe_call G_add (hr.mono (by omega)) rfl m_add k_add b_add .nil pass0 (pa_cons (pv 6) (pa_cons (pv 7) pa_nil))) (pa_cons (pe_call G_multiply (hr.mono (by omega)) rfl m_multiply k_multiply b_multiply .nil pass0 (pa_cons (pv 6) (pa_cons (pv 7) pa_nil))) pa_nil)))) (blkOk_by (N := ["_law_script", "_law_box_here", "_law_turn", "_law_one", "_law_other", "_law_third", "_law_passed", "_law_second", "_law_k", "_law_found"]) (sc := defScope s_law) (by decide +kernel)) (fun _ _ _ _ _ => (pg_name (i := 9) sc_law.nd rfl (Or.inl rfl))) (fun _ _ _ _ _ => pts_nil) (fun _ _ _ _ _ => (pe_call G_l_is_ratio (hr.mono (by omega)) rfl m_l_is_ratio k_l_is_ratio b_l_is_ratio .nil pass0 (pa_cons (pv 9) pa_nil)))) pa_nil)))) (pss_one (ps_ret pe_bl)) pss_nil)
      (pss_cons (ps_if (PW.pt (pw_or (pt_cmpR (op_neD hr.units) (pe_call G_add (hr.mono (by omega)) rfl m_add k_add b_add .nil pass0 (pa_cons (pe_call G_add (hr.mono (by omega)) rfl m_add k_add b_add .nil pass0 (pa_cons (pv 3) (pa_cons (pv 4) pa_nil))) (pa_cons (pv 5) pa_nil))) (pe_call G_add (hr.mono (by omega)) rfl m_add k_add b_add .nil pass0 (pa_cons (pv 3) (pa_cons (pe_call G_add (hr.mono (by omega)) rfl m_add k_add b_add .nil pass0 (pa_cons (pv 4) (pa_cons (pv 5) pa_nil))) pa_nil))) (nomark _)) (pw_or1 (pt_cmpR (op_neD hr.units) (pe_call G_subtract (hr.mono (by omega)) rfl m_subtract k_subtract b_subtract .nil pass0 (pa_cons (pe_call G_add (hr.mono (by omega)) rfl m_add k_add b_add .nil pass0 (pa_cons (pv 3) (pa_cons (pv 4) pa_nil))) (pa_cons (pv 4) pa_nil))) (pv 3) (nomark _))))) (pss_one (ps_ret pe_bl)) pss_nil)
      (pss_cons (ps_if (pt_cmpR (op_neD hr.units) (pe_call G_multiply (hr.mono (by omega)) rfl m_multiply k_multiply b_multiply .nil pass0 (pa_cons (pe_call G_add (hr.mono (by omega)) rfl m_add k_add b_add .nil pass0 (pa_cons (pv 3) (pa_cons (pv 4) pa_nil))) (pa_cons (pv 5) pa_nil))) (pe_call G_add (hr.mono (by omega)) rfl m_add k_add b_add .nil pass0 (pa_cons (pe_call G_multiply (hr.mono (by omega)) rfl m_multiply k_multiply b_multiply .nil pass0 (pa_cons (pv 3) (pa_cons (pv 5) pa_nil))) (pa_cons (pe_call G_multiply (hr.mono (by omega)) rfl m_multiply k_multiply b_multiply .nil pass0 (pa_cons (pv 4) (pa_cons (pv 5) pa_nil))) pa_nil))) (nomark _)) (pss_one (ps_ret pe_bl)) pss_nil)
      (C8.pss_cut (ps_if (PW.pt (pw_and (pt_cmpR op_ne (pe_ix ix_tup (pv 4) pe_int (fun _ _ => rfl)) pe_int (nomark _)) (pw_and1 (pt_cmpR (op_neD hr.units) (pe_call G_divide (hr.mono (by omega)) rfl m_divide k_divide b_divide .nil passL (pa_cons (pe_call G_multiply (hr.mono (by omega)) rfl m_multiply k_multiply b_multiply .nil pass0 (pa_cons (pv 3) (pa_cons (pv 4) pa_nil))) (pa_cons (pv 4) pa_nil))) (pv 3) (nomark _))))) (pss_one (ps_ret pe_bl)) pss_nil)
      (pss_cons (ps_if (PW.pt (pw_or (pt_cmpR op_ne (pe_call G_compare (hr.mono (by omega)) rfl m_compare k_compare b_compare .nil pass0 (pa_cons (pv 3) (pa_cons (pv 4) pa_nil))) (pe_op op_sub pe_int (pe_call G_compare (hr.mono (by omega)) rfl m_compare k_compare b_compare .nil pass0 (pa_cons (pv 4) (pa_cons (pv 3) pa_nil)))) (nomark _)) (pw_or1 (pt_cmpR op_ne (pe_call G_compare (hr.mono (by omega)) rfl m_compare k_compare b_compare .nil pass0 (pa_cons (pv 6) (pa_cons (pv 3) pa_nil))) pe_int (nomark _))))) (pss_one (ps_ret pe_bl)) pss_nil)
      (pss_one (ps_if (pt_cmpR op_ne (pe_call G_compare (hr.mono (by omega)) rfl m_compare k_compare b_compare .nil pass0 (pa_cons (pv 3) (pa_cons (pe_call G_add (hr.mono (by omega)) rfl m_add k_add b_add .nil pass0 (pa_cons (pv 3) (pa_cons (pe_tup (pa_cons pe_int (pa_cons (pe_op op_powB pe_int pe_int) pa_nil))) pa_nil))) pa_nil))) (pe_un un_neg pe_int) (nomark _)) (pss_one (ps_ret pe_bl)) pss_nil)))))))))))
      (pss_one (ps_ret pe_bl)))), ?_⟩
    refine ⟨_, rfl, a, ns, rfl, hS, hl, fun b g c H0 B0 _ _ _ _ => ?_⟩
    refine ⟨10, rfl, by decide, by decide, ?_⟩
    refine for_range (lo := 0) (n := 10) (fun i σ H' => ∃ o2 o3 o4 o5 o6 o7 o8 o9, σ = [some (.ref a), some (.ref b), o2, o3, o4, o5, o6, o7, o8, o9] ∧ Box H' b g c (i * 100)) ⟨_, _, _, _, _, _, _, _, rfl, B0⟩ ?_ ?_
    · rintro i σ H1 hi ⟨o2, o3, o4, o5, o6, o7, o8, o9, rfl, B1⟩
      -- three numbers
      refine ⟨3, rfl, by decide, by decide, fun D hD => ?_⟩
      have db : D ≠ b := by
        obtain ⟨gs, cs, cur, m, B, _⟩ := B1
        exact (ne_of_none B.hb hD).symm
      have dg : D ≠ g := by
        obtain ⟨gs, cs, cur, m, B, _⟩ := B1
        exact (ne_of_none B.hg hD).symm
      refine lc_range (lo := 0) (n := 3) (fun j H' => ∃ (ps : List Addr) (zs : List (Int × Int)), ps.length = j ∧ zs.length = j ∧ H' D = some (.lst (ps.map V.ref)) ∧ Box H' b g c (i * 100 + 10 * j) ∧
        ∀ (k : Nat) (p : Addr) (z : Int × Int), ps[k]? = some p → zs[k]? = some z → Red z ∧ Sz 700 z ∧ Tp H' p z) ⟨[], [], rfl, rfl, upd_same, B1.same (same_new hD _), fun k p z h => by simp at h⟩ ?_ ?_
      · rintro j H2 hj ⟨ps, zs, lp, lz, hDl, B2, hall⟩
        refine ⟨rfl, _, rfl, b, g, c, _, rfl, B2, by omega, fun p z H3 rz sz hp B3 b3 => ?_⟩
        have hD3 := b3 D _ hDl db dg
        have np : D ≠ p := ne_of hD3 hp (by intro y; cases y)
        refine ⟨_, hD3, (by rw [List.length_map]; exact small1000 (by omega)), ps ++ [p], zs ++ [z], by rw [List.length_append, lp]; rfl, by rw [List.length_append, lz]; rfl, by rw [upd_same, List.map_append]; rfl, ?_, ?_⟩
        · obtain ⟨gs, cs, cur, m, B, hm⟩ := B3
          have dc : D ≠ c := by
            obtain ⟨gs1, cs1, cur1, m1, B', _⟩ := B1
            exact (ne_of_none B'.hc hD).symm
          exact ⟨gs, cs, cur, m, ⟨by rw [upd_ne db.symm]; exact B.hb, by rw [upd_ne dg.symm]; exact B.hg, by rw [upd_ne dc.symm]; exact B.hc, B.bg, B.bc, B.gc, B.m0, B.lg, B.lc⟩, by omega⟩
        · intro k p' z' h1 h2
          by_cases hk : k < j
          · rw [List.getElem?_append_left (by omega)] at h1 h2
            obtain ⟨x1, x2, x3⟩ := hall k p' z' h1 h2
            have y := b3.tup B2 x3
            exact ⟨x1, x2, by show upd H3 D _ p' = _; rw [upd_ne (ne_of hD3 y (by intro y; cases y)).symm]; exact y⟩
          · have ek : k = j := by
              have := get_lt h1
              rw [List.length_append, lp] at this
              have h3 : ([p] : List Addr).length = 1 := rfl
              omega
            subst ek
            rw [List.getElem?_append_right (by omega), lp, Nat.sub_self] at h1
            rw [List.getElem?_append_right (by omega), lz, Nat.sub_self] at h2
            obtain rfl := Option.some.inj h1
            obtain rfl := Option.some.inj h2
            exact ⟨rz, sz, by show upd H3 D _ p = _; rw [upd_ne np.symm]; exact hp⟩
      rintro H2 ⟨ps, zs, lp, lz, hDl, B2, hall⟩
      obtain ⟨p1, p2, p3, rfl⟩ := list3 lp
      obtain ⟨x, y, z, rfl⟩ := list3 lz
      obtain ⟨rx, sx, hx⟩ := hall 0 p1 x rfl rfl
      obtain ⟨ry, sy, hy⟩ := hall 1 p2 y rfl rfl
      obtain ⟨rz, sz, hz⟩ := hall 2 p3 z rfl rfl
      refine ⟨D, _, rfl, SqL.of hDl, rfl, .ref p1, _, rfl, .ref p2, _, rfl, .ref p3, _, rfl, rfl, ?_⟩
      -- passed, second
      refine ⟨_, rfl, _, rfl, b, g, c, p1, _, x, rfl, B2, by omega, hx, rx, fun v H3 hv B3 b3 => ⟨_, rfl, _, rfl, b, g, c, p2, _, y, rfl, B3, by omega, b3.tup B2 hy, ry, fun u H4 hu B4 b4 => ⟨_, _, rfl, ?_⟩⟩⟩
      have hx4 : Tp H4 p1 x := b4.tup B3 (b3.tup B2 hx)
      have hy4 : Tp H4 p2 y := b4.tup B3 (b3.tup B2 hy)
      have hz4 : Tp H4 p3 z := b4.tup B3 (b3.tup B2 hz)
      have nv4 : Nv K H4 v x := (hv.same (mk_but b4)).same (mk_sub b g H4)
      have nu4 : Nv K H4 u y := hu.same (mk_sub b g H4)
      clear hv hu hx hy hz hall hDl b3 b4 B3 B2
      have n1 : Nv K H4 (.ref p1) x := Nv.rat hx4 rx
      have n2 : Nv K H4 (.ref p2) y := Nv.rat hy4 ry
      have n3 : Nv K H4 (.ref p3) z := Nv.rat hz4 rz
      -- right, both ways
      refine ⟨_, rfl, _, rfl, _, rfl, _, rfl, p1, p2, v, u, x, y, rfl, hx4, hy4, nv4, nu4, sx, sy, fun H5 t5 => ⟨_, rfl, ?_⟩⟩
      refine ⟨_, rfl, _, rfl, _, rfl, _, rfl, p2, p1, u, v, y, x, rfl, t5 _ _ hy4, t5 _ _ hx4, nu4.same t5, nv4.same t5, sy, sx, fun H6 t6 => ⟨_, rfl, ?_⟩⟩
      have s6 := t5.trans t6
      -- all are ratios
      refine ⟨_, rfl, _, rfl, v, u, x, y, 700, 700, rfl, nv4.same s6, nu4.same s6, sx, sy, by decide, fun r1 H7 t7 h7 => ?_⟩
      have s7 := s6.trans t7
      refine ⟨_, rfl, _, rfl, v, u, x, y, 700, 700, rfl, nv4.same s7, nu4.same s7, sx, sy, by decide, fun r2 H8 t8 h8 => ?_⟩
      have s8 := s7.trans t8
      refine ⟨(by show 2 ≤ sizeLine; decide), fun pt npt => ⟨pt, rfl, ⟨_, SqT.of upd_same⟩, fun D2 hD2 => ?_⟩⟩
      have t9 := same_new npt (.tup [.ref r1, .ref r2])
      have s9' := s8.trans t9
      refine lc_tup (K := K) (a := pt) (xs := [.ref r1, .ref r2]) (fun j H' => Same (upd H8 pt (.tup [.ref r1, .ref r2])) H' ∧ H' D2 = some (.lst ((List.replicate j true).map V.bl))) ⟨same_new hD2 _, upd_same⟩ (fun j H' _ h => SqT.of (h.1 _ _ upd_same)) ?_ ?_
      · rintro j e H9 he ⟨t10, hacc⟩
        have hj := get_lt he
        have hj2 : j < 2 := hj
        have hcase : ∃ w' : Int × Int, Red w' ∧ Dp K H9 e (rat w'.1 w'.2) := by
          match j, hj2, he with
          | 0, _, he =>
            obtain rfl := Option.some.inj he
            exact ⟨_, add_red rx ry, dp_rat (t10 _ _ (t9 _ _ (t8 _ _ h7)))⟩
          | 1, _, he =>
            obtain rfl := Option.some.inj he
            exact ⟨_, mul_red rx ry, dp_rat (t10 _ _ (t9 _ _ h8))⟩
        obtain ⟨w', rw', hw'⟩ := hcase
        refine ⟨rfl, _, rfl, e, _, rfl, hw', fun H10 t11 => ?_⟩
        rw [isRat_rat rw']
        refine ⟨_, t11 _ _ hacc, (by rw [List.length_map, List.length_replicate]; exact small1000 (by omega)), same_upd (t10.trans t11) hD2, ?_⟩
        rw [upd_same, List.replicate_succ', List.map_append]
        rfl
      rintro H9 ⟨t10, hacc⟩
      refine ⟨D2, _, rfl, SqL.of hacc, _, rfl, ?_⟩
      refine iteEqv (all_true _) ?_
      have s10 := s9'.trans t10
      -- add is associative
      refine ⟨_, rfl, _, rfl, _, _, x, y, 700, 700, rfl, n1.same s10, n2.same s10, sx, sy, by decide, fun ra Ha ta ha => ?_⟩
      have sa := s10.trans ta
      refine ⟨_, rfl, _, _, addz x y, z, 1401, 700, rfl, Nv.rat ha (add_red rx ry), n3.same sa, add_sz sx sy, sz, by decide, fun rb Hb tb hb => ?_⟩
      have sb := sa.trans tb
      refine ⟨_, rfl, _, rfl, _, rfl, _, _, y, z, 700, 700, rfl, n2.same sb, n3.same sb, sy, sz, by decide, fun rc Hc tc hc => ?_⟩
      have sc := sb.trans tc
      refine ⟨_, _, x, addz y z, 700, 1401, rfl, n1.same sc, Nv.rat hc (add_red ry rz), sx, add_sz sy sz, by decide, fun rd Hd td hd => ?_⟩
      have sd := sc.trans td
      rw [add_assoc' rx ry rz] at hb
      refine ⟨_, _, dp_rat (td _ _ (tc _ _ hb)), dp_rat hd, shp_rat _ _, shp_rat _ _, _, rfl, ?_⟩
      refine iteEqv (eqv_rat _ _) ?_
      -- subtract undoes add
      refine ⟨_, rfl, _, rfl, _, _, x, y, 700, 700, rfl, n1.same sd, n2.same sd, sx, sy, by decide, fun re He te he => ?_⟩
      have se := sd.trans te
      refine ⟨_, rfl, _, _, addz x y, y, 1401, 700, rfl, Nv.rat he (add_red rx ry), n2.same se, add_sz sx sy, sy, by decide, fun rf Hf tf hf => ?_⟩
      have sf := se.trans tf
      rw [add_sub' rx ry] at hf
      refine ⟨_, rfl, _, _, dp_rat hf, dp_rat (sf _ _ hx4), shp_rat _ _, shp_rat _ _, _, rfl, ?_⟩
      refine iteEqv (eqv_rat _ _) ?_
      -- multiply over add
      refine ⟨_, rfl, _, rfl, _, _, x, y, 700, 700, rfl, n1.same sf, n2.same sf, sx, sy, by decide, fun rg Hg tg hg => ?_⟩
      have sg := sf.trans tg
      refine ⟨_, rfl, _, _, addz x y, z, 1401, 700, rfl, Nv.rat hg (add_red rx ry), n3.same sg, add_sz sx sy, sz, by decide, fun rh Hh th hh => ?_⟩
      have sh := sg.trans th
      refine ⟨_, rfl, _, rfl, _, _, x, z, 700, 700, rfl, n1.same sh, n3.same sh, sx, sz, by decide, fun ri Hi ti hi' => ?_⟩
      have si := sh.trans ti
      refine ⟨_, rfl, _, rfl, _, _, y, z, 700, 700, rfl, n2.same si, n3.same si, sy, sz, by decide, fun rj Hj tj hj => ?_⟩
      have sj := si.trans tj
      refine ⟨_, _, mulz x z, mulz y z, 1400, 1400, rfl, Nv.rat (tj _ _ hi') (mul_red rx rz), Nv.rat hj (mul_red ry rz), mul_sz sx sz, mul_sz sy sz, by decide, fun rk Hk tk' hk => ?_⟩
      have sk := sj.trans tk'
      rw [mul_add' rx ry rz] at hh
      refine ⟨_, _, dp_rat (tk' _ _ (tj _ _ (ti _ _ hh))), dp_rat hk, shp_rat _ _, shp_rat _ _, _, rfl, ?_⟩
      refine iteEqv (eqv_rat _ _) ?_
      -- divide undoes multiply, then the comparisons
      refine ⟨fun σ Hl => Same H4 Hl ∧ σ = [some (.ref a), some (.ref b), some (.int (0 + (i : Int))), some (.ref p1), some (.ref p2), some (.ref p3), some v, some u, o8, o9], ?_, ?_⟩
      · refine ⟨_, rfl, p2, _, _, .int y.1, rfl, rfl, SqT.of (sk _ _ hy4), rfl, rfl, _, rfl, ?_⟩
        refine ite2 (fun h0 => ?_) (fun h0 => ?_)
        · have e : y.1 ≠ 0 := fun z => by
            rw [z] at h0
            exact absurd h0 (by decide)
          refine ⟨_, rfl, _, rfl, _, _, x, y, 700, 700, rfl, n1.same sk, n2.same sk, sx, sy, by decide, fun rl Hl tl hl' => ?_⟩
          have sl := sk.trans tl
          refine ⟨_, rfl, _, _, mulz x y, y, 1400, 700, rfl, Nv.rat hl' (mul_red rx ry), n2.same sl, mul_sz sx sy, sy, by decide, fun _ rm Hm tm hm => ?_, fun z => absurd z e⟩
          have sm := sl.trans tm
          rw [mul_div' rx ry e] at hm
          refine ⟨_, rfl, _, _, dp_rat hm, dp_rat (sm _ _ hx4), shp_rat _ _, shp_rat _ _, _, rfl, ?_⟩
          refine iteEqv (eqv_rat _ _) ?_
          exact ⟨sm, rfl⟩
        · exact ⟨sk, rfl⟩
      rintro σ Hl ⟨sl, rfl⟩
      refine ⟨_, rfl, _, rfl, _, _, x, y, 700, 700, rfl, n1.same sl, n2.same sl, sx, sy, by decide, fun Hm tm => ?_⟩
      have sm := sl.trans tm
      refine ⟨_, rfl, _, rfl, _, _, y, x, 700, 700, rfl, n2.same sm, n1.same sm, sy, sx, by decide, fun Hn tn => ?_⟩
      have sn := sm.trans tn
      refine ⟨_, _, rfl, rfl, rfl, _, rfl, ?_⟩
      refine iteNS (congrArg V.int (cmp_neg _ _)) ?_
      refine ⟨_, rfl, _, rfl, v, _, x, x, 700, 700, rfl, nv4.same sn, n1.same sn, sx, sx, by decide, fun Ho to => ?_⟩
      have so := sn.trans to
      refine ⟨rfl, _, rfl, ?_⟩
      refine iteNS (congrArg V.int (cmp_same _)) ?_
      refine ⟨_, rfl, _, rfl, _, _, rfl, rfl, ⟨by decide, by decide +kernel⟩, (by show 2 ≤ sizeLine; decide), fun pp npp => ?_⟩
      have tp := same_new npp (.tup [.int 1, .int ((10 : Int) ^ (20 : Int).toNat)])
      have sp := so.trans tp
      have nst : Nv K (upd Ho pp (.tup [.int 1, .int ((10 : Int) ^ (20 : Int).toNat)])) (.ref pp) (1, (10 : Int) ^ (20 : Int).toNat) := Nv.rat upd_same step_red
      refine ⟨_, _, x, (1, (10 : Int) ^ (20 : Int).toNat), 700, 70, rfl, n1.same sp, nst, sx, ⟨by decide, by decide⟩, by decide, fun rq Hq tq hq => ?_⟩
      have sq := sp.trans tq
      refine ⟨_, _, x, addz x (1, (10 : Int) ^ (20 : Int).toNat), 700, 771, rfl, n1.same sq, Nv.rat hq (add_red rx step_red), sx, add_sz (b := (1, (10 : Int) ^ (20 : Int).toNat)) (k := 70) sx ⟨by decide, by decide⟩, by decide, fun Hr tr => ?_⟩
      have sr := sq.trans tr
      refine ⟨_, rfl, rfl, _, rfl, ?_⟩
      refine iteNS (congrArg V.int (cmp_up rx step_red)) ?_
      exact ⟨_, _, _, _, _, _, _, _, rfl, (B4.same sr).mono (by omega)⟩
    · rintro σ H1 ⟨o2, o3, o4, o5, o6, o7, o8, o9, rfl, B1⟩
      exact q H1
end

theorem walk {l : PySem.W.OpenLaw} {q : Program} {loose : List Str} {XP : (Str → Option Value) → Heap → Prop} {YP : World → Heap → Prop} {d : DefRec} {K : Params → PySem.W.Frag} (hn : l.most = some 63) (hdf : d.params.defaults = [])
    (hY : ∀ (w : World) (h : Heap), YP w h → (K w.params).In h)
    (F : ∀ (w : World) (mg : Str → Option Value) (fa : Addr) (h : Heap), (K w.params).In h → h.Ns mainGlobals mg → mg d.name = some (.ref fa) →
      ∃ fd : FuncData, (∀ (s : Shared) (u : Value), BindsTo s fd ⟨[u], []⟩ [("_law_script", u)]) ∧ ∀ base : Heap, (K w.params).In base → base.Ns mainGlobals mg → FnOk l.prog w (K w.params) mg base CX0 10 fa fd ["_law_script"] (spLaw (K w.params))) :
    PySem.W.WalkO q loose XP YP l.row.toRowW d [] (fun f vs => PySem.call f vs) :=
  L2.walk_of (n := 63) (k := 10) (x := "_law_script") (CX := fun _ => CX0) (sp := fun w => spLaw (K w.params)) hn (by decide) hdf ⟨rfl, by decide, by decide⟩ hY F (fun _ _ a ns hl _ hS => ⟨a, ns, rfl, hS, hl, fun _ => rfl⟩) fun _ _ _ _ _ z => z

theorem all_mk {l : PySem.W.OpenLaw} {w : World} {K : PySem.W.Frag} {h : Heap} {mg : Str → Option Value} {fa : Addr} (X : K.In h) (G : h.Ns mainGlobals mg) (hfa : mg "law" = some (.ref fa))
    {f_is_whole f_is_ratio f_as_ratio f_add f_add_ratios f_subtract f_multiply f_multiply_ratios f_divide f_compare f_l_box f_l_mixed f_l_take f_l_shared f_l_ratio f_l_is_ratio f_l_number f_l_given f_l_longer f_l_divided f_l_right f_law f_ratio T_ratio C_SheetError C_ZeroBottom C_InvalidNumber f_InvalidNumber_init : Addr}
    {od_is_whole : Option Addr}
    {an_is_whole : Option Addr}
    {sl_is_whole : Array (Option Value)}
    {oc_is_whole : Value}
    {kV_is_whole : Value}
    {dc_is_whole : Value}
    {pm_is_whole : Value}
    {cd_is_whole : Value}
    {ct_is_whole : Value}
    {od_is_ratio : Option Addr}
    {an_is_ratio : Option Addr}
    {sl_is_ratio : Array (Option Value)}
    {oc_is_ratio : Value}
    {kV_is_ratio : Value}
    {dc_is_ratio : Value}
    {pm_is_ratio : Value}
    {cd_is_ratio : Value}
    {ct_is_ratio : Value}
    {od_as_ratio : Option Addr}
    {an_as_ratio : Option Addr}
    {sl_as_ratio : Array (Option Value)}
    {oc_as_ratio : Value}
    {kV_as_ratio : Value}
    {dc_as_ratio : Value}
    {pm_as_ratio : Value}
    {cd_as_ratio : Value}
    {ct_as_ratio : Value}
    {od_add : Option Addr}
    {an_add : Option Addr}
    {sl_add : Array (Option Value)}
    {oc_add : Value}
    {kV_add : Value}
    {dc_add : Value}
    {pm_add : Value}
    {cd_add : Value}
    {ct_add : Value}
    {od_add_ratios : Option Addr}
    {an_add_ratios : Option Addr}
    {sl_add_ratios : Array (Option Value)}
    {oc_add_ratios : Value}
    {kV_add_ratios : Value}
    {dc_add_ratios : Value}
    {pm_add_ratios : Value}
    {cd_add_ratios : Value}
    {ct_add_ratios : Value}
    {od_subtract : Option Addr}
    {an_subtract : Option Addr}
    {sl_subtract : Array (Option Value)}
    {oc_subtract : Value}
    {kV_subtract : Value}
    {dc_subtract : Value}
    {pm_subtract : Value}
    {cd_subtract : Value}
    {ct_subtract : Value}
    {od_multiply : Option Addr}
    {an_multiply : Option Addr}
    {sl_multiply : Array (Option Value)}
    {oc_multiply : Value}
    {kV_multiply : Value}
    {dc_multiply : Value}
    {pm_multiply : Value}
    {cd_multiply : Value}
    {ct_multiply : Value}
    {od_multiply_ratios : Option Addr}
    {an_multiply_ratios : Option Addr}
    {sl_multiply_ratios : Array (Option Value)}
    {oc_multiply_ratios : Value}
    {kV_multiply_ratios : Value}
    {dc_multiply_ratios : Value}
    {pm_multiply_ratios : Value}
    {cd_multiply_ratios : Value}
    {ct_multiply_ratios : Value}
    {od_divide : Option Addr}
    {an_divide : Option Addr}
    {sl_divide : Array (Option Value)}
    {oc_divide : Value}
    {kV_divide : Value}
    {dc_divide : Value}
    {pm_divide : Value}
    {cd_divide : Value}
    {ct_divide : Value}
    {od_compare : Option Addr}
    {an_compare : Option Addr}
    {sl_compare : Array (Option Value)}
    {oc_compare : Value}
    {kV_compare : Value}
    {dc_compare : Value}
    {pm_compare : Value}
    {cd_compare : Value}
    {ct_compare : Value}
    {od_l_box : Option Addr}
    {an_l_box : Option Addr}
    {sl_l_box : Array (Option Value)}
    {oc_l_box : Value}
    {kV_l_box : Value}
    {dc_l_box : Value}
    {pm_l_box : Value}
    {cd_l_box : Value}
    {ct_l_box : Value}
    {od_l_mixed : Option Addr}
    {an_l_mixed : Option Addr}
    {sl_l_mixed : Array (Option Value)}
    {oc_l_mixed : Value}
    {kV_l_mixed : Value}
    {dc_l_mixed : Value}
    {pm_l_mixed : Value}
    {cd_l_mixed : Value}
    {ct_l_mixed : Value}
    {od_l_take : Option Addr}
    {an_l_take : Option Addr}
    {sl_l_take : Array (Option Value)}
    {oc_l_take : Value}
    {kV_l_take : Value}
    {dc_l_take : Value}
    {pm_l_take : Value}
    {cd_l_take : Value}
    {ct_l_take : Value}
    {od_l_shared : Option Addr}
    {an_l_shared : Option Addr}
    {sl_l_shared : Array (Option Value)}
    {oc_l_shared : Value}
    {kV_l_shared : Value}
    {dc_l_shared : Value}
    {pm_l_shared : Value}
    {cd_l_shared : Value}
    {ct_l_shared : Value}
    {od_l_ratio : Option Addr}
    {an_l_ratio : Option Addr}
    {sl_l_ratio : Array (Option Value)}
    {oc_l_ratio : Value}
    {kV_l_ratio : Value}
    {dc_l_ratio : Value}
    {pm_l_ratio : Value}
    {cd_l_ratio : Value}
    {ct_l_ratio : Value}
    {od_l_is_ratio : Option Addr}
    {an_l_is_ratio : Option Addr}
    {sl_l_is_ratio : Array (Option Value)}
    {oc_l_is_ratio : Value}
    {kV_l_is_ratio : Value}
    {dc_l_is_ratio : Value}
    {pm_l_is_ratio : Value}
    {cd_l_is_ratio : Value}
    {ct_l_is_ratio : Value}
    {od_l_number : Option Addr}
    {an_l_number : Option Addr}
    {sl_l_number : Array (Option Value)}
    {oc_l_number : Value}
    {kV_l_number : Value}
    {dc_l_number : Value}
    {pm_l_number : Value}
    {cd_l_number : Value}
    {ct_l_number : Value}
    {od_l_given : Option Addr}
    {an_l_given : Option Addr}
    {sl_l_given : Array (Option Value)}
    {oc_l_given : Value}
    {kV_l_given : Value}
    {dc_l_given : Value}
    {pm_l_given : Value}
    {cd_l_given : Value}
    {ct_l_given : Value}
    {od_l_longer : Option Addr}
    {an_l_longer : Option Addr}
    {sl_l_longer : Array (Option Value)}
    {oc_l_longer : Value}
    {kV_l_longer : Value}
    {dc_l_longer : Value}
    {pm_l_longer : Value}
    {cd_l_longer : Value}
    {ct_l_longer : Value}
    {od_l_divided : Option Addr}
    {an_l_divided : Option Addr}
    {sl_l_divided : Array (Option Value)}
    {oc_l_divided : Value}
    {kV_l_divided : Value}
    {dc_l_divided : Value}
    {pm_l_divided : Value}
    {cd_l_divided : Value}
    {ct_l_divided : Value}
    {od_l_right : Option Addr}
    {an_l_right : Option Addr}
    {sl_l_right : Array (Option Value)}
    {oc_l_right : Value}
    {kV_l_right : Value}
    {dc_l_right : Value}
    {pm_l_right : Value}
    {cd_l_right : Value}
    {ct_l_right : Value}
    {od_law : Option Addr}
    {an_law : Option Addr}
    {sl_law : Array (Option Value)}
    {oc_law : Value}
    {kV_law : Value}
    {dc_law : Value}
    {pm_law : Value}
    {cd_law : Value}
    {ct_law : Value}
    {od_ratio : Option Addr}
    {an_ratio : Option Addr}
    {sl_ratio : Array (Option Value)}
    {oc_ratio : Value}
    {kV_ratio : Value}
    {dc_ratio : Value}
    {pm_ratio : Value}
    {cd_ratio : Value}
    {ct_ratio : Value}
    {to_ratio : Value}
    {td_ratio : Option Addr}
    {tn_ratio : Nat}
    {ts_ratio : Array (Option Value)}
    {tt_ratio : Tok}
    {nm_InvalidNumber q_InvalidNumber : Str}
    {N_InvalidNumber : Addr}
    {bs_InvalidNumber : List Value}
    {sn_InvalidNumber : List Str}
    {sub_InvalidNumber : List Value}
    {ab_InvalidNumber : Bool}
    {col_InvalidNumber : Option Bool}
    {dd_InvalidNumber : Option Addr}
    {m0_InvalidNumber m1_InvalidNumber m2_InvalidNumber m3_InvalidNumber m5_InvalidNumber : Option Value}
    {od_InvalidNumber_init : Option Addr}
    {an_InvalidNumber_init : Option Addr}
    {sl_InvalidNumber_init : Array (Option Value)}
    {oc_InvalidNumber_init : Value}
    {kV_InvalidNumber_init : Value}
    {dc_InvalidNumber_init : Value}
    {pm_InvalidNumber_init : Value}
    {cd_InvalidNumber_init : Value}
    {ct_InvalidNumber_init : Value}
    (a_is_whole : PySem.W.nsIn K mainGlobals "is_whole" = some (some (.ref f_is_whole)))
    (l_is_whole : K.lookup f_is_whole = some ⟨oc_is_whole, od_is_whole, .func (PySem.W.fnOf "is_whole" "is_whole" (defArgs s_is_whole) (defBody s_is_whole) (defScope s_is_whole) .none kV_is_whole dc_is_whole pm_is_whole an_is_whole cd_is_whole ct_is_whole), sl_is_whole⟩)
    (c_is_whole : PySem.W.codeIn K cd_is_whole "is_whole" = true)
    (k_is_whole : PySem.W.keepIn K (.ref f_is_whole) = true)
    (a_is_ratio : PySem.W.nsIn K mainGlobals "is_ratio" = some (some (.ref f_is_ratio)))
    (l_is_ratio : K.lookup f_is_ratio = some ⟨oc_is_ratio, od_is_ratio, .func (PySem.W.fnOf "is_ratio" "is_ratio" (defArgs s_is_ratio) (defBody s_is_ratio) (defScope s_is_ratio) .none kV_is_ratio dc_is_ratio pm_is_ratio an_is_ratio cd_is_ratio ct_is_ratio), sl_is_ratio⟩)
    (c_is_ratio : PySem.W.codeIn K cd_is_ratio "is_ratio" = true)
    (k_is_ratio : PySem.W.keepIn K (.ref f_is_ratio) = true)
    (a_as_ratio : PySem.W.nsIn K mainGlobals "as_ratio" = some (some (.ref f_as_ratio)))
    (l_as_ratio : K.lookup f_as_ratio = some ⟨oc_as_ratio, od_as_ratio, .func (PySem.W.fnOf "as_ratio" "as_ratio" (defArgs s_as_ratio) (defBody s_as_ratio) (defScope s_as_ratio) .none kV_as_ratio dc_as_ratio pm_as_ratio an_as_ratio cd_as_ratio ct_as_ratio), sl_as_ratio⟩)
    (c_as_ratio : PySem.W.codeIn K cd_as_ratio "as_ratio" = true)
    (k_as_ratio : PySem.W.keepIn K (.ref f_as_ratio) = true)
    (a_add : PySem.W.nsIn K mainGlobals "add" = some (some (.ref f_add)))
    (l_add : K.lookup f_add = some ⟨oc_add, od_add, .func (PySem.W.fnOf "add" "add" (defArgs s_add) (defBody s_add) (defScope s_add) .none kV_add dc_add pm_add an_add cd_add ct_add), sl_add⟩)
    (c_add : PySem.W.codeIn K cd_add "add" = true)
    (k_add : PySem.W.keepIn K (.ref f_add) = true)
    (a_add_ratios : PySem.W.nsIn K mainGlobals "add_ratios" = some (some (.ref f_add_ratios)))
    (l_add_ratios : K.lookup f_add_ratios = some ⟨oc_add_ratios, od_add_ratios, .func (PySem.W.fnOf "add_ratios" "add_ratios" (defArgs s_add_ratios) (defBody s_add_ratios) (defScope s_add_ratios) .none kV_add_ratios dc_add_ratios pm_add_ratios an_add_ratios cd_add_ratios ct_add_ratios), sl_add_ratios⟩)
    (c_add_ratios : PySem.W.codeIn K cd_add_ratios "add_ratios" = true)
    (k_add_ratios : PySem.W.keepIn K (.ref f_add_ratios) = true)
    (a_subtract : PySem.W.nsIn K mainGlobals "subtract" = some (some (.ref f_subtract)))
    (l_subtract : K.lookup f_subtract = some ⟨oc_subtract, od_subtract, .func (PySem.W.fnOf "subtract" "subtract" (defArgs s_subtract) (defBody s_subtract) (defScope s_subtract) .none kV_subtract dc_subtract pm_subtract an_subtract cd_subtract ct_subtract), sl_subtract⟩)
    (c_subtract : PySem.W.codeIn K cd_subtract "subtract" = true)
    (k_subtract : PySem.W.keepIn K (.ref f_subtract) = true)
    (a_multiply : PySem.W.nsIn K mainGlobals "multiply" = some (some (.ref f_multiply)))
    (l_multiply : K.lookup f_multiply = some ⟨oc_multiply, od_multiply, .func (PySem.W.fnOf "multiply" "multiply" (defArgs s_multiply) (defBody s_multiply) (defScope s_multiply) .none kV_multiply dc_multiply pm_multiply an_multiply cd_multiply ct_multiply), sl_multiply⟩)
    (c_multiply : PySem.W.codeIn K cd_multiply "multiply" = true)
    (k_multiply : PySem.W.keepIn K (.ref f_multiply) = true)
    (a_multiply_ratios : PySem.W.nsIn K mainGlobals "multiply_ratios" = some (some (.ref f_multiply_ratios)))
    (l_multiply_ratios : K.lookup f_multiply_ratios = some ⟨oc_multiply_ratios, od_multiply_ratios, .func (PySem.W.fnOf "multiply_ratios" "multiply_ratios" (defArgs s_multiply_ratios) (defBody s_multiply_ratios) (defScope s_multiply_ratios) .none kV_multiply_ratios dc_multiply_ratios pm_multiply_ratios an_multiply_ratios cd_multiply_ratios ct_multiply_ratios), sl_multiply_ratios⟩)
    (c_multiply_ratios : PySem.W.codeIn K cd_multiply_ratios "multiply_ratios" = true)
    (k_multiply_ratios : PySem.W.keepIn K (.ref f_multiply_ratios) = true)
    (a_divide : PySem.W.nsIn K mainGlobals "divide" = some (some (.ref f_divide)))
    (l_divide : K.lookup f_divide = some ⟨oc_divide, od_divide, .func (PySem.W.fnOf "divide" "divide" (defArgs s_divide) (defBody s_divide) (defScope s_divide) .none kV_divide dc_divide pm_divide an_divide cd_divide ct_divide), sl_divide⟩)
    (c_divide : PySem.W.codeIn K cd_divide "divide" = true)
    (k_divide : PySem.W.keepIn K (.ref f_divide) = true)
    (a_compare : PySem.W.nsIn K mainGlobals "compare" = some (some (.ref f_compare)))
    (l_compare : K.lookup f_compare = some ⟨oc_compare, od_compare, .func (PySem.W.fnOf "compare" "compare" (defArgs s_compare) (defBody s_compare) (defScope s_compare) .none kV_compare dc_compare pm_compare an_compare cd_compare ct_compare), sl_compare⟩)
    (c_compare : PySem.W.codeIn K cd_compare "compare" = true)
    (k_compare : PySem.W.keepIn K (.ref f_compare) = true)
    (a_l_box : PySem.W.nsIn K mainGlobals "_law_box" = some (some (.ref f_l_box)))
    (l_l_box : K.lookup f_l_box = some ⟨oc_l_box, od_l_box, .func (PySem.W.fnOf "_law_box" "_law_box" (defArgs s_l_box) (defBody s_l_box) (defScope s_l_box) .none kV_l_box dc_l_box pm_l_box an_l_box cd_l_box ct_l_box), sl_l_box⟩)
    (c_l_box : PySem.W.codeIn K cd_l_box "_law_box" = true)
    (k_l_box : PySem.W.keepIn K (.ref f_l_box) = true)
    (a_l_mixed : PySem.W.nsIn K mainGlobals "_law_mixed" = some (some (.ref f_l_mixed)))
    (l_l_mixed : K.lookup f_l_mixed = some ⟨oc_l_mixed, od_l_mixed, .func (PySem.W.fnOf "_law_mixed" "_law_mixed" (defArgs s_l_mixed) (defBody s_l_mixed) (defScope s_l_mixed) .none kV_l_mixed dc_l_mixed pm_l_mixed an_l_mixed cd_l_mixed ct_l_mixed), sl_l_mixed⟩)
    (c_l_mixed : PySem.W.codeIn K cd_l_mixed "_law_mixed" = true)
    (k_l_mixed : PySem.W.keepIn K (.ref f_l_mixed) = true)
    (a_l_take : PySem.W.nsIn K mainGlobals "_law_take" = some (some (.ref f_l_take)))
    (l_l_take : K.lookup f_l_take = some ⟨oc_l_take, od_l_take, .func (PySem.W.fnOf "_law_take" "_law_take" (defArgs s_l_take) (defBody s_l_take) (defScope s_l_take) .none kV_l_take dc_l_take pm_l_take an_l_take cd_l_take ct_l_take), sl_l_take⟩)
    (c_l_take : PySem.W.codeIn K cd_l_take "_law_take" = true)
    (k_l_take : PySem.W.keepIn K (.ref f_l_take) = true)
    (a_l_shared : PySem.W.nsIn K mainGlobals "_law_shared" = some (some (.ref f_l_shared)))
    (l_l_shared : K.lookup f_l_shared = some ⟨oc_l_shared, od_l_shared, .func (PySem.W.fnOf "_law_shared" "_law_shared" (defArgs s_l_shared) (defBody s_l_shared) (defScope s_l_shared) .none kV_l_shared dc_l_shared pm_l_shared an_l_shared cd_l_shared ct_l_shared), sl_l_shared⟩)
    (c_l_shared : PySem.W.codeIn K cd_l_shared "_law_shared" = true)
    (k_l_shared : PySem.W.keepIn K (.ref f_l_shared) = true)
    (a_l_ratio : PySem.W.nsIn K mainGlobals "_law_ratio" = some (some (.ref f_l_ratio)))
    (l_l_ratio : K.lookup f_l_ratio = some ⟨oc_l_ratio, od_l_ratio, .func (PySem.W.fnOf "_law_ratio" "_law_ratio" (defArgs s_l_ratio) (defBody s_l_ratio) (defScope s_l_ratio) .none kV_l_ratio dc_l_ratio pm_l_ratio an_l_ratio cd_l_ratio ct_l_ratio), sl_l_ratio⟩)
    (c_l_ratio : PySem.W.codeIn K cd_l_ratio "_law_ratio" = true)
    (k_l_ratio : PySem.W.keepIn K (.ref f_l_ratio) = true)
    (a_l_is_ratio : PySem.W.nsIn K mainGlobals "_law_is_ratio" = some (some (.ref f_l_is_ratio)))
    (l_l_is_ratio : K.lookup f_l_is_ratio = some ⟨oc_l_is_ratio, od_l_is_ratio, .func (PySem.W.fnOf "_law_is_ratio" "_law_is_ratio" (defArgs s_l_is_ratio) (defBody s_l_is_ratio) (defScope s_l_is_ratio) .none kV_l_is_ratio dc_l_is_ratio pm_l_is_ratio an_l_is_ratio cd_l_is_ratio ct_l_is_ratio), sl_l_is_ratio⟩)
    (c_l_is_ratio : PySem.W.codeIn K cd_l_is_ratio "_law_is_ratio" = true)
    (k_l_is_ratio : PySem.W.keepIn K (.ref f_l_is_ratio) = true)
    (a_l_number : PySem.W.nsIn K mainGlobals "_law_number" = some (some (.ref f_l_number)))
    (l_l_number : K.lookup f_l_number = some ⟨oc_l_number, od_l_number, .func (PySem.W.fnOf "_law_number" "_law_number" (defArgs s_l_number) (defBody s_l_number) (defScope s_l_number) .none kV_l_number dc_l_number pm_l_number an_l_number cd_l_number ct_l_number), sl_l_number⟩)
    (c_l_number : PySem.W.codeIn K cd_l_number "_law_number" = true)
    (k_l_number : PySem.W.keepIn K (.ref f_l_number) = true)
    (a_l_given : PySem.W.nsIn K mainGlobals "_law_given" = some (some (.ref f_l_given)))
    (l_l_given : K.lookup f_l_given = some ⟨oc_l_given, od_l_given, .func (PySem.W.fnOf "_law_given" "_law_given" (defArgs s_l_given) (defBody s_l_given) (defScope s_l_given) .none kV_l_given dc_l_given pm_l_given an_l_given cd_l_given ct_l_given), sl_l_given⟩)
    (c_l_given : PySem.W.codeIn K cd_l_given "_law_given" = true)
    (k_l_given : PySem.W.keepIn K (.ref f_l_given) = true)
    (a_l_longer : PySem.W.nsIn K mainGlobals "_law_longer" = some (some (.ref f_l_longer)))
    (l_l_longer : K.lookup f_l_longer = some ⟨oc_l_longer, od_l_longer, .func (PySem.W.fnOf "_law_longer" "_law_longer" (defArgs s_l_longer) (defBody s_l_longer) (defScope s_l_longer) .none kV_l_longer dc_l_longer pm_l_longer an_l_longer cd_l_longer ct_l_longer), sl_l_longer⟩)
    (c_l_longer : PySem.W.codeIn K cd_l_longer "_law_longer" = true)
    (k_l_longer : PySem.W.keepIn K (.ref f_l_longer) = true)
    (a_l_divided : PySem.W.nsIn K mainGlobals "_law_divided" = some (some (.ref f_l_divided)))
    (l_l_divided : K.lookup f_l_divided = some ⟨oc_l_divided, od_l_divided, .func (PySem.W.fnOf "_law_divided" "_law_divided" (defArgs s_l_divided) (defBody s_l_divided) (defScope s_l_divided) .none kV_l_divided dc_l_divided pm_l_divided an_l_divided cd_l_divided ct_l_divided), sl_l_divided⟩)
    (c_l_divided : PySem.W.codeIn K cd_l_divided "_law_divided" = true)
    (k_l_divided : PySem.W.keepIn K (.ref f_l_divided) = true)
    (a_l_right : PySem.W.nsIn K mainGlobals "_law_right" = some (some (.ref f_l_right)))
    (l_l_right : K.lookup f_l_right = some ⟨oc_l_right, od_l_right, .func (PySem.W.fnOf "_law_right" "_law_right" (defArgs s_l_right) (defBody s_l_right) (defScope s_l_right) .none kV_l_right dc_l_right pm_l_right an_l_right cd_l_right ct_l_right), sl_l_right⟩)
    (c_l_right : PySem.W.codeIn K cd_l_right "_law_right" = true)
    (k_l_right : PySem.W.keepIn K (.ref f_l_right) = true)
    (a_law : PySem.W.nsIn K mainGlobals "law" = some (some (.ref f_law)))
    (l_law : K.lookup f_law = some ⟨oc_law, od_law, .func (PySem.W.fnOf "law" "law" (defArgs s_law) (defBody s_law) (defScope s_law) .none kV_law dc_law pm_law an_law cd_law ct_law), sl_law⟩)
    (c_law : PySem.W.codeIn K cd_law "law" = true)
    (k_law : PySem.W.keepIn K (.ref f_law) = true)
    (a_ratio : PySem.W.nsIn K mainGlobals "ratio" = some (some (.ref f_ratio)))
    (l_ratio : K.lookup f_ratio = some ⟨oc_ratio, od_ratio, .func (PySem.W.fnOf "ratio" "ratio" (defArgs s_ratio) (defBody s_ratio) (defScope s_ratio) (.ref T_ratio) kV_ratio dc_ratio pm_ratio an_ratio cd_ratio ct_ratio), sl_ratio⟩)
    (c_ratio : PySem.W.codeIn K cd_ratio "ratio" = true)
    (k_ratio : PySem.W.keepIn K (.ref f_ratio) = true)
    (t_ratio : K.lookup T_ratio = some ⟨to_ratio, td_ratio, .seq #[.int 1 tt_ratio] tn_ratio, ts_ratio⟩)
    (aC_SheetError : PySem.W.nsIn K mainGlobals "SheetError" = some (some (.ref C_SheetError)))
    (aC_ZeroBottom : PySem.W.nsIn K mainGlobals "ZeroBottom" = some (some (.ref C_ZeroBottom)))
    (aC_InvalidNumber : PySem.W.nsIn K mainGlobals "InvalidNumber" = some (some (.ref C_InvalidNumber)))
    (special : PySem.W.specialIn K (.builtin "object.__class__") "__get__" = some (some (.builtin "getset_descriptor.__get__")))
    (takes : PySem.W.takesIn K (.builtin "object.__class__") = some true)
    (kS_ZeroBottom : PySem.W.kitOne K (.ref C_ZeroBottom) (.ref C_SheetError) = some true)
    (ga_ZeroBottom : PySem.W.findIn K (.ref C_ZeroBottom) "__getattribute__" = some (some (.builtin "BaseException.__getattribute__")))
    (gg_ZeroBottom : PySem.W.findIn K (.ref C_ZeroBottom) "__getattr__" = some none)
    (sb_ZeroBottom : PySem.W.subIn K (.ref C_ZeroBottom) (.type "BaseException") = some true)
    (hd_ZeroBottom : PySem.W.hasDictIn K C_ZeroBottom = true)
    (ha_ZeroBottom : PySem.W.findIn K (.ref C_ZeroBottom) "__class__" = some (some (.builtin "object.__class__")))
    (hm_ZeroBottom : PySem.W.mroIn K C_ZeroBottom (.type "object") = some true)
    (ty_ZeroBottom : PySem.W.typeIn K (.ref C_ZeroBottom) = some (.type "type"))
    (kp_ZeroBottom : PySem.W.keepIn K (.ref C_ZeroBottom) = true)
    (ex_ZeroBottom : PySem.W.exmOne K (.ref C_ZeroBottom) (.ref C_ZeroBottom) = some true)
    (xp_ZeroBottom : PySem.W.excIn K C_ZeroBottom [.type "ValueError", .type "Exception", .type "BaseException", .type "object"] "ValueError.__new__" = true)
    (kS_InvalidNumber : PySem.W.kitOne K (.ref C_InvalidNumber) (.ref C_SheetError) = some true)
    (ga_InvalidNumber : PySem.W.findIn K (.ref C_InvalidNumber) "__getattribute__" = some (some (.builtin "BaseException.__getattribute__")))
    (gg_InvalidNumber : PySem.W.findIn K (.ref C_InvalidNumber) "__getattr__" = some none)
    (sb_InvalidNumber : PySem.W.subIn K (.ref C_InvalidNumber) (.type "BaseException") = some true)
    (hd_InvalidNumber : PySem.W.hasDictIn K C_InvalidNumber = true)
    (ha_InvalidNumber : PySem.W.findIn K (.ref C_InvalidNumber) "__class__" = some (some (.builtin "object.__class__")))
    (hm_InvalidNumber : PySem.W.mroIn K C_InvalidNumber (.type "object") = some true)
    (ty_InvalidNumber : PySem.W.typeIn K (.ref C_InvalidNumber) = some (.type "type"))
    (kp_InvalidNumber : PySem.W.keepIn K (.ref C_InvalidNumber) = true)
    (ex_InvalidNumber : PySem.W.exmOne K (.ref C_InvalidNumber) (.ref C_InvalidNumber) = some true)
    (x_InvalidNumber : K.lookup C_InvalidNumber = some (excClassObj nm_InvalidNumber q_InvalidNumber C_InvalidNumber N_InvalidNumber bs_InvalidNumber [.ref C_SheetError, .type "ValueError", .type "Exception", .type "BaseException", .type "object"] true sn_InvalidNumber sub_InvalidNumber ab_InvalidNumber col_InvalidNumber dd_InvalidNumber m0_InvalidNumber m1_InvalidNumber m2_InvalidNumber m3_InvalidNumber m5_InvalidNumber "ValueError.__new__"))
    (sa_InvalidNumber : PySem.W.findIn K (.ref C_InvalidNumber) "__setattr__" = some (some (.builtin "object.__setattr__")))
    (no_InvalidNumber : PySem.W.findIn K (.ref C_InvalidNumber) "value" = some none)
    (i_InvalidNumber : PySem.W.findIn K (.ref C_InvalidNumber) "__init__" = some (some (.ref f_InvalidNumber_init)))
    (ti_InvalidNumber : PySem.W.typeIn K (.ref f_InvalidNumber_init) = some (.type "function"))
    (l_InvalidNumber_init : K.lookup f_InvalidNumber_init = some ⟨oc_InvalidNumber_init, od_InvalidNumber_init, .func (PySem.W.fnOf "__init__" "InvalidNumber.__init__" (defArgs s_InvalidNumber_init) (defBody s_InvalidNumber_init) (defScope s_InvalidNumber_init) .none kV_InvalidNumber_init dc_InvalidNumber_init pm_InvalidNumber_init an_InvalidNumber_init cd_InvalidNumber_init ct_InvalidNumber_init), sl_InvalidNumber_init⟩)
    (c_InvalidNumber_init : PySem.W.codeIn K cd_InvalidNumber_init "InvalidNumber.__init__" = true)
    (k_InvalidNumber_init : PySem.W.keepIn K (.ref f_InvalidNumber_init) = true)
    (n_len : PySem.W.nsIn K mainGlobals "len" = some none)
    (n_max : PySem.W.nsIn K mainGlobals "max" = some none)
    (n_abs : PySem.W.nsIn K mainGlobals "abs" = some none)
    (n_any : PySem.W.nsIn K mainGlobals "any" = some none)
    (n_all : PySem.W.nsIn K mainGlobals "all" = some none)
    (n_isinstance : PySem.W.nsIn K mainGlobals "isinstance" = some none)
    (n_range : PySem.W.nsIn K mainGlobals "range" = some none)
    (n_zip : PySem.W.nsIn K mainGlobals "zip" = some none)
    (n_int : PySem.W.nsIn K mainGlobals "int" = some none)
    (n_bool : PySem.W.nsIn K mainGlobals "bool" = some none)
    (n_tuple : PySem.W.nsIn K mainGlobals "tuple" = some none)
    (n_list : PySem.W.nsIn K mainGlobals "list" = some none)
    (g_gcd : PySem.W.nsIn K mainGlobals "gcd" = some (some (.builtin "math.gcd"))) :
    ∃ fd : FuncData, (∀ (s : Shared) (v : Value), BindsTo s fd ⟨[v], []⟩ [("_law_script", v)]) ∧ ∀ base : Heap, K.In base → base.Ns mainGlobals mg → FnOk l.prog w K mg base CX0 10 fa fd ["_law_script"] (spLaw K) := by
  have e := hfa.symm.trans (PySem.W.mg_of X G a_law)
  cases e
  have T : Bt mg := ⟨PySem.W.mg_none_of X G n_len, PySem.W.mg_none_of X G n_max, PySem.W.mg_none_of X G n_abs, PySem.W.mg_none_of X G n_any, PySem.W.mg_none_of X G n_all, PySem.W.mg_none_of X G n_isinstance, PySem.W.mg_none_of X G n_range, PySem.W.mg_none_of X G n_zip, PySem.W.mg_none_of X G n_int, PySem.W.mg_none_of X G n_bool, PySem.W.mg_none_of X G n_tuple, PySem.W.mg_none_of X G n_list⟩
  have Tg : Gt mg := ⟨PySem.W.mg_of X G g_gcd⟩
  have F_is_whole := fun_mk (st := s_is_whole) l_is_whole c_is_whole k_is_whole
  have D_is_whole : Df K mg "is_whole" s_is_whole ["value"] := ⟨_, _, F_is_whole, PySem.W.mg_of X G a_is_whole, F_is_whole.binds fun _ _ _ _ _ _ us hl => match us, hl with | [_], _ => rfl⟩
  have F_is_ratio := fun_mk (st := s_is_ratio) l_is_ratio c_is_ratio k_is_ratio
  have D_is_ratio : Df K mg "is_ratio" s_is_ratio ["value"] := ⟨_, _, F_is_ratio, PySem.W.mg_of X G a_is_ratio, F_is_ratio.binds fun _ _ _ _ _ _ us hl => match us, hl with | [_], _ => rfl⟩
  have F_as_ratio := fun_mk (st := s_as_ratio) l_as_ratio c_as_ratio k_as_ratio
  have D_as_ratio : Df K mg "as_ratio" s_as_ratio ["value"] := ⟨_, _, F_as_ratio, PySem.W.mg_of X G a_as_ratio, F_as_ratio.binds fun _ _ _ _ _ _ us hl => match us, hl with | [_], _ => rfl⟩
  have F_add := fun_mk (st := s_add) l_add c_add k_add
  have D_add : Df K mg "add" s_add ["one", "other"] := ⟨_, _, F_add, PySem.W.mg_of X G a_add, F_add.binds fun _ _ _ _ _ _ us hl => match us, hl with | [_, _], _ => rfl⟩
  have F_add_ratios := fun_mk (st := s_add_ratios) l_add_ratios c_add_ratios k_add_ratios
  have D_add_ratios : Df K mg "add_ratios" s_add_ratios ["one", "other"] := ⟨_, _, F_add_ratios, PySem.W.mg_of X G a_add_ratios, F_add_ratios.binds fun _ _ _ _ _ _ us hl => match us, hl with | [_, _], _ => rfl⟩
  have F_subtract := fun_mk (st := s_subtract) l_subtract c_subtract k_subtract
  have D_subtract : Df K mg "subtract" s_subtract ["one", "other"] := ⟨_, _, F_subtract, PySem.W.mg_of X G a_subtract, F_subtract.binds fun _ _ _ _ _ _ us hl => match us, hl with | [_, _], _ => rfl⟩
  have F_multiply := fun_mk (st := s_multiply) l_multiply c_multiply k_multiply
  have D_multiply : Df K mg "multiply" s_multiply ["one", "other"] := ⟨_, _, F_multiply, PySem.W.mg_of X G a_multiply, F_multiply.binds fun _ _ _ _ _ _ us hl => match us, hl with | [_, _], _ => rfl⟩
  have F_multiply_ratios := fun_mk (st := s_multiply_ratios) l_multiply_ratios c_multiply_ratios k_multiply_ratios
  have D_multiply_ratios : Df K mg "multiply_ratios" s_multiply_ratios ["one", "other"] := ⟨_, _, F_multiply_ratios, PySem.W.mg_of X G a_multiply_ratios, F_multiply_ratios.binds fun _ _ _ _ _ _ us hl => match us, hl with | [_, _], _ => rfl⟩
  have F_divide := fun_mk (st := s_divide) l_divide c_divide k_divide
  have D_divide : Df K mg "divide" s_divide ["one", "other"] := ⟨_, _, F_divide, PySem.W.mg_of X G a_divide, F_divide.binds fun _ _ _ _ _ _ us hl => match us, hl with | [_, _], _ => rfl⟩
  have F_compare := fun_mk (st := s_compare) l_compare c_compare k_compare
  have D_compare : Df K mg "compare" s_compare ["one", "other"] := ⟨_, _, F_compare, PySem.W.mg_of X G a_compare, F_compare.binds fun _ _ _ _ _ _ us hl => match us, hl with | [_, _], _ => rfl⟩
  have F_l_box := fun_mk (st := s_l_box) l_l_box c_l_box k_l_box
  have D_l_box : Df K mg "_law_box" s_l_box ["_law_script"] := ⟨_, _, F_l_box, PySem.W.mg_of X G a_l_box, F_l_box.binds fun _ _ _ _ _ _ us hl => match us, hl with | [_], _ => rfl⟩
  have F_l_mixed := fun_mk (st := s_l_mixed) l_l_mixed c_l_mixed k_l_mixed
  have D_l_mixed : Df K mg "_law_mixed" s_l_mixed ["_law_cell", "_law_k"] := ⟨_, _, F_l_mixed, PySem.W.mg_of X G a_l_mixed, F_l_mixed.binds fun _ _ _ _ _ _ us hl => match us, hl with | [_, _], _ => rfl⟩
  have F_l_take := fun_mk (st := s_l_take) l_l_take c_l_take k_l_take
  have D_l_take : Df K mg "_law_take" s_l_take ["_law_box_here", "_law_size"] := ⟨_, _, F_l_take, PySem.W.mg_of X G a_l_take, F_l_take.binds fun _ _ _ _ _ _ us hl => match us, hl with | [_, _], _ => rfl⟩
  have F_l_shared := fun_mk (st := s_l_shared) l_l_shared c_l_shared k_l_shared
  have D_l_shared : Df K mg "_law_shared" s_l_shared ["_law_one", "_law_other"] := ⟨_, _, F_l_shared, PySem.W.mg_of X G a_l_shared, F_l_shared.binds fun _ _ _ _ _ _ us hl => match us, hl with | [_, _], _ => rfl⟩
  have F_l_ratio := fun_mk (st := s_l_ratio) l_l_ratio c_l_ratio k_l_ratio
  have D_l_ratio : Df K mg "_law_ratio" s_l_ratio ["_law_top", "_law_bottom"] := ⟨_, _, F_l_ratio, PySem.W.mg_of X G a_l_ratio, F_l_ratio.binds fun _ _ _ _ _ _ us hl => match us, hl with | [_, _], _ => rfl⟩
  have F_l_is_ratio := fun_mk (st := s_l_is_ratio) l_l_is_ratio c_l_is_ratio k_l_is_ratio
  have D_l_is_ratio : Df K mg "_law_is_ratio" s_l_is_ratio ["_law_value"] := ⟨_, _, F_l_is_ratio, PySem.W.mg_of X G a_l_is_ratio, F_l_is_ratio.binds fun _ _ _ _ _ _ us hl => match us, hl with | [_], _ => rfl⟩
  have F_l_number := fun_mk (st := s_l_number) l_l_number c_l_number k_l_number
  have D_l_number : Df K mg "_law_number" s_l_number ["_law_box_here"] := ⟨_, _, F_l_number, PySem.W.mg_of X G a_l_number, F_l_number.binds fun _ _ _ _ _ _ us hl => match us, hl with | [_], _ => rfl⟩
  have F_l_given := fun_mk (st := s_l_given) l_l_given c_l_given k_l_given
  have D_l_given : Df K mg "_law_given" s_l_given ["_law_box_here", "_law_number_here"] := ⟨_, _, F_l_given, PySem.W.mg_of X G a_l_given, F_l_given.binds fun _ _ _ _ _ _ us hl => match us, hl with | [_, _], _ => rfl⟩
  have F_l_longer := fun_mk (st := s_l_longer) l_l_longer c_l_longer k_l_longer
  have D_l_longer : Df K mg "_law_longer" s_l_longer ["_law_box_here"] := ⟨_, _, F_l_longer, PySem.W.mg_of X G a_l_longer, F_l_longer.binds fun _ _ _ _ _ _ us hl => match us, hl with | [_], _ => rfl⟩
  have F_l_divided := fun_mk (st := s_l_divided) l_l_divided c_l_divided k_l_divided
  have D_l_divided : Df K mg "_law_divided" s_l_divided ["_law_one", "_law_other"] := ⟨_, _, F_l_divided, PySem.W.mg_of X G a_l_divided, F_l_divided.binds fun _ _ _ _ _ _ us hl => match us, hl with | [_, _], _ => rfl⟩
  have F_l_right := fun_mk (st := s_l_right) l_l_right c_l_right k_l_right
  have D_l_right : Df K mg "_law_right" s_l_right ["_law_one", "_law_other", "_law_passed", "_law_second"] := ⟨_, _, F_l_right, PySem.W.mg_of X G a_l_right, F_l_right.binds fun _ _ _ _ _ _ us hl => match us, hl with | [_, _, _, _], _ => rfl⟩
  have F_law := fun_mk (st := s_law) l_law c_law k_law
  have D_law : Df K mg "law" s_law ["_law_script"] := ⟨_, _, F_law, PySem.W.mg_of X G a_law, F_law.binds fun _ _ _ _ _ _ us hl => match us, hl with | [_], _ => rfl⟩
  have F_ratio : FunD K "ratio" "ratio" (defArgs s_ratio) (defBody s_ratio) (defScope s_ratio) [.int 1] [] f_ratio _ := ⟨⟨_, _, _, _, _, _, _, _, _, _, rfl, l_ratio, c_ratio, .inr ⟨List.cons_ne_nil _ _, T_ratio, _, [.int 1 tt_ratio], _, rfl, t_ratio, rfl, .cons ⟨_, rfl⟩ .nil⟩, .inl rfl⟩, k_ratio⟩
  have D_ratio : Df1 K mg "ratio" s_ratio ["top", "bottom"] := by
    obtain ⟨ds0, v0, b0⟩ := F_ratio.binds1 (ps := ["top", "bottom"]) 2 1 (List.cons_ne_nil _ _) rfl fun _ _ _ _ _ _ _ us its hl hi => match us, its, hl, hi with | [_, _], [_], _, _ => ⟨_, rfl, rfl⟩
    obtain ⟨ds1, v1, b1⟩ := F_ratio.binds1 (ps := ["top", "bottom"]) 1 0 (List.cons_ne_nil _ _) rfl fun _ _ _ _ _ _ _ us its hl hi => match us, its, hl, hi with | [_], [_], _, _ => ⟨_, rfl, rfl⟩
    cases v0
    exact ⟨_, _, F_ratio, PySem.W.mg_of X G a_ratio, b0, ds1, v1, b1⟩
  have ec_ZeroBottom : ExcC K C_ZeroBottom := ⟨ga_ZeroBottom, gg_ZeroBottom, sb_ZeroBottom, hd_ZeroBottom, ha_ZeroBottom, special, takes, hm_ZeroBottom⟩
  have Z_ZeroBottom : ErrZ K mg "ZeroBottom" C_ZeroBottom := ⟨PySem.W.mg_of X G aC_ZeroBottom, xp_ZeroBottom, kp_ZeroBottom, sb_ZeroBottom, ty_ZeroBottom, ec_ZeroBottom, ex_ZeroBottom⟩
  have ec_InvalidNumber : ExcC K C_InvalidNumber := ⟨ga_InvalidNumber, gg_InvalidNumber, sb_InvalidNumber, hd_InvalidNumber, ha_InvalidNumber, special, takes, hm_InvalidNumber⟩
  have ox_InvalidNumber : OexC K C_InvalidNumber := ⟨⟨nm_InvalidNumber, q_InvalidNumber, N_InvalidNumber, bs_InvalidNumber, _, sn_InvalidNumber, sub_InvalidNumber, ab_InvalidNumber, col_InvalidNumber, dd_InvalidNumber, m0_InvalidNumber, m1_InvalidNumber, m2_InvalidNumber, m3_InvalidNumber, m5_InvalidNumber, x_InvalidNumber, by show PySem.HandSPX.refsVE _ = true; rfl⟩, sa_InvalidNumber, sb_InvalidNumber, ty_InvalidNumber, kp_InvalidNumber⟩
  have Fi_InvalidNumber := fun_mk (st := s_InvalidNumber_init) l_InvalidNumber_init c_InvalidNumber_init k_InvalidNumber_init
  refine ⟨PySem.W.fnOf "law" "law" (defArgs s_law) (defBody s_law) (defScope s_law) .none kV_law dc_law pm_law an_law cd_law ct_law, fun s v => .of_eq rfl, fun base _ _ => ?_⟩
  have K_mixed := ok_mixed (P := l.prog) (w := w) (base := base) D_l_mixed
  have K_shared := ok_shared (P := l.prog) (w := w) (base := base) T D_l_shared
  have K_take := ok_take T K_mixed D_l_take
  have K_box := ok_box (P := l.prog) (w := w) (base := base) D_l_box
  have K_lratio := ok_lratio K_shared D_l_ratio
  have K_lisr := ok_lis_ratio T K_shared D_l_is_ratio
  have K_num := ok_number K_take K_lratio D_l_number
  have K_given := ok_given K_take D_l_given
  have K_longer := ok_longer K_take K_lratio K_num D_l_longer
  have K_whole := ok_is_whole (P := l.prog) (w := w) (base := base) T D_is_whole
  have K_isr := ok_is_ratio T Tg K_whole D_is_ratio
  have E_inv : ErrF l.prog w K mg base "InvalidNumber" "value" C_InvalidNumber := ⟨PySem.W.mg_of X G aC_InvalidNumber, ox_InvalidNumber, ⟨ga_InvalidNumber, gg_InvalidNumber, sb_InvalidNumber, hd_InvalidNumber⟩, no_InvalidNumber, ec_InvalidNumber, ex_InvalidNumber,
    ⟨_, _, i_InvalidNumber, ti_InvalidNumber, ok_errinit Fi_InvalidNumber ox_InvalidNumber no_InvalidNumber, Fi_InvalidNumber.binds fun _ _ _ _ _ _ us hl => match us, hl with | [_, _], _ => rfl⟩⟩
  have K_as := ok_as_ratio T E_inv K_whole K_isr D_as_ratio
  have K_ratio := ok_ratio (P := l.prog) (w := w) (base := base) T Tg Z_ZeroBottom D_ratio
  have K_addr := ok_add_ratios K_ratio D_add_ratios
  have K_mulr := ok_multiply_ratios K_ratio D_multiply_ratios
  have K_add := ok_add K_as K_addr D_add
  have K_mul := ok_multiply K_as K_mulr D_multiply
  have K_div := ok_divide K_as K_ratio D_divide
  have K_sub := ok_subtract K_add K_mul D_subtract
  have K_cmp := ok_compare K_sub D_compare
  have K_divd := ok_divided Z_ZeroBottom K_div D_l_divided
  have K_right := ok_right T K_add K_mul K_sub K_cmp K_divd K_lratio D_l_right
  exact ok_law T K_box K_longer K_given K_right K_lisr K_add K_mul K_sub K_cmp K_div F_law

end Bs
open PySem PySem.W PyProof.Rows
set_option maxRecDepth 100000 in
set_option maxHeartbeats 0 in
theorem PySem.Challenge.cw_backsheet_k02_whole_arithmetic_holds : PySem.Challenge.rw_backsheet_k02_whole_arithmetic.Holds := by
  w_on; o_law; k_head; (case hw => w_witness2)
  k_fill
  refine Bs.walk (l := PySem.Challenge.rw_backsheet_k02_whole_arithmetic) rfl rfl (fun w h Y => PySem.W.kIn_of Y) ?F
  case F =>
    intro w mg fa h KX G hmg
    refine' Bs.all_mk KX G hmg ?a_is_whole ?l_is_whole ?c_is_whole ?k_is_whole ?a_is_ratio ?l_is_ratio ?c_is_ratio ?k_is_ratio ?a_as_ratio ?l_as_ratio ?c_as_ratio ?k_as_ratio ?a_add ?l_add ?c_add ?k_add ?a_add_ratios ?l_add_ratios ?c_add_ratios ?k_add_ratios ?a_subtract ?l_subtract ?c_subtract ?k_subtract ?a_multiply ?l_multiply ?c_multiply ?k_multiply ?a_multiply_ratios ?l_multiply_ratios ?c_multiply_ratios ?k_multiply_ratios ?a_divide ?l_divide ?c_divide ?k_divide ?a_compare ?l_compare ?c_compare ?k_compare ?a_l_box ?l_l_box ?c_l_box ?k_l_box ?a_l_mixed ?l_l_mixed ?c_l_mixed ?k_l_mixed ?a_l_take ?l_l_take ?c_l_take ?k_l_take ?a_l_shared ?l_l_shared ?c_l_shared ?k_l_shared ?a_l_ratio ?l_l_ratio ?c_l_ratio ?k_l_ratio ?a_l_is_ratio ?l_l_is_ratio ?c_l_is_ratio ?k_l_is_ratio ?a_l_number ?l_l_number ?c_l_number ?k_l_number ?a_l_given ?l_l_given ?c_l_given ?k_l_given ?a_l_longer ?l_l_longer ?c_l_longer ?k_l_longer ?a_l_divided ?l_l_divided ?c_l_divided ?k_l_divided ?a_l_right ?l_l_right ?c_l_right ?k_l_right ?a_law ?l_law ?c_law ?k_law ?a_ratio ?l_ratio ?c_ratio ?k_ratio ?t_ratio ?aC_SheetError ?aC_ZeroBottom ?aC_InvalidNumber ?special ?takes ?kS_ZeroBottom ?ga_ZeroBottom ?gg_ZeroBottom ?sb_ZeroBottom ?hd_ZeroBottom ?ha_ZeroBottom ?hm_ZeroBottom ?ty_ZeroBottom ?kp_ZeroBottom ?ex_ZeroBottom ?xp_ZeroBottom ?kS_InvalidNumber ?ga_InvalidNumber ?gg_InvalidNumber ?sb_InvalidNumber ?hd_InvalidNumber ?ha_InvalidNumber ?hm_InvalidNumber ?ty_InvalidNumber ?kp_InvalidNumber ?ex_InvalidNumber ?x_InvalidNumber ?sa_InvalidNumber ?no_InvalidNumber ?i_InvalidNumber ?ti_InvalidNumber ?l_InvalidNumber_init ?c_InvalidNumber_init ?k_InvalidNumber_init ?n_len ?n_max ?n_abs ?n_any ?n_all ?n_isinstance ?n_range ?n_zip ?n_int ?n_bool ?n_tuple ?n_list ?g_gcd
    (case a_is_whole => k_is)
    (case l_is_whole => k_is)
    (case c_is_whole => k_is)
    (case k_is_whole => k_is)
    (case a_is_ratio => k_is)
    (case l_is_ratio => k_is)
    (case c_is_ratio => k_is)
    (case k_is_ratio => k_is)
    (case a_as_ratio => k_is)
    (case l_as_ratio => k_is)
    (case c_as_ratio => k_is)
    (case k_as_ratio => k_is)
    (case a_add => k_is)
    (case l_add => k_is)
    (case c_add => k_is)
    (case k_add => k_is)
    (case a_add_ratios => k_is)
    (case l_add_ratios => k_is)
    (case c_add_ratios => k_is)
    (case k_add_ratios => k_is)
    (case a_subtract => k_is)
    (case l_subtract => k_is)
    (case c_subtract => k_is)
    (case k_subtract => k_is)
    (case a_multiply => k_is)
    (case l_multiply => k_is)
    (case c_multiply => k_is)
    (case k_multiply => k_is)
    (case a_multiply_ratios => k_is)
    (case l_multiply_ratios => k_is)
    (case c_multiply_ratios => k_is)
    (case k_multiply_ratios => k_is)
    (case a_divide => k_is)
    (case l_divide => k_is)
    (case c_divide => k_is)
    (case k_divide => k_is)
    (case a_compare => k_is)
    (case l_compare => k_is)
    (case c_compare => k_is)
    (case k_compare => k_is)
    (case a_l_box => k_is)
    (case l_l_box => k_is)
    (case c_l_box => k_is)
    (case k_l_box => k_is)
    (case a_l_mixed => k_is)
    (case l_l_mixed => k_is)
    (case c_l_mixed => k_is)
    (case k_l_mixed => k_is)
    (case a_l_take => k_is)
    (case l_l_take => k_is)
    (case c_l_take => k_is)
    (case k_l_take => k_is)
    (case a_l_shared => k_is)
    (case l_l_shared => k_is)
    (case c_l_shared => k_is)
    (case k_l_shared => k_is)
    (case a_l_ratio => k_is)
    (case l_l_ratio => k_is)
    (case c_l_ratio => k_is)
    (case k_l_ratio => k_is)
    (case a_l_is_ratio => k_is)
    (case l_l_is_ratio => k_is)
    (case c_l_is_ratio => k_is)
    (case k_l_is_ratio => k_is)
    (case a_l_number => k_is)
    (case l_l_number => k_is)
    (case c_l_number => k_is)
    (case k_l_number => k_is)
    (case a_l_given => k_is)
    (case l_l_given => k_is)
    (case c_l_given => k_is)
    (case k_l_given => k_is)
    (case a_l_longer => k_is)
    (case l_l_longer => k_is)
    (case c_l_longer => k_is)
    (case k_l_longer => k_is)
    (case a_l_divided => k_is)
    (case l_l_divided => k_is)
    (case c_l_divided => k_is)
    (case k_l_divided => k_is)
    (case a_l_right => k_is)
    (case l_l_right => k_is)
    (case c_l_right => k_is)
    (case k_l_right => k_is)
    (case a_law => k_is)
    (case l_law => k_is)
    (case c_law => k_is)
    (case k_law => k_is)
    (case a_ratio => k_is)
    (case l_ratio => k_is)
    (case c_ratio => k_is)
    (case k_ratio => k_is)
    (case t_ratio => k_is)
    (case aC_SheetError => k_is)
    (case aC_ZeroBottom => k_is)
    (case aC_InvalidNumber => k_is)
    (case special => first | rfl | k_is)
    (case takes => first | rfl | k_is)
    (case kS_ZeroBottom => first | rfl | k_is)
    (case ga_ZeroBottom => k_is)
    (case gg_ZeroBottom => k_is)
    (case sb_ZeroBottom => k_is)
    (case hd_ZeroBottom => k_is)
    (case ha_ZeroBottom => k_is)
    (case hm_ZeroBottom => k_is)
    (case ty_ZeroBottom => k_is)
    (case kp_ZeroBottom => k_is)
    (case ex_ZeroBottom => first | rfl | k_is)
    (case xp_ZeroBottom => k_exc)
    (case kS_InvalidNumber => first | rfl | k_is)
    (case ga_InvalidNumber => k_is)
    (case gg_InvalidNumber => k_is)
    (case sb_InvalidNumber => k_is)
    (case hd_InvalidNumber => k_is)
    (case ha_InvalidNumber => k_is)
    (case hm_InvalidNumber => k_is)
    (case ty_InvalidNumber => k_is)
    (case kp_InvalidNumber => k_is)
    (case ex_InvalidNumber => first | rfl | k_is)
    (case x_InvalidNumber => k_is)
    (case sa_InvalidNumber => k_is)
    (case no_InvalidNumber => k_is)
    (case i_InvalidNumber => k_is)
    (case ti_InvalidNumber => k_is)
    (case l_InvalidNumber_init => k_is)
    (case c_InvalidNumber_init => k_is)
    (case k_InvalidNumber_init => k_is)
    (case n_len => k_is)
    (case n_max => k_is)
    (case n_abs => k_is)
    (case n_any => k_is)
    (case n_all => k_is)
    (case n_isinstance => k_is)
    (case n_range => k_is)
    (case n_zip => k_is)
    (case n_int => k_is)
    (case n_bool => k_is)
    (case n_tuple => k_is)
    (case n_list => k_is)
    (case g_gcd => k_is)
