import PyProof.Rows.All
import Wide.All
import OpenK.AllK
import Wide.FinOn
import HandS.ForMost
import HandS.Exc
import HandS.TryOnly
import HandS.ExcOwn
import HandS.WordsExc
import HandS.Wide
import HandS.Gcd
import HandS.IsInst
import HandS.EndBits
import HandS.Codes
import HandS.Flow
import HandS.TupAny
import HandS.Defaults
import HandS.Small
import HandS.NoneIn
import HandS.StrMore
import HandS.Style
import HandS.WideBits
import HandS.Replace
import HandS.Zip
import HandS.Walk
import HandS.ExcInit
import HandS.ExcField
import HandS.ExcIs

import PySem.Challenge.RW_backsheet_k01_ratios_and_numbers
set_option Elab.async false
set_option linter.all false
set_option maxRecDepth 100000
namespace Bs
open PySem
def top (i : Nat) : Stmt := PySem.Challenge.pw_backsheet_k01_ratios_and_numbers.main.body.getD i (.Pass ⟨0, 0, 0, 0⟩)
open L2
abbrev s_InvalidNumber_init : Stmt := inClass (top 4) 0
theorem sc_InvalidNumber_init : FnScope ["self", "value"] ["self", "value"] (defScope s_InvalidNumber_init) := ⟨rfl, rfl, rfl, by decide +kernel, rfl, by decide +kernel, by decide +kernel⟩
abbrev s_is_whole : Stmt := top 6
theorem sc_is_whole : FnScope ["value"] ["value"] (defScope s_is_whole) := ⟨rfl, rfl, rfl, by decide +kernel, rfl, by decide +kernel, by decide +kernel⟩
abbrev s_is_ratio : Stmt := top 7
theorem sc_is_ratio : FnScope ["value", "top", "bottom"] ["value"] (defScope s_is_ratio) := ⟨rfl, rfl, rfl, by decide +kernel, rfl, by decide +kernel, by decide +kernel⟩
abbrev s_is_number : Stmt := top 8
theorem sc_is_number : FnScope ["value"] ["value"] (defScope s_is_number) := ⟨rfl, rfl, rfl, by decide +kernel, rfl, by decide +kernel, by decide +kernel⟩
abbrev s_as_ratio : Stmt := top 9
theorem sc_as_ratio : FnScope ["value"] ["value"] (defScope s_as_ratio) := ⟨rfl, rfl, rfl, by decide +kernel, rfl, by decide +kernel, by decide +kernel⟩
abbrev s_ratio : Stmt := top 10
theorem sc_ratio : FnScope ["top", "bottom", "common"] ["top", "bottom"] (defScope s_ratio) := ⟨rfl, rfl, rfl, by decide +kernel, rfl, by decide +kernel, by decide +kernel⟩
abbrev s_l_box : Stmt := top 12
theorem sc_l_box : FnScope ["_law_script", "_law_great", "_law_cell"] ["_law_script"] (defScope s_l_box) := ⟨rfl, rfl, rfl, by decide +kernel, rfl, by decide +kernel, by decide +kernel⟩
abbrev s_l_mixed : Stmt := top 13
theorem sc_l_mixed : FnScope ["_law_cell", "_law_k", "_law_whole"] ["_law_cell", "_law_k"] (defScope s_l_mixed) := ⟨rfl, rfl, rfl, by decide +kernel, rfl, by decide +kernel, by decide +kernel⟩
abbrev s_l_take : Stmt := top 14
theorem sc_l_take : FnScope ["_law_box_here", "_law_size", "_law_found", "_law_cell", "_law_reach"] ["_law_box_here", "_law_size"] (defScope s_l_take) := ⟨rfl, rfl, rfl, by decide +kernel, rfl, by decide +kernel, by decide +kernel⟩
abbrev s_l_shared : Stmt := top 15
theorem sc_l_shared : FnScope ["_law_one", "_law_other"] ["_law_one", "_law_other"] (defScope s_l_shared) := ⟨rfl, rfl, rfl, by decide +kernel, rfl, by decide +kernel, by decide +kernel⟩
abbrev s_l_ratio : Stmt := top 16
theorem sc_l_ratio : FnScope ["_law_top", "_law_bottom", "_law_by"] ["_law_top", "_law_bottom"] (defScope s_l_ratio) := ⟨rfl, rfl, rfl, by decide +kernel, rfl, by decide +kernel, by decide +kernel⟩
abbrev s_l_is_ratio : Stmt := top 17
theorem sc_l_is_ratio : FnScope ["_law_value", "_law_part"] ["_law_value"] (defScope s_l_is_ratio) := ⟨rfl, rfl, rfl, by decide +kernel, rfl, by decide +kernel, by decide +kernel⟩
abbrev s_l_long : Stmt := top 18
theorem sc_l_long : FnScope ["_law_box_here"] ["_law_box_here"] (defScope s_l_long) := ⟨rfl, rfl, rfl, by decide +kernel, rfl, by decide +kernel, by decide +kernel⟩
abbrev s_l_odd : Stmt := top 19
theorem sc_l_odd : FnScope ["_law_box_here", "_law_top", "_law_bottom", "_law_good", "_law_way", "_law_k", "_law_by"] ["_law_box_here"] (defScope s_l_odd) := ⟨rfl, rfl, rfl, by decide +kernel, rfl, by decide +kernel, by decide +kernel⟩
abbrev s_l_is_integer : Stmt := top 20
theorem sc_l_is_integer : FnScope ["_law_value"] ["_law_value"] (defScope s_l_is_integer) := ⟨rfl, rfl, rfl, by decide +kernel, rfl, by decide +kernel, by decide +kernel⟩
abbrev s_l_converted : Stmt := top 21
theorem sc_l_converted : FnScope ["_law_value", "_law_found", "e"] ["_law_value"] (defScope s_l_converted) := ⟨rfl, rfl, rfl, by decide +kernel, rfl, by decide +kernel, by decide +kernel⟩
abbrev s_l_quotient : Stmt := top 22
theorem sc_l_quotient : FnScope ["_law_top", "_law_bottom", "_law_found", "e"] ["_law_top", "_law_bottom"] (defScope s_l_quotient) := ⟨rfl, rfl, rfl, by decide +kernel, rfl, by decide +kernel, by decide +kernel⟩
abbrev s_l_same : Stmt := top 23
theorem sc_l_same : FnScope ["_law_one", "_law_other", "_law_part", "_law_thing"] ["_law_one", "_law_other"] (defScope s_l_same) := ⟨rfl, rfl, rfl, by decide +kernel, rfl, by decide +kernel, by decide +kernel⟩
abbrev s_law : Stmt := top 24
theorem sc_law : FnScope ["_law_script", "_law_box_here", "_law_turn", "_law_value", "_law_due", "_law_top", "_law_bottom"] ["_law_script"] (defScope s_law) := ⟨rfl, rfl, rfl, by decide +kernel, rfl, by decide +kernel, by decide +kernel⟩
open PySem L2
/-! ### numbers -/
def CPowB (i j : Int) : Prop := 0 ≤ j ∧ (Builtin.Int.intBits i : Int) * j ≤ 2 ^ 27
theorem op_powB {X : Cx} : OpR X (binaryOp .Pow) (rI CPowB fun i j => .int (i ^ j.toNat)) := opI fun _ _ _ _ _ _ _ hc q => PyProof.Rows.pow_int hc.1 hc.2 q
/-- what the module leaves of the built-in names -/
structure Bt (mg : Str → Option Value) : Prop where
  n_len : mg "len" = none
  n_max : mg "max" = none
  n_abs : mg "abs" = none
  n_any : mg "any" = none
  n_all : mg "all" = none
  n_isinstance : mg "isinstance" = none
  n_range : mg "range" = none
  n_zip : mg "zip" = none
  n_int : mg "int" = none
  n_bool : mg "bool" = none
  n_tuple : mg "tuple" = none
  n_list : mg "list" = none
/-! ### a def that is known, and a def that keeps a promise -/
def Df (K : PySem.W.Frag) (mg : Str → Option Value) (x : Str) (st : Stmt) (ps : List Str) : Prop :=
  ∃ f fd, Fun K x x st f fd ∧ mg x = some (.ref f) ∧ Binds K fd ps []
def Kn (P : Program) (w : World) (K : PySem.W.Frag) (mg : Str → Option Value) (base : Heap) (cx : CXT) (x : Str) (k : Nat) (ps : List Str) (sp : Sp) : Prop :=
  ∃ f fd, FnOk P w K mg base cx k f fd ps sp ∧ mg x = some (.ref f) ∧ PySem.W.keepIn K (.ref f) = true ∧ Binds K fd ps []
/-! ### the box of draws: a list of a list, a number, a list, a number -/
def bl (g : Addr) (cur : Int) (c : Addr) (m : Int) : List V := [.ref g, .int cur, .ref c, .int m]
structure BoxIs (H : Hp) (b g c : Addr) (gs cs : List Int) (cur m : Int) : Prop where
  hb : H b = some (.lst (bl g cur c m))
  hg : H g = some (.lst (gs.map V.int))
  hc : H c = some (.lst (cs.map V.int))
  bg : b ≠ g
  bc : b ≠ c
  gc : g ≠ c
  m0 : 0 ≤ m
  lg : gs.length ≤ 63
  lc : cs.length ≤ 63
/-- a box from which at most n numbers have been drawn -/
def Box (H : Hp) (b g c : Addr) (n : Nat) : Prop := ∃ gs cs cur m, BoxIs H b g c gs cs cur m ∧ m ≤ (n : Int)
/-- all but the box's two objects is as it was -/
def But (b g : Addr) (H H' : Hp) : Prop := ∀ a o, H a = some o → a ≠ b → a ≠ g → H' a = some o
theorem But.refl (b g : Addr) (H : Hp) : But b g H H := fun _ _ h _ _ => h
theorem But.trans {b g : Addr} {H H1 H2 : Hp} (x : But b g H H1) (y : But b g H1 H2) : But b g H H2 := fun a o h h1 h2 => y a o (x a o h h1 h2) h1 h2
theorem But.of {b g : Addr} {H H' : Hp} (x : Same H H') : But b g H H' := fun a o h _ _ => x a o h
theorem But.updb {b g : Addr} {H : Hp} {o : HO} : But b g H (upd H b o) := fun a o' h h1 _ => by rw [upd_ne h1]; exact h
theorem But.updg {b g : Addr} {H : Hp} {o : HO} : But b g H (upd H g o) := fun a o' h _ h1 => by rw [upd_ne h1]; exact h
theorem same_new {H : Hp} {p : Addr} (h : H p = none) (o : HO) : Same H (upd H p o) := fun b u q => by rw [upd_ne (ne_of_none q h)]; exact q
theorem Box.same {H H' : Hp} {b g c : Addr} {n : Nat} (x : Box H b g c n) (s : Same H H') : Box H' b g c n := by
  obtain ⟨gs, cs, cur, m, B, hm⟩ := x
  exact ⟨gs, cs, cur, m, ⟨s _ _ B.hb, s _ _ B.hg, s _ _ B.hc, B.bg, B.bc, B.gc, B.m0, B.lg, B.lc⟩, hm⟩
theorem Box.mono {H : Hp} {b g c : Addr} {n k : Nat} (x : Box H b g c n) (h : n ≤ k) : Box H b g c k := by
  obtain ⟨gs, cs, cur, m, B, hm⟩ := x
  exact ⟨gs, cs, cur, m, B, by omega⟩
theorem BoxIs.updb {H : Hp} {b g c : Addr} {gs cs : List Int} {cur m cur' m' : Int} (B : BoxIs H b g c gs cs cur m) (h : 0 ≤ m') : BoxIs (upd H b (.lst (bl g cur' c m'))) b g c gs cs cur' m' :=
  ⟨upd_same, by rw [upd_ne B.bg.symm]; exact B.hg, by rw [upd_ne B.bc.symm]; exact B.hc, B.bg, B.bc, B.gc, h, B.lg, B.lc⟩
theorem BoxIs.updg {H : Hp} {b g c : Addr} {gs cs gs' : List Int} {cur m : Int} (B : BoxIs H b g c gs cs cur m) (h : gs'.length ≤ 63) : BoxIs (upd H g (.lst (gs'.map V.int))) b g c gs' cs cur m :=
  ⟨by rw [upd_ne B.bg]; exact B.hb, upd_same, by rw [upd_ne B.gc.symm]; exact B.hc, B.bg, B.bc, B.gc, B.m0, h, B.lc⟩
theorem seqIx0 {n : Nat} : seqIndex? 0 (n + 1) = some 0 := by
  have h : ixN (n + 1) 0 = some 0 := by
    unfold ixN
    rw [if_pos (by decide), if_pos (by omega)]
    rfl
  exact (ixN_seq h).1
theorem gcd_fmod (u v : Int) : Int.gcd v (u.fmod v) = Int.gcd u v := by
  have e : u.fmod v = u - v * u.fdiv v := Int.fmod_def u v
  apply Nat.dvd_antisymm
  · have d1 : (Int.gcd v (u.fmod v) : Int) ∣ v := Int.gcd_dvd_left ..
    have d2 : (Int.gcd v (u.fmod v) : Int) ∣ u.fmod v := Int.gcd_dvd_right ..
    have d3 : (Int.gcd v (u.fmod v) : Int) ∣ u := by
      have d4 := Int.dvd_add d2 (Int.dvd_trans d1 (Int.dvd_mul_right v (u.fdiv v)))
      rw [show u.fmod v + v * u.fdiv v = u by omega] at d4
      exact d4
    exact Int.dvd_gcd d3 d1
  · have d1 : (Int.gcd u v : Int) ∣ u := Int.gcd_dvd_left ..
    have d2 : (Int.gcd u v : Int) ∣ v := Int.gcd_dvd_right ..
    refine Int.dvd_gcd d2 ?_
    rw [e]
    exact Int.dvd_sub d1 (Int.dvd_trans d2 (Int.dvd_mul_right v _))
theorem natAbs_fmod_lt {u v : Int} (h : v ≠ 0) : (u.fmod v).natAbs < v.natAbs := by
  rw [Int.fmod_eq_emod]
  have h1 := Int.emod_nonneg u h
  have h2 := Int.emod_lt u h
  split <;> omega
/-! ### promises -/
def spMixed : Sp := fun vs H Q _ => ∃ cell k : Int, vs = [.int cell, .int k] ∧ 0 ≤ k ∧ k < 2000000 ∧ ∀ r : Int, Q (.int r) H
def spTake : Sp := fun vs H Q _ => ∃ (b g c : Addr) (n : Nat) (size : Int), vs = [.ref b, .int size] ∧ Box H b g c n ∧ n < 1000000 ∧ 0 < size ∧ size.natAbs < 2 ^ 8000 ∧
  ∀ (r : Int) (H' : Hp), 0 ≤ r → r < size → Box H' b g c (n + 1) → But b g H H' → Q (.int r) H'
def spBox (K : PySem.W.Frag) : Sp := fun vs H Q _ => ∃ (a : Addr) (ns : List Int), vs = [.ref a] ∧ SqL K H a (ns.map V.int) ∧ ns.length ≤ 63 ∧
  ∀ (b g c : Addr) (H' : Hp), Box H' b g c 0 → Same H H' → H b = none → H g = none → H c = none → Q (.ref b) H'
def spShared : Sp := fun vs H Q _ => ∃ a b : Int, vs = [.int a, .int b] ∧ Q (.int (Int.gcd a b : Int)) H
section
variable {P : Program} {w : World} {K : PySem.W.Frag} {mg : Str → Option Value} {base : Heap}
theorem ok_mixed (D : Df K mg "_law_mixed" s_l_mixed ["_law_cell", "_law_k"]) : Kn P w K mg base CX0 "_law_mixed" 1 ["_law_cell", "_law_k"] spMixed := by
  obtain ⟨f, fd, F, hm, hb⟩ := D
  refine ⟨f, fd, F.ok sc_l_mixed (fun vs H Q E h => ?_) (fun cdv A outer s H vs Q E hr h => ?_), hm, F.kp, hb⟩
  · obtain ⟨cell, k, rfl, _⟩ := h
    rfl
  · obtain ⟨cell, k, rfl, k0, k1, q⟩ := h
    refine ⟨_, (pss_cons (ps_set (i := 2) sc_l_mixed.nd rfl (Or.inl rfl) (pe_op op_mod (pe_op op_powB (pe_op op_add (pe_op op_add (pe_op op_add (pe_op op_mod (pv 0) pe_int) (pe_op op_mul (pe_op op_mul pe_int (pv 1)) (pv 1))) (pe_op op_mul pe_int (pv 1))) pe_int) pe_int) pe_int))
      (pss_one (ps_ret (pe_op op_mod (pe_op op_add (pe_op op_mul (pv 2) pe_int) (pe_op op_mul pe_int (pv 1))) pe_int)))), ?_⟩
    have c0 : (0 : Int) ≤ cell % 2147483647 := Int.emod_nonneg _ (by decide)
    have c1 : cell % 2147483647 < 2147483647 := Int.emod_lt_of_pos _ (by decide)
    have kk : (0 : Int) ≤ 1009 * k * k ∧ 1009 * k * k ≤ 1009 * 2000000 * 2000000 := by
      have a1 : 0 ≤ 1009 * k := by omega
      have a2 : 1009 * k ≤ 1009 * 2000000 := by omega
      exact ⟨Int.mul_nonneg a1 k0, Int.mul_le_mul a2 (by omega) k0 (by omega)⟩
    refine ⟨_, rfl, _, _, rfl, rfl, (show (0 : Int) < 2147483647 by decide), _, rfl, _, _, rfl, rfl, .inl ⟨by decide, by decide⟩, _, rfl, _, _, rfl, rfl, .inl ⟨by omega, by omega⟩, _, _, rfl, rfl,
      _, rfl, _, _, rfl, rfl, .inl ⟨by decide, by decide⟩, _, _, rfl, rfl, _, _, rfl, rfl, _, _, rfl, rfl, ⟨by decide, ?_⟩, _, _, rfl, rfl, (show (0 : Int) < 2147483647 by decide), ?_⟩
    · generalize hz : cell % 2147483647 + 1009 * k * k + 48611 * k + 17 = z
      have z0 : 0 ≤ z := by omega
      have z1 : z < 2 ^ 64 := by omega
      have hb := intBits_le_64 (k := z) (by omega) z1
      have : (Builtin.Int.intBits z : Int) ≤ 64 := by omega
      omega
    · refine ⟨_, rfl, _, _, rfl, rfl, .inr ⟨by decide, by decide⟩, _, rfl, _, _, rfl, rfl, .inl ⟨by decide, by decide⟩, _, _, rfl, rfl, _, _, rfl, rfl, (show (0 : Int) < 1000000007 by decide), ?_⟩
      exact q _
theorem ok_shared (T : Bt mg) (D : Df K mg "_law_shared" s_l_shared ["_law_one", "_law_other"]) : Kn P w K mg base CX0 "_law_shared" 1 ["_law_one", "_law_other"] spShared := by
  obtain ⟨f, fd, F, hm, hb⟩ := D
  refine ⟨f, fd, F.ok sc_l_shared (fun vs H Q E h => ?_) (fun cdv A outer s H vs Q E hr h => ?_), hm, F.kp, hb⟩
  · obtain ⟨x, y, rfl, _⟩ := h
    rfl
  · obtain ⟨x, y, rfl, q⟩ := h
    refine ⟨_, (pss_cons (ps_while PassesOwn.never (pt_cmpR op_ne (pv 1) pe_int (nomark _)) (pss_one (ps_par (i := 0) (j := 1) (by rfl) sc_l_shared.nd rfl rfl (by decide) rfl rfl (pa_cons (pv 1) (pa_cons (pe_op op_modN (pv 0) (pv 1)) pa_nil)) (by rfl))))
      (pss_one (ps_ret (pe_callB call_abs (by rfl) T.n_abs (by decide +kernel) (pa_cons (pv 0) pa_nil))))), ?_⟩
    refine while_by (fun σ H' => H' = H ∧ ∃ u v : Int, σ = [some (.int u), some (.int v)] ∧ Int.gcd u v = Int.gcd x y) (fun σ _ => match σ with | [_, some (.int v)] => v.natAbs | _ => 0) ⟨rfl, x, y, rfl, rfl⟩ ?_ ?_
    · rintro σ H' ⟨rfl, u, v, rfl, e⟩
      refine ⟨_, rfl, rfl, _, rfl, ?_⟩
      refine ite2 (fun c => ?_) (fun c => ?_)
      · have hv : v ≠ 0 := by
          intro z
          rw [z] at c
          exact absurd c (by decide)
        refine ⟨_, rfl, _, rfl, _, rfl, _, _, rfl, rfl, hv, _, _, rfl, ⟨rfl, _, _, rfl, ?_⟩, ?_⟩
        · rw [gcd_fmod]
          exact e
        · show (u.fmod v).natAbs < v.natAbs
          exact natAbs_fmod_lt hv
      · have hv : v = 0 := by
          by_cases z : v = 0
          · exact z
          · exact absurd (by simp [z]) c
        subst hv
        refine ⟨_, rfl, _, rfl, ?_⟩
        have e2 : (if u < 0 then -u else u) = (Int.gcd x y : Int) := by
          rw [← e, Int.gcd_zero_right]
          omega
        rw [e2]
        exact q
    · intro σ H' Q1 Q2 hq h
      obtain ⟨v, h1, h2, k, h3, h4⟩ := h
      exact ⟨v, h1, h2, k, h3, hq _ _ h4⟩
theorem ok_take (T : Bt mg) (GM : Kn P w K mg base CX0 "_law_mixed" 1 ["_law_cell", "_law_k"] spMixed) (D : Df K mg "_law_take" s_l_take ["_law_box_here", "_law_size"]) :
    Kn P w K mg base CX0 "_law_take" 2 ["_law_box_here", "_law_size"] spTake := by
  obtain ⟨f, fd, F, hm, hb⟩ := D
  obtain ⟨f_l_mixed, fd_l_mixed, G_l_mixed, m_l_mixed, k_l_mixed, b_l_mixed⟩ := GM
  refine ⟨f, fd, F.ok sc_l_take (fun vs H Q E h => ?_) (fun cdv A outer s H vs Q E hr h => ?_), hm, F.kp, hb⟩
  · obtain ⟨b, g, c, n, size, rfl, _⟩ := h
    rfl
  · obtain ⟨b, g, c, n, size, rfl, ⟨gs, cs, cur, m, B, hmn⟩, hn, s0, sB, q⟩ := h
    refine ⟨_, (pss_cons (ps_asg (pe_op op_add (pe_ix ix_list (pv 0) pe_int (fun _ _ => rfl)) pe_int) (pg_sub (pv 0) pe_int set_list))
      (C8.pss_cut (ps_if (PW.pt (pw_and (pt_cmpR op_eq (pe_ix ix_list (pv 0) pe_int (fun _ _ => rfl)) pe_int (nomark _)) (pw_and1 (pt_cmpR op_gt (pe_callB call_len_seq (by rfl) T.n_len (by decide +kernel) (pa_cons (pe_ix ix_list (pv 0) pe_int (fun _ _ => rfl)) pa_nil)) pe_int (nomark _))))) (pss_one (ps_asg (pe_bm PySem.F.plainAttrs_list PySem.F.slot_list_pop PySem.F.type_list_pop mt_popAt (pe_ix ix_list (pv 0) pe_int (fun _ _ => rfl)) (pa_cons pe_int pa_nil)) (pg_sub (pv 0) pe_int set_list))) pss_nil)
      (pss_cons (ps_if (pt_cmpR op_gt (pe_ix ix_list (pv 0) pe_int (fun _ _ => rfl)) pe_int (nomark _)) (pss_cons (ps_set (i := 2) sc_l_take.nd rfl (Or.inl rfl) (pe_op op_mod (pe_ix ix_list (pv 0) pe_int (fun _ _ => rfl)) (pv 1)))
      (pss_cons (ps_asg (pe_op op_fdivW (pe_ix ix_list (pv 0) pe_int (fun _ _ => rfl)) (pv 1)) (pg_sub (pv 0) pe_int set_list))
      (pss_one (ps_ret (pv 2))))) pss_nil)
      (pss_cons (ps_set (i := 3) sc_l_take.nd rfl (Or.inl rfl) (pe_ix ix_list (pe_op op_cat (pe_ix ix_list (pv 0) pe_int (fun _ _ => rfl)) (pe_lst (pa_cons (pe_op op_mul pe_int (pe_ix ix_list (pv 0) pe_int (fun _ _ => rfl))) pa_nil))) (pe_op op_mod (pe_ix ix_list (pv 0) pe_int (fun _ _ => rfl)) (pe_callB (call_max2 rfl) (by rfl) T.n_max (by decide +kernel) (pa_cons pe_int (pa_cons (pe_callB call_len_seq (by rfl) T.n_len (by decide +kernel) (pa_cons (pe_ix ix_list (pv 0) pe_int (fun _ _ => rfl)) pa_nil)) pa_nil)))) (fun _ _ => rfl)))
      (pss_cons (ps_set (i := 2) sc_l_take.nd rfl (Or.inl rfl) pe_int)
      (pss_cons (ps_set (i := 4) sc_l_take.nd rfl (Or.inl rfl) pe_int)
      (pss_cons (ps_while PassesOwn.never (pt_cmpR op_lt (pv 4) (pv 1) (nomark _)) (pss_cons (ps_set (i := 2) sc_l_take.nd rfl (Or.inl rfl) (pe_op op_add (pe_op op_mul (pv 2) pe_int) (pe_call G_l_mixed (hr.mono (by omega)) rfl m_l_mixed k_l_mixed b_l_mixed .nil pass0 (pa_cons (pv 3) (pa_cons (pe_op op_add (pe_ix ix_list (pv 0) pe_int (fun _ _ => rfl)) (pe_op op_mul pe_int (pe_op op_mod (pv 2) pe_int))) pa_nil)))))
      (pss_one (ps_set (i := 4) sc_l_take.nd rfl (Or.inl rfl) (pe_op op_mul (pv 4) pe_int)))))
      (pss_one (ps_ret (pe_op op_mod (pv 2) (pv 1))))))))))), ?_⟩
    have m0 := B.m0
    -- box[3] = box[3] + 1
    refine ⟨_, rfl, b, _, _, .int m, rfl, rfl, SqL.of B.hb, rfl, _, _, rfl, rfl, _, rfl, b, _, _, 3, rfl, rfl, B.hb, rfl, ?_⟩
    have B1 : BoxIs (upd H b (.lst (bl g cur c (m + 1)))) b g c gs cs cur (m + 1) := B.updb (by omega)
    refine ⟨fun σ H2 => σ = start ["_law_box_here", "_law_size", "_law_found", "_law_cell", "_law_reach"] [.ref b, .int size] ∧ But b g H H2 ∧ ∃ gs2 cur2, BoxIs H2 b g c gs2 cs cur2 (m + 1), ?_, ?_⟩
    · -- if box[1] == 0 and len(box[0]) > 0: box[1] = box[0].pop(0)
      refine ⟨_, rfl, b, _, _, .int cur, rfl, rfl, SqL.of B1.hb, rfl, rfl, _, rfl, ?_⟩
      refine ite2 (fun h => ?_) (fun h => ?_)
      · refine ⟨_, rfl, b, _, _, .ref g, rfl, rfl, SqL.of B1.hb, rfl, g, _, rfl, .inl (SqL.of B1.hg), _, _, rfl, rfl, _, rfl, ?_⟩
        refine ite2 (fun h2 => ?_) (fun h2 => ?_)
        · have h3 : (0 : Int) < ((gs.map V.int).length : Nat) := of_decide_eq_true h2
          rw [List.length_map] at h3
          obtain ⟨z, gr, rfl⟩ : ∃ z gr, gs = z :: gr := by
            cases gs with
            | nil => exact absurd h3 (by decide)
            | cons z gr => exact ⟨z, gr, rfl⟩
          have lg := B.lg
          refine ⟨_, rfl, b, _, _, .ref g, rfl, rfl, SqL.of B1.hb, rfl, .inl ⟨rfl, _, SqL.of B1.hg⟩, g, _, 0, 0, .int z, rfl, rfl, B1.hg, by decide, by decide, seqIx0, rfl, ?_⟩
          have B2 : BoxIs (upd (upd H b (.lst (bl g cur c (m + 1)))) g (.lst (gr.map V.int))) b g c gr cs cur (m + 1) := B1.updg (by rw [List.length_cons] at lg; omega)
          refine ⟨_, rfl, b, _, _, 1, rfl, rfl, B2.hb, rfl, ?_⟩
          exact ⟨rfl, (But.updb.trans But.updg).trans But.updb, gr, z, B2.updb (by omega)⟩
        · exact ⟨rfl, But.updb, gs, cur, B1⟩
      · exact ⟨rfl, But.updb, gs, cur, B1⟩
    · rintro σ H2 ⟨rfl, hbut, gs2, cur2, B2⟩
      -- if box[1] > 0
      refine ⟨_, rfl, b, _, _, .int cur2, rfl, rfl, SqL.of B2.hb, rfl, _, _, rfl, rfl, _, rfl, ?_⟩
      refine ite2 (fun h => ?_) (fun h => ?_)
      · refine ⟨_, rfl, b, _, _, .int cur2, rfl, rfl, SqL.of B2.hb, rfl, _, rfl, _, _, rfl, rfl, s0, ?_⟩
        refine ⟨_, rfl, b, _, _, .int cur2, rfl, rfl, SqL.of B2.hb, rfl, _, rfl, _, _, rfl, rfl, wide_div s0 sB (by decide) (by decide), ?_⟩
        refine ⟨_, rfl, b, _, _, 1, rfl, rfl, B2.hb, rfl, ?_⟩
        refine ⟨_, rfl, ?_⟩
        exact q _ _ (Int.emod_nonneg _ (by omega)) (Int.emod_lt_of_pos _ s0) ⟨gs2, cs, _, _, B2.updb (by omega), by omega⟩ (hbut.trans But.updb)
      · -- cell = (box[2] + [7 * box[3]])[box[3] % max(1, len(box[2]))]
        refine ⟨_, rfl, b, _, _, .ref c, rfl, rfl, SqL.of B2.hb, rfl, _, rfl, b, _, _, .int (m + 1), rfl, rfl, SqL.of B2.hb, rfl, _, _, rfl, rfl, .inl ⟨by decide, by decide⟩, (by show 1 ≤ sizeLine; decide), fun p np => ?_⟩
        have s1 := same_new np (.lst [.int (7 * (m + 1))])
        have lc := B.lc
        refine ⟨c, p, _, _, rfl, rfl, s1 _ _ B2.hc, upd_same, (by rw [List.length_map]; show cs.length + 1 ≤ sizeLine; exact Nat.le_of_lt (small1000 (by omega))), fun p2 np2 => ?_⟩
        have s2 := s1.trans (same_new np2 (.lst (cs.map V.int ++ [.int (7 * (m + 1))])))
        refine ⟨_, rfl, b, _, _, .int (m + 1), rfl, rfl, SqL.of (s2 _ _ B2.hb), rfl, _, rfl, b, _, _, .ref c, rfl, rfl, SqL.of (s2 _ _ B2.hb), rfl, c, _, rfl, .inl (SqL.of (s2 _ _ B2.hc)), _, _, rfl, ?_⟩
        have hmx : ((cs.map V.int).length : Int) = cs.length := by rw [List.length_map]
        rw [hmx]
        generalize hM : (if (cs.length : Int) > 1 then (cs.length : Int) else 1) = M
        have M0 : 0 < M := by split at hM <;> omega
        have M1 : M ≤ cs.length + 1 := by split at hM <;> omega
        refine ⟨_, _, rfl, rfl, M0, ?_⟩
        have i0 := Int.emod_nonneg (m + 1) (show M ≠ 0 by omega)
        have i1 := Int.emod_lt_of_pos (m + 1) M0
        obtain ⟨v, hv⟩ : ∃ v : Int, atI (cs.map V.int ++ [.int (7 * (m + 1))]) ((m + 1) % M) = some (.int v) := by
          generalize (m + 1) % M = j at i0 i1
          obtain ⟨k, rfl⟩ : ∃ k : Nat, j = (k : Int) := ⟨j.toNat, by omega⟩
          by_cases hk : k < cs.length
          · exact ⟨cs[k], atI_nat (by rw [List.getElem?_append_left (by rw [List.length_map]; exact hk), List.getElem?_map, List.getElem?_eq_getElem hk]; rfl)⟩
          · have ek : k = cs.length := by omega
            subst ek
            exact ⟨7 * (m + 1), atI_nat (by rw [List.getElem?_append_right (by rw [List.length_map]; exact Nat.le_refl _), List.length_map, Nat.sub_self]; rfl)⟩
        refine ⟨p2, _, _, .int v, rfl, rfl, SqL.of upd_same, hv, ?_⟩
        generalize hH3 : upd (upd H2 p (.lst [.int (7 * (m + 1))])) p2 (.lst (cs.map V.int ++ [.int (7 * (m + 1))])) = H3
        rw [hH3] at s2
        have hb3 : H3 b = some (.lst (bl g cur2 c (m + 1))) := s2 _ _ B2.hb
        -- found = 0; reach = 1; while ..
        refine while_by (fun σ H' => H' = H3 ∧ ∃ u v' : Int, σ = [some (.ref b), some (.int size), some (.int u), some (.int v), some (.int v')] ∧ 1 ≤ v') (fun σ _ => match σ with | [_, _, _, _, some (.int v')] => (size - v').toNat | _ => 0) ⟨rfl, 0, 1, rfl, by decide⟩ ?_ ?_
        · rintro σ H' ⟨rfl, u, v', rfl, hv'⟩
          refine ⟨_, rfl, _, rfl, _, _, rfl, rfl, _, rfl, ?_⟩
          refine ite2 (fun c => ?_) (fun c => ?_)
          · have hlt : v' < size := of_decide_eq_true c
            refine ⟨_, rfl, _, _, rfl, rfl, .inr ⟨by decide, by decide⟩, _, rfl, _, rfl, b, _, _, .int (m + 1), rfl, rfl, SqL.of hb3, rfl, _, rfl, _, _, rfl, rfl, (show (0 : Int) < 89 by decide), _, _, rfl, rfl, .inl ⟨by decide, by decide⟩, _, _, rfl, rfl, ?_⟩
            have f0 := Int.emod_nonneg u (show (89 : Int) ≠ 0 by decide)
            have f1 := Int.emod_lt_of_pos u (show (0 : Int) < 89 by decide)
            refine ⟨_, _, rfl, by omega, by omega, fun r => ?_⟩
            refine ⟨_, _, rfl, rfl, ?_⟩
            refine ⟨_, rfl, _, _, rfl, rfl, .inr ⟨by decide, by decide⟩, ⟨rfl, _, _, rfl, by omega⟩, ?_⟩
            show (size - v' * 1000000007).toNat < (size - v').toNat
            omega
          · refine ⟨_, rfl, _, rfl, _, _, rfl, rfl, s0, ?_⟩
            exact q _ _ (Int.emod_nonneg _ (by omega)) (Int.emod_lt_of_pos _ s0) ⟨gs2, cs, cur2, m + 1, ⟨hb3, s2 _ _ B2.hg, s2 _ _ B2.hc, B2.bg, B2.bc, B2.gc, B2.m0, B2.lg, B2.lc⟩, by omega⟩ (hbut.trans (But.of s2))
        · intro σ H' Q1 Q2 hq h
          obtain ⟨v, h1, v2, h2, i, j, e1, e2, k, e3, h3⟩ := h
          exact ⟨v, h1, v2, h2, i, j, e1, e2, k, e3, hq _ _ h3⟩
end

/-! ### isinstance of a caught error whose own dict stands (or that has none) -/
open PySem.W PySem.Calls PyProof.Rows in
theorem class_of_err {prog : Program} {w : World} {A : Around} {Bad : Value → Shared → Prop} {s : Shared} {K : PySem.W.Frag} {e D : Addr} {oe : Obj} {own : Option Obj} {Want : Option Value → Shared → Prop} (cc : L2.ExcC K D)
    (KI : K.In s.heap) (J : InstAt s.heap e oe D own) (q : Want (some (.ref D)) { s with toks := s.toks + 1 }) : wpAny (model prog w) A (getAttr? (.ref e) "__class__") Want Bad s := by
  have found : findObj K D own "__class__" = some (.bind (.builtin "getset_descriptor.__get__") (.builtin "object.__class__")) := by
    obtain ⟨cd, e0, _⟩ := any_some cc.hd
    unfold findObj
    rw [e0, Option.bind_some, cc.ha, Option.bind_some]
    simp [cc.hn, cc.ht]
  obtain ⟨hp, gs, dr, tk, osx⟩ := s
  have k1 := J.type (M := model prog w)
  have k2 := looks_findIn (M := model prog w) KI cc.hg
  have k3 := looks_findIn (M := model prog w) KI cc.hk
  have k4 := looks_find (M := model prog w) KI J found
  have isB : Looks (model prog w) hp (isInstance (.ref e) (.type "BaseException")) true := k1.andThen (looks_subIn KI cc.hs)
  have n1 : (false && onTheHeap (Value.builtin "BaseException.__getattribute__")) = false := rfl
  have n2 : (onTheHeap (Value.ref D) && Value.builtin "BaseException.__getattribute__" == Value.builtin "object.__getattribute__") = false := by
    rw [show (Value.builtin "BaseException.__getattribute__" == Value.builtin "object.__getattribute__") = false by decide +kernel]
    rfl
  unfold getAttr? getAttrBy? getAttrBy
  refine wpAny_bind (wpAny_mkText (wpAny_bind (wpAny_attempt (wpAny_holding (wpAny_bind (k1.at (wpAny_bind (k2.at ?_))))))))
  show wpAny _ _ (if (onTheHeap (Value.ref D) && Value.builtin "BaseException.__getattribute__" == Value.builtin "object.__getattribute__") = true then _ else _) _ _ _
  rw [n2, if_neg Bool.false_ne_true]
  unfold getAttrByItsOwn hookBefore
  refine wpAny_bind ?_
  rw [if_pos (show onTheHeap (Value.ref D) = true from rfl)]
  refine k3.at (wpAny_bind (wpAny_attempt (wpAny_holding ?_)))
  unfold callGetattribute
  rw [n1, if_neg Bool.false_ne_true]
  unfold boundAndCalled
  rw [PySem.F.excAttr_ValueError.ga.bind (.ref e)]
  refine wpAny_bind (wpAny_pure ?_)
  show wpAny _ _ (call (.builtin "BaseException.__getattribute__") [.ref e, .str "__class__" tk]) _ _ _
  refine wpAny_call (codeAny_call_builtin PySem.F.excAttr_ValueError.ga.plain PySem.F.entry_bexc_ga ?_)
  refine @check_slot (model prog w) _ _ ⟨hp, gs, dr, tk + 1, osx⟩ "BaseException.__getattribute__" "BaseException" "__getattribute__" (.ref e) [.str "__class__" tk] [] _ (by decide +kernel) (by decide +kernel) isB (PySem.F.args_bexc_ga (.ref e) (.str "__class__" tk)) ?_
  unfold Builtin.«object.__getattribute__»
  refine wpAny_bind (wpAny_of_eq (a := ((Value.ref e : Value), [Value.str "__class__" tk])) (by first | rfl | (simp only [slotArgs]; rfl)) ?_)
  refine wpAny_bind (wpAny_pure (wpAny_bind (k1.at (wpAny_bind (k4.at ?_)))))
  show wpAny _ _ (holding [Value.builtin "object.__class__"] (call (.builtin "getset_descriptor.__get__") [.builtin "object.__class__", .ref e, .ref D]) >>= ret) _ _ _
  refine wpAny_bind (wpAny_holding (wpAny_call (class_get (s := ⟨hp, gs, dr, tk + 1, osx⟩) (ox := oe) (od := own) KI J cc.hm ?_)))
  refine wpAny_pure ?_
  show wpAny _ _ (handedOut (.ref D)) _ _ _
  rw [handedOut_of (v := .ref D) rfl]
  first
    | exact wpAny_pure (wpAny_pure q)
    | exact wpAny_pure q
    | exact wpAny_pure (wpAny_bind (wpAny_pure (wpAny_pure q)))
open PySem.W in
theorem kit_err {K : PySem.W.Frag} {e D : Addr} {oe : Obj} {own : Option Obj} (cc : L2.ExcC K D) : KitX K (.ref e) (.ref D) (fun h => InstAt h e oe D own) where
  ty := fun _ _ _ J => J.type
  it := fun _ _ KI _ => by
    obtain ⟨cd, e0, _⟩ := any_some cc.hd
    unfold clsIn at e0
    split at e0
    · rename_i _ _ _ _ at0
      intro _ _ _ _ kk qq
      unfold isType loadHead
      exact wpAny_bind (wpAny_loadPart (kk _ _ (KI _ _ at0)) (wpAny_pure qq))
    · cases e0
  ne := fun h tp dd its n sl KI htp => by
    obtain ⟨cd, e0, _⟩ := any_some cc.hd
    refine Bool.eq_false_iff.mpr fun z => ?_
    have same : D = tp := Value.ref.inj (beq_iff_eq.mp z)
    subst same
    unfold clsIn at e0
    split at e0
    · rename_i _ _ _ _ at0
      have z2 := (KI _ _ at0).symm.trans htp
      cases z2
    · cases e0
  ca := fun KI J kk => class_of_err cc KI J kk
def rIsErr (K : PySem.W.Frag) (D a : Addr) (cls : Value) (d : Option Addr) : List V → Hp → VK → Prop := fun xs H Q => ∃ (c : V) (cv : Value) (b : Bool), xs = [.ref a, c] ∧ cls = .ref D ∧ ClsV c cv ∧ PySem.W.kitOne K (.ref D) cv = some b ∧
  (d = none ∨ ∃ dd fs, d = some dd ∧ H dd = some (.xd fs)) ∧ Q (.bl b) H
theorem call_isErr {X : Cx} {a D : Addr} {oe : Obj} {cls : Value} {d : Option Addr} {pn : List (Addr × Obj)} (cc : ExcC X.K D) (hz : Zc cls d oe) (hf : ∃ vs, oe.data = .fields vs) : CallR (X.suite a ((a, oe) :: pn)) (.builtin "isinstance") (rIsErr X.K D a cls d) := by
  intro pins s σ H xs us Q I r h
  obtain ⟨c, cv, b, rfl, rfl, hcv, e, hd, q⟩ := h
  obtain ⟨u1, u2, rfl, r1, r2⟩ := vals2 r
  cases (show u1 = Value.ref a from r1)
  have e2 := hcv.eq r2
  subst e2
  obtain ⟨at0, _⟩ := I.pin (a, oe) (List.mem_append.mpr (.inl List.mem_cons_self))
  obtain ⟨vs, hv⟩ := hf
  have J : ∃ own, PySem.W.InstAt s.heap a oe D own := by
    rcases hd with rfl | ⟨dd, fs, rfl, hx⟩
    · exact ⟨none, at0, hz.1, by unfold PySem.W.notCls; rw [hv] <;> rfl, by rw [hz.2]; exact True.intro⟩
    · have hx2 : ObjOk X.prog X.w H s.heap dd (.xd fs) := I.hok dd _ hx
      obtain ⟨mA, hns, hr⟩ := hx2
      obtain ⟨od, ho, hl⟩ := lookIn_ns hns
      exact ⟨some od, at0, hz.1, by unfold PySem.W.notCls; rw [hv] <;> rfl, by rw [hz.2]; exact ho⟩
  obtain ⟨own, J⟩ := J
  exact PySem.W.kia_one (kit_err cc) I.kIn J e (fun z => nomatch z) fun tk => ⟨.bl b, H, I.kept (t' := tk) fun _ _ z => z, rfl, q⟩

/-! ### data of any depth -/
def tyN : PyData → String
  | .none => "NoneType" | .bool _ => "bool" | .int _ => "int" | .str _ => "str" | .list _ => "list" | .tuple _ => "tuple" | .dict _ => "dict"
theorem dp_ty {K : PySem.W.Frag} {H : Hp} {v : V} {d : PyData} (h : Dp K H v d) : TyX K H v (.type (tyN d)) := by
  cases h with
  | non => exact .base .non
  | bl b => exact .base (.bl b)
  | int i => exact .base (.int i)
  | str x => exact .base (.str x)
  | lst hs _ =>
    rcases hs with (h | ⟨o, h⟩) | ⟨o, its, n, e, c, _⟩
    · exact .base (.lst h)
    · exact .base (.frz h)
    · exact .kList e c
  | tup hs _ =>
    rcases hs with (h | ⟨o, h⟩) | ⟨o, its, n, e, c, _⟩
    · exact .base (.tup h)
    · exact .fTuple h
    · exact .kTuple e c
theorem cr_isi {X : Cx} {K : PySem.W.Frag} (h : X.K = K) : CallR X (.builtin "isinstance") (rIsi K) := by
  subst h
  exact call_isi
theorem cr_isiT {X : Cx} {K : PySem.W.Frag} (h : X.K = K) : CallR X (.builtin "isinstance") (rIsiT K) := by
  subst h
  exact call_isiT
theorem pg_tupK {X : Cx} {K : PySem.W.Frag} {es : List Expr} {k n : Nat} {pos : Pos} {t : TGs} (hK : X.K = K) (hc : X.calm = true) (h : PGs X es t) (hn : (assignEach es X.env).length = n) (hst : (assignEach es X.env).findIdx? (·.1) = none) : PG X (.Tuple es k pos) (gTup K n t) := by
  subst hK
  exact pg_tup hc h hn hst
theorem walk_zipT {K : PySem.W.Frag} {a b : Addr} {xs ys : List V} {n : Nat} (ex : n = xs.length) (ey : n = ys.length) : Walk (RZ.ItzT K a b) n (fun H => SqT K H a xs ∧ SqT K H b ys) (YPair (fun i => xs[i]?) (fun i => ys[i]?)) where
  goes := fun i _ hi q => ⟨xs, ys, xs[i]'(by omega), ys[i]'(by omega), q.1, q.2, List.getElem?_eq_getElem _, List.getElem?_eq_getElem _⟩
  stops := fun _ q => ⟨xs, ys, q.1, q.2, by omega⟩
  yields := fun i H v H' _ q y => by
    obtain ⟨T, x, z, h1, h2, h3, h4, h5⟩ := y
    exact ⟨T, x, z, h1, h2, h3, h4 xs q.1, h5 ys q.2⟩
theorem isi_of {K : PySem.W.Frag} {H : Hp} {v : V} {d : PyData} {T : String} {r : Bool} {Q : VK} (h : Dp K H v d) (e : kitB (tyN d) T = some r) (q : Q (.bl r) H) : rIsi K [v, .ty T] H Q :=
  ⟨v, .ty T, _, _, r, rfl, .ty T, dp_ty h, kit_ty e, q⟩
def isInt : PyData → Bool | .int _ => true | .bool _ => true | _ => false
def isBool : PyData → Bool | .bool _ => true | _ => false
def isTup : PyData → Bool | .tuple _ => true | _ => false
def isLst : PyData → Bool | .list _ => true | _ => false
def isStr : PyData → Bool | .str _ => true | _ => false
theorem kb_int (d : PyData) : kitB (tyN d) "int" = some (isInt d) := by cases d <;> (dsimp only [tyN, isInt]; decide +kernel)
theorem kb_bool (d : PyData) : kitB (tyN d) "bool" = some (isBool d) := by cases d <;> (dsimp only [tyN, isBool]; decide +kernel)
theorem kb_tup (d : PyData) : kitB (tyN d) "tuple" = some (isTup d) := by cases d <;> (dsimp only [tyN, isTup]; decide +kernel)
theorem kb_lst (d : PyData) : kitB (tyN d) "list" = some (isLst d) := by cases d <;> (dsimp only [tyN, isLst]; decide +kernel)
theorem kb_str (d : PyData) : kitB (tyN d) "str" = some (isStr d) := by cases d <;> (dsimp only [tyN, isStr]; decide +kernel)
theorem same_seqT {K : PySem.W.Frag} {H H' : Hp} {a : Addr} {xs : List V} (e : Same H H') (h : SqT K H a xs) : SqT K H' a xs := by
  rcases h with (h | ⟨o, h⟩) | h
  · exact .inl (.inl (e _ _ h))
  · exact .inl (.inr ⟨o, e _ _ h⟩)
  · exact .inr h
mutual
theorem dp_same {K : PySem.W.Frag} {H H' : Hp} (s : Same H H') : ∀ (d : PyData) (v : V), Dp K H v d → Dp K H' v d
  | .none, _, h => by cases h; exact .non
  | .bool b, _, h => by cases h; exact .bl b
  | .int i, _, h => by cases h; exact .int i
  | .str x, _, h => by cases h; exact .str x
  | .list ds, _, h => by
    cases h with
    | lst hs ha => exact .lst (s.seq hs) (dps_same s ds _ ha)
  | .tuple ds, _, h => by
    cases h with
    | tup hs ha => exact .tup (same_seqT s hs) (dps_same s ds _ ha)
  | .dict _, _, h => by cases h
theorem dps_same {K : PySem.W.Frag} {H H' : Hp} (s : Same H H') : ∀ (ds : List PyData) (vs : List V), DpAll K H vs ds → DpAll K H' vs ds
  | [], _, h => by cases h; exact .nil
  | d :: ds, _, h => by
    cases h with
    | cons h1 h2 => exact .cons (dp_same s d _ h1) (dps_same s ds _ h2)
end
theorem dps_len {K : PySem.W.Frag} {H : Hp} : ∀ {vs : List V} {ds : List PyData}, DpAll K H vs ds → vs.length = ds.length
  | _, _, .nil => rfl
  | _, _, .cons _ t => congrArg (· + 1) (dps_len t)
theorem dps_get {K : PySem.W.Frag} {H : Hp} : ∀ {vs : List V} {ds : List PyData} {i : Nat} {v : V}, DpAll K H vs ds → vs[i]? = some v → ∃ d, ds[i]? = some d ∧ Dp K H v d
  | [], _, i, v, _, h => by simp at h
  | x :: vs, ds, 0, v, a, h => by
    cases a with
    | cons h1 t =>
      have e : x = v := Option.some.inj h
      rw [← e]
      exact ⟨_, rfl, h1⟩
  | x :: vs, ds, i + 1, v, a, h => by
    cases a with
    | cons h1 t => exact dps_get (i := i) t h
/-- the ratio that a value is; the number that it stands for -/
def intOf : PyData → Option Int | .int i => some i | _ => none
def rat2 : List PyData → Option (Int × Int)
  | [a, b] => (match intOf a with
    | some t => (match intOf b with
      | some m => if 1 ≤ m ∧ Int.gcd t m = 1 then some (t, m) else none
      | none => none)
    | none => none)
  | _ => none
def ratOf : PyData → Option (Int × Int)
  | .tuple ds => rat2 ds
  | _ => none
def numOf : PyData → Option (Int × Int)
  | .int i => some (i, 1)
  | d => ratOf d
def isRat (d : PyData) : Bool := (ratOf d).isSome
def wholeD : PyData → Bool | .int _ => true | _ => false
def rat (t m : Int) : PyData := .tuple [.int t, .int m]
theorem dp_rat {K : PySem.W.Frag} {H : Hp} {p : Addr} {t m : Int} (h : H p = some (.tup [.int t, .int m])) : Dp K H (.ref p) (rat t m) := .tup (SqT.of h) (.cons (.int t) (.cons (.int m) .nil))
def spD (K : PySem.W.Frag) (f : PyData → Bool) : Sp := fun vs H Q _ => ∃ (v : V) (d : PyData), vs = [v] ∧ Dp K H v d ∧ ∀ H', Same H H' → Q (.bl (f d)) H'
theorem Kn.mono {P : Program} {w : World} {K : PySem.W.Frag} {mg : Str → Option Value} {base : Heap} {cx : CXT} {x : Str} {j k : Nat} {ps : List Str} {sp : Sp} (h : Kn P w K mg base cx x j ps sp) (l : j ≤ k) : Kn P w K mg base cx x k ps sp := by
  obtain ⟨f, fd, F, a, b, c⟩ := h
  exact ⟨f, fd, F.mono l, a, b, c⟩

/-! ### the program's ratios -/
def CDivWN (_ j : Int) : Prop := j ≠ 0 ∧ j.natAbs.log2 < 9000
theorem op_fdivWN {X : Cx} : OpR X (binaryOp .FloorDiv) (rI CDivWN fun i j => .int (i.fdiv j)) := opI fun _ _ _ _ _ _ _ hc q => PyProof.Rows.floordiv_int hc.1 q (.inl (PyProof.noPylong_of_log2 hc.2))
/-- X() of an own exception class without __init__ -/
theorem pmk_own0 {X : Cx} {C : Addr} {bmB : List Value} {B newId initId : String} {x : Str} {p pos : Pos} (F : ExcBaseFacts B newId initId bmB) (xP : PySem.W.excIn X.K C bmB newId = true) (gP : X.mg x = some (.ref C))
    (kP : PySem.W.keepIn X.K (.ref C) = true) (rP : Raises X (.ref C)) (hg : Gl X x) (hdb : (x == ("__debug__" : Str)) = false := by decide) : PMk X (.Call (.Name x p) [] [] pos) (fun _ H Q => Q (.ref C) none H) := by
  intro pins s σ H Q I want
  refine wpAny_Call_Name_kw (ld_glob I hg gP ?_ hdb)
  refine PySem.W.callWith_K0 I.kIn kP ?_
  show wpAny _ _ (call (.ref C) []) _ _ _
  obtain ⟨bm, N, nm, qn, bs, hdct, sn, sub, ab, col, dd, k0, k1, k2, k3, k5, mN, at0, hN, hni, T⟩ := exc_obj I.kIn xP
  refine wpAny_call_exc_subT F T at0 hN hni (fun h' e made => ?_) (Nat.zero_le _)
  exact mk_of I made rP want (I.hok.gone made.new)
/-- an error class with one field: what is known of it -/
def spErrInit (C : Addr) (fld : Str) : Sp := fun vs H Q _ => ∃ (e : Addr) (v : V), vs = [.ref e, v] ∧ H e = some (exo e C none) ∧ ∀ dx, H dx = none → dx ≠ e → Q .non (upd (upd H dx (exd dx [(fld, v)])) e (exo e C (some dx)))
structure ErrF (P : Program) (w : World) (K : PySem.W.Frag) (mg : Str → Option Value) (base : Heap) (x fld : Str) (C : Addr) : Prop where
  gC : mg x = some (.ref C)
  ox : OexC K C
  xf : XfC K C
  no : PySem.W.findIn K (.ref C) fld = some none
  ec : ExcC K C
  ex : PySem.W.exmOne K (.ref C) (.ref C) = some true
  ini : ∃ fI fdI, PySem.W.findIn K (.ref C) "__init__" = some (some (.ref fI)) ∧ PySem.W.typeIn K (.ref fI) = some (.type "function") ∧ FnOk P w K mg base CX0 1 fI fdI ["self", fld] (spErrInit C fld) ∧ Binds K fdI ["self", fld] []
/-- an error class without fields -/
structure ErrZ (K : PySem.W.Frag) (mg : Str → Option Value) (x : Str) (C : Addr) : Prop where
  gP : mg x = some (.ref C)
  xP : PySem.W.excIn K C [.type "ValueError", .type "Exception", .type "BaseException", .type "object"] "ValueError.__new__" = true
  kP : PySem.W.keepIn K (.ref C) = true
  bP : PySem.W.subIn K (.ref C) (.type "BaseException") = some true
  tP : PySem.W.typeIn K (.ref C) = some (.type "type")
  ec : ExcC K C
  ex : PySem.W.exmOne K (.ref C) (.ref C) = some true
/-- a def with one default, 1 -/
def Df1 (K : PySem.W.Frag) (mg : Str → Option Value) (x : Str) (st : Stmt) (ps : List Str) : Prop :=
  ∃ f fd, FunD K x x (defArgs st) (defBody st) (defScope st) [.int 1] [] f fd ∧ mg x = some (.ref f) ∧ Binds K fd ps [] ∧ ∃ ds, Vals [.int 1] ds ∧ Binds K fd ps ds
def Kn1 (P : Program) (w : World) (K : PySem.W.Frag) (mg : Str → Option Value) (base : Heap) (cx : CXT) (x : Str) (k : Nat) (ps : List Str) (sp : Sp) : Prop :=
  ∃ f fd, FnOk P w K mg base cx k f fd ps sp ∧ mg x = some (.ref f) ∧ PySem.W.keepIn K (.ref f) = true ∧ Binds K fd ps [] ∧ ∃ ds, Vals [.int 1] ds ∧ Binds K fd ps ds
def spAsRatio (K : PySem.W.Frag) (C : Addr) : Sp := fun vs H Q E => ∃ (v : V) (d : PyData), vs = [v] ∧ Dp K H v d ∧ (∀ t m r H', numOf d = some (t, m) → Same H H' → Dp K H' r (rat t m) → Q r H') ∧
  (numOf d = none → ∀ dx H', Same H H' → H' dx = some (.xd [("value", v)]) → E (.ref C) (some dx) H')
/-- top / bottom in lowest terms -/
def nt (t m : Int) : Int := (if m < 0 then -t else t) / (Int.gcd t m : Int)
def nb (t m : Int) : Int := (m.natAbs : Int) / (Int.gcd t m : Int)
theorem gcd_pos {t m : Int} (h : m ≠ 0) : 0 < (Int.gcd t m : Int) := by
  have := Int.gcd_pos_of_ne_zero_right t h
  omega
theorem gcd_le {t m : Int} (h : m ≠ 0) : Int.gcd t m ≤ m.natAbs := Nat.le_of_dvd (by omega) (Nat.gcd_dvd_right t.natAbs m.natAbs)
theorem gcd_log {t m : Int} (h : m ≠ 0) (hB : m.natAbs < 2 ^ 8000) : (Int.gcd t m : Int).natAbs.log2 < 9000 :=
  Nat.lt_trans (PySem.Flt.log2_lt_of (by decide) (show (Int.gcd t m : Int).natAbs < 2 ^ 8000 from Nat.lt_of_le_of_lt (gcd_le h) hB)) (by decide)
theorem nt_pos {t m : Int} (h : ¬ m < 0) (g : 0 < (Int.gcd t m : Int)) : t.fdiv (Int.gcd t m : Int) = nt t m := by
  unfold nt
  rw [if_neg h, Int.fdiv_eq_ediv_of_nonneg _ (by omega)]
theorem nb_pos {t m : Int} (h : ¬ m < 0) (g : 0 < (Int.gcd t m : Int)) : m.fdiv (Int.gcd t m : Int) = nb t m := by
  unfold nb
  rw [Int.fdiv_eq_ediv_of_nonneg _ (by omega), show (m.natAbs : Int) = m by omega]
theorem nt_neg {t m : Int} (h : m < 0) (g : 0 < (Int.gcd t m : Int)) : t.fdiv (-(Int.gcd t m : Int)) = nt t m := by
  unfold nt
  rw [if_pos h, ← Int.fdiv_eq_ediv_of_nonneg _ (by omega), ← Int.neg_fdiv_neg, Int.neg_neg]
theorem nb_neg {t m : Int} (h : m < 0) (g : 0 < (Int.gcd t m : Int)) : m.fdiv (-(Int.gcd t m : Int)) = nb t m := by
  unfold nb
  rw [show (m.natAbs : Int) = -m by omega, ← Int.fdiv_eq_ediv_of_nonneg _ (by omega), ← Int.neg_fdiv_neg, Int.neg_neg]
def spRatio (C : Addr) : Sp := fun vs H Q E => ∃ t m : Int, vs = [.int t, .int m] ∧ (m ≠ 0 → (Int.gcd t m : Int).natAbs.log2 < 9000) ∧ (m ≠ 0 → ∀ p H', Same H H' → H' p = some (.tup [.int (nt t m), .int (nb t m)]) → Q (.ref p) H') ∧ (m = 0 → E (.ref C) none H)
theorem ratOf_is {d : PyData} {z : Int × Int} (h : ratOf d = some z) : d = rat z.1 z.2 := by
  unfold ratOf at h
  split at h
  · unfold rat2 at h
    split at h
    · rename_i a b
      cases a <;> first | cases h | skip
      cases b <;> first | cases h | skip
      rename_i x y
      simp only [intOf] at h
      split at h
      · cases h
        rfl
      · cases h
    · cases h
  · cases h
structure Gt (mg : Str → Option Value) : Prop where
  g_gcd : mg "gcd" = some (.builtin "math.gcd")
section
variable {P : Program} {w : World} {K : PySem.W.Frag} {mg : Str → Option Value} {base : Heap}
theorem ok_is_whole (T : Bt mg) (D : Df K mg "is_whole" s_is_whole ["value"]) : Kn P w K mg base CX0 "is_whole" 1 ["value"] (spD K wholeD) := by
  obtain ⟨f, fd, F, hm, hb⟩ := D
  refine ⟨f, fd, F.ok sc_is_whole (fun vs H Q E h => ?_) (fun cdv A outer s H vs Q E hr h => ?_), hm, F.kp, hb⟩
  · obtain ⟨v, d, rfl, _⟩ := h
    rfl
  · obtain ⟨v, d, rfl, hd, q⟩ := h
    refine ⟨_, (pss_one (ps_ret (pe_and (pe_callB (cr_isi (K := K) rfl) (by rfl) T.n_isinstance (by decide +kernel) (pa_cons (pv 0) (pa_cons (pe_bltn (v := .ty "int") (by rfl) T.n_int (by decide +kernel) rfl) pa_nil))) (pe_one (pe_not (pe_callB (cr_isi (K := K) rfl) (by rfl) T.n_isinstance (by decide +kernel) (pa_cons (pv 0) (pa_cons (pe_bltn (v := .ty "bool") (by rfl) T.n_bool (by decide +kernel) rfl) pa_nil)))))))), ?_⟩
    have q0 := q H (Same.refl H)
    refine ⟨_, rfl, _, _, _, _, _, rfl, .ty _, dp_ty hd, kit_ty (kb_int d), _, rfl, ?_⟩
    refine ite2 (fun c => ?_) (fun c => ?_)
    · refine ⟨_, rfl, _, _, _, _, _, rfl, .ty _, dp_ty hd, kit_ty (kb_bool d), _, rfl, ?_⟩
      have e : (!isBool d) = wholeD d := by cases d <;> first | rfl | cases c
      rw [e]
      exact q0
    · have e : false = wholeD d := by cases d <;> first | rfl | exact absurd rfl c
      rw [e]
      exact q0
theorem ok_is_ratio (T : Bt mg) (Tg : Gt mg) (GW : Kn P w K mg base CX0 "is_whole" 1 ["value"] (spD K wholeD)) (D : Df K mg "is_ratio" s_is_ratio ["value"]) : Kn P w K mg base CX0 "is_ratio" 2 ["value"] (spD K isRat) := by
  obtain ⟨f, fd, F, hm, hb⟩ := D
  obtain ⟨f_is_whole, fd_is_whole, G_is_whole, m_is_whole, k_is_whole, b_is_whole⟩ := GW
  refine ⟨f, fd, F.ok sc_is_ratio (fun vs H Q E h => ?_) (fun cdv A outer s H vs Q E hr h => ?_), hm, F.kp, hb⟩
  · obtain ⟨v, d, rfl, _⟩ := h
    rfl
  · obtain ⟨v, d, rfl, hd, q⟩ := h
    refine ⟨_, (pss_cons (ps_if (PW.pt (pw_or (pt_not (pt_val (pe_callB (cr_isi (K := K) rfl) (by rfl) T.n_isinstance (by decide +kernel) (pa_cons (pv 0) (pa_cons (pe_bltn (v := .ty "tuple") (by rfl) T.n_tuple (by decide +kernel) rfl) pa_nil))))) (pw_or1 (pt_cmpR op_ne (pe_callB call_len_seq (by rfl) T.n_len (by decide +kernel) (pa_cons (pv 0) pa_nil)) pe_int (nomark _))))) (pss_one (ps_ret pe_bl)) pss_nil)
      (pss_cons (ps_asg (pv 0) (pg_tup (by rfl) (pgs_cons (pg_name (i := 1) sc_is_ratio.nd rfl (Or.inl rfl)) (pgs_cons (pg_name (i := 2) sc_is_ratio.nd rfl (Or.inl rfl)) pgs_nil))))
      (pss_cons (ps_if (PW.pt (pw_or (pt_not (pt_val (pe_call G_is_whole (hr.mono (by omega)) rfl m_is_whole k_is_whole b_is_whole .nil pass0 (pa_cons (pv 1) pa_nil)))) (pw_or (pt_not (pt_val (pe_call G_is_whole (hr.mono (by omega)) rfl m_is_whole k_is_whole b_is_whole .nil pass0 (pa_cons (pv 2) pa_nil)))) (pw_or1 (pt_cmpR op_lt (pv 2) pe_int (nomark _)))))) (pss_one (ps_ret pe_bl)) pss_nil)
      (pss_one (ps_ret (pe_cmpR op_eq (pe_callBfun cr_gcd rfl Tg.g_gcd (pa_cons (pv 1) (pa_cons (pv 2) pa_nil))) pe_int (nomark _))))))), ?_⟩
    refine ⟨_, rfl, _, _, _, _, _, rfl, .ty _, dp_ty hd, kit_ty (kb_tup d), _, rfl, ?_⟩
    refine ite2 (fun c => ?_) (fun c => ?_)
    · have e : isRat d = false := by cases d <;> first | rfl | cases c
      have q0 := q H (Same.refl H)
      rw [e] at q0
      exact q0
    · obtain ⟨ds, rfl⟩ : ∃ ds, d = .tuple ds := by cases d <;> first | exact ⟨_, rfl⟩ | exact absurd rfl c
      cases hd with
      | @tup a xs _ hs ha =>
        have hl := dps_len ha
        refine ⟨_, rfl, a, _, rfl, .inr hs, rfl, _, rfl, ?_⟩
        refine ite2 (fun c2 => ?_) (fun c2 => ?_)
        · have e : isRat (.tuple ds) = false := by
            match ds, xs, hl, c2 with
            | [], _, _, _ => rfl
            | [_], _, _, _ => rfl
            | [_, _], xs, hl, c2 =>
              have hl2 : xs.length = 2 := hl
              rw [hl2] at c2
              exact absurd c2 (by decide)
            | _ :: _ :: _ :: _, _, _, _ => rfl
          have q0 := q H (Same.refl H)
          rw [e] at q0
          exact q0
        · have h2 : xs.length = 2 := by
            by_cases z : (xs.length : Int) = 2
            · omega
            · exact absurd (by simp [z]) c2
          obtain ⟨d1, d2, rfl⟩ : ∃ d1 d2, ds = [d1, d2] := by
            rw [h2] at hl
            match ds, hl with
            | [d1, d2], _ => exact ⟨d1, d2, rfl⟩
          cases ha with
          | @cons x1 _ _ _ h1 ha =>
            cases ha with
            | @cons x2 _ _ _ hx2 ha =>
              cases ha
              refine ⟨_, rfl, a, _, rfl, hs, rfl, x1, _, rfl, x2, _, rfl, rfl, ?_⟩
              refine ⟨_, rfl, x1, d1, rfl, h1, fun H1 s1 => ⟨_, rfl, ?_⟩⟩
              refine ite2 (fun c3 => ?_) (fun c3 => ?_)
              · have e : isRat (.tuple [d1, d2]) = false := by cases d1 <;> first | rfl | cases c3
                have q0 := q H1 s1
                rw [e] at q0
                exact q0
              · obtain ⟨t, rfl⟩ : ∃ t, d1 = .int t := by cases d1 <;> first | exact ⟨_, rfl⟩ | exact absurd rfl c3
                refine ⟨_, rfl, x2, d2, rfl, dp_same s1 _ _ hx2, fun H2 s2 => ⟨_, rfl, ?_⟩⟩
                refine ite2 (fun c4 => ?_) (fun c4 => ?_)
                · have e : isRat (.tuple [.int t, d2]) = false := by cases d2 <;> first | rfl | cases c4
                  have q0 := q H2 (s1.trans s2)
                  rw [e] at q0
                  exact q0
                · obtain ⟨m, rfl⟩ : ∃ m, d2 = .int m := by cases d2 <;> first | exact ⟨_, rfl⟩ | exact absurd rfl c4
                  cases h1
                  cases hx2
                  refine ⟨_, rfl, _, _, rfl, rfl, _, rfl, ?_⟩
                  refine ite2 (fun c5 => ?_) (fun c5 => ?_)
                  · have c6 : m < 1 := of_decide_eq_true c5
                    have e : isRat (.tuple [.int t, .int m]) = false := by
                      show (if 1 ≤ m ∧ Int.gcd t m = 1 then some (t, m) else none).isSome = false
                      rw [if_neg (by omega)]
                      rfl
                    have q0 := q H2 (s1.trans s2)
                    rw [e] at q0
                    exact q0
                  · have c6 : ¬ m < 1 := of_decide_eq_false (Bool.eq_false_iff.mpr c5)
                    refine ⟨_, rfl, _, rfl, _, _, rfl, rfl, ?_⟩
                    have e : isRat (.tuple [.int t, .int m]) = decide ((V.int ((Nat.gcd t.natAbs m.natAbs : Nat) : Int)) = V.int 1) := by
                      show (if 1 ≤ m ∧ Int.gcd t m = 1 then some (t, m) else none).isSome = _
                      have g : Int.gcd t m = Nat.gcd t.natAbs m.natAbs := rfl
                      rw [g]
                      by_cases z : Nat.gcd t.natAbs m.natAbs = 1
                      · rw [if_pos ⟨by omega, z⟩, z]
                        rfl
                      · rw [if_neg (fun y => z y.2)]
                        symm
                        apply decide_eq_false
                        intro y
                        injection y with y
                        omega
                    have q0 := q H2 (s1.trans s2)
                    rw [e] at q0
                    exact q0
theorem ok_errinit {x : Str} {C f : Addr} {fd : FuncData} (F : Fun K "__init__" x s_InvalidNumber_init f fd) (ox : OexC K C) (no : PySem.W.findIn K (.ref C) "value" = some none) : FnOk P w K mg base CX0 1 f fd ["self", "value"] (spErrInit C "value") := by
  refine F.ok sc_InvalidNumber_init (fun vs H Q E h => ?_) (fun cdv A outer s H vs Q E hr h => ?_)
  · obtain ⟨e, v, rfl, _⟩ := h
    rfl
  · obtain ⟨e, v, rfl, he, q⟩ := h
    refine ⟨_, pss_one (ps_ost (pv 0) (pv 1)), ?_⟩
    exact ⟨_, rfl, _, rfl, e, C, rfl, ox, no, .inl ⟨he, fun dx h1 h2 => q dx h1 h2⟩⟩
theorem ok_as_ratio {C : Addr} (T : Bt mg) (Ti : ErrF P w K mg base "InvalidNumber" "value" C) (GW : Kn P w K mg base CX0 "is_whole" 1 ["value"] (spD K wholeD)) (GR : Kn P w K mg base CX0 "is_ratio" 2 ["value"] (spD K isRat)) (D : Df K mg "as_ratio" s_as_ratio ["value"]) :
    Kn P w K mg base (L2.CX P w) "as_ratio" 3 ["value"] (spAsRatio K C) := by
  obtain ⟨f, fd, F, hm, hb⟩ := D
  obtain ⟨f_is_whole, fd_is_whole, G_is_whole, m_is_whole, k_is_whole, b_is_whole⟩ := GW
  obtain ⟨f_is_ratio, fd_is_ratio, G_is_ratio, m_is_ratio, k_is_ratio, b_is_ratio⟩ := GR
  obtain ⟨fI, fdI, iC, tI, F1, b1⟩ := Ti.ini
  refine ⟨f, fd, F.okX sc_as_ratio (fun vs H Q E h => ?_) (fun cdv A outer s H vs Q E hr h => ?_), hm, F.kp, hb⟩
  · obtain ⟨v, d, rfl, _⟩ := h
    rfl
  · obtain ⟨v, d, rfl, hd, q1, q2⟩ := h
    refine ⟨_, (pss_cons (ps_if (pt_val (pe_call G_is_whole (hr.mono (by omega)) rfl m_is_whole k_is_whole b_is_whole .nil pass0 (pa_cons (pv 0) pa_nil))) (pss_one (ps_ret (pe_tup (pa_cons (pv 0) (pa_cons pe_int pa_nil))))) pss_nil)
      (pss_cons (ps_if (pt_not (pt_val (pe_call G_is_ratio (hr.mono (by omega)) rfl m_is_ratio k_is_ratio b_is_ratio .nil pass0 (pa_cons (pv 0) pa_nil)))) (pss_one (ps_raise rfl (takes_of rfl rfl rfl rfl) (pmk_oex Ti.ox iC tI F1 (hr.mono (by omega)) b1 .nil pass0 rfl Ti.gC (pa_cons (pv 0) pa_nil)))) pss_nil)
      (pss_one (ps_ret (pv 0))))), ?_⟩
    refine ⟨_, rfl, v, d, rfl, hd, fun H1 s1 => ⟨_, rfl, ?_⟩⟩
    have hd1 := dp_same s1 _ _ hd
    refine ite2 (fun c => ?_) (fun c => ?_)
    · obtain ⟨t, rfl⟩ : ∃ t, d = .int t := by cases d <;> first | exact ⟨_, rfl⟩ | cases c
      cases hd
      refine ⟨_, rfl, (by show 2 ≤ sizeLine; decide), fun p np => ?_⟩
      exact q1 t 1 _ _ rfl (s1.trans (same_new np _)) (dp_rat upd_same)
    · refine ⟨_, rfl, v, d, rfl, hd1, fun H2 s2 => ⟨_, rfl, ?_⟩⟩
      refine ite2 (fun c2 => ?_) (fun c2 => ?_)
      · have e : numOf d = none := by
          cases hr : ratOf d with
          | some z =>
            unfold isRat at c2
            rw [hr] at c2
            cases c2
          | none =>
            cases d <;> first | exact hr | exact absurd rfl c
        refine ⟨_, rfl, (by show 1 ≤ 1000; decide), fun a na => ?_⟩
        refine ⟨a, v, rfl, upd_same, fun dx hdx nx => ⟨rfl, dx, [("value", v)], upd_same, ?_, ?_, ?_⟩⟩
        · rw [upd_ne nx, upd_same]
        · rw [upd_ne nx] at hdx
          exact hdx
        · rw [upd_ne nx] at hdx
          refine q2 e dx _ (s1.trans (s2.trans fun b o hbo => ?_)) upd_same
          have n1 : b ≠ a := ne_of_none hbo na
          have n2 : b ≠ dx := ne_of_none hbo hdx
          rw [upd_ne n2, del_ne n1, upd_ne n1, upd_ne n2, upd_ne n1]
          exact hbo
      · refine ⟨_, rfl, ?_⟩
        obtain ⟨t, m, hr, rfl⟩ : ∃ t m, ratOf d = some (t, m) ∧ d = rat t m := by
          cases hr : ratOf d with
          | none =>
            unfold isRat at c2
            rw [hr] at c2
            exact absurd rfl c2
          | some z => exact ⟨z.1, z.2, rfl, ratOf_is hr⟩
        exact q1 t m _ _ hr (s1.trans s2) (dp_same s2 _ _ hd1)
end

section
variable {P : Program} {w : World} {K : PySem.W.Frag} {mg : Str → Option Value} {base : Heap}
theorem ok_ratio {C : Addr} (T : Bt mg) (Tg : Gt mg) (Tz : ErrZ K mg "ZeroBottom" C) (D : Df1 K mg "ratio" s_ratio ["top", "bottom"]) : Kn1 P w K mg base (L2.CX P w) "ratio" 1 ["top", "bottom"] (spRatio C) := by
  obtain ⟨f, fd, F, hm, hb, hb1⟩ := D
  refine ⟨f, fd, F.ok sc_ratio (fun vs H Q E h => ?_) (fun cdv A outer s H vs Q E hr h => ?_), hm, F.kp, hb, hb1⟩
  · obtain ⟨t, m, rfl, _⟩ := h
    rfl
  · obtain ⟨t, m, rfl, hB, q1, q2⟩ := h
    refine ⟨_, (pss_cons (ps_if (pt_cmpR op_eq (pv 1) pe_int (nomark _)) (pss_one (ps_raise rfl (takes_of rfl rfl rfl rfl) (pmk_own0 PySem.F.excBase_ValueError Tz.xP Tz.gP Tz.kP (raises_own Tz.bP Tz.tP) rfl))) pss_nil)
      (pss_cons (ps_set (i := 2) sc_ratio.nd rfl (Or.inl rfl) (pe_callBfun cr_gcd rfl Tg.g_gcd (pa_cons (pv 0) (pa_cons (pv 1) pa_nil))))
      (pss_cons (ps_if (pt_cmpR op_lt (pv 1) pe_int (nomark _)) (pss_one (ps_set (i := 2) sc_ratio.nd rfl (Or.inl rfl) (pe_un un_neg (pv 2)))) pss_nil)
      (pss_one (ps_ret (pe_tup (pa_cons (pe_op op_fdivWN (pv 0) (pv 2)) (pa_cons (pe_op op_fdivWN (pv 1) (pv 2)) pa_nil)))))))), ?_⟩
    refine ⟨_, rfl, rfl, _, rfl, ?_⟩
    refine ite2 (fun c => ?_) (fun c => ?_)
    · have e : m = 0 := by
        have z := of_decide_eq_true c
        injection z
      exact q2 e
    · have e : m ≠ 0 := fun z => c (by rw [z]; rfl)
      refine ⟨_, rfl, _, rfl, _, _, rfl, ?_⟩
      have g0 : (Int.gcd t m : Int) = ((Nat.gcd t.natAbs m.natAbs : Nat) : Int) := rfl
      rw [← g0]
      have gp := gcd_pos (t := t) e
      have gl := hB e
      refine ⟨_, rfl, _, _, rfl, rfl, _, rfl, ?_⟩
      refine ite2 (fun c2 => ?_) (fun c2 => ?_)
      · have c3 : m < 0 := of_decide_eq_true c2
        refine ⟨_, rfl, _, rfl, ?_⟩
        refine ⟨_, rfl, _, rfl, _, _, rfl, rfl, ⟨by omega, by rw [Int.natAbs_neg]; exact gl⟩, _, rfl, _, rfl, _, _, rfl, rfl, ⟨by omega, by rw [Int.natAbs_neg]; exact gl⟩, (by show 2 ≤ sizeLine; decide), fun p np => ?_⟩
        refine q1 e p _ (same_new np _) ?_
        rw [upd_same, ← nt_neg c3 gp, ← nb_neg c3 gp]
      · have c3 : ¬ m < 0 := of_decide_eq_false (Bool.eq_false_iff.mpr c2)
        refine ⟨_, rfl, _, rfl, _, _, rfl, rfl, ⟨by omega, gl⟩, _, rfl, _, rfl, _, _, rfl, rfl, ⟨by omega, gl⟩, (by show 2 ≤ sizeLine; decide), fun p np => ?_⟩
        refine q1 e p _ (same_new np _) ?_
        rw [upd_same, ← nt_pos c3 gp, ← nb_pos c3 gp]
end

/-! ### the law's own draws and checks -/
theorem map_get {ns : List Int} {i : Nat} {x : V} (h : (ns.map V.int)[i]? = some x) : ∃ z, ns[i]? = some z ∧ x = V.int z := by
  rw [List.getElem?_map] at h
  cases e : ns[i]? with
  | none =>
    rw [e] at h
    cases h
  | some z =>
    rw [e] at h
    exact ⟨z, rfl, (Option.some.inj h).symm⟩
theorem take_more {α : Type} : ∀ {l : List α} {i : Nat} {x : α}, l[i]? = some x → l.take (i + 1) = l.take i ++ [x]
  | [], i, x, h => by simp at h
  | a :: l, 0, x, h => by
    have e := Option.some.inj h
    subst e
    rfl
  | a :: l, i + 1, x, h => congrArg (a :: ·) (take_more (l := l) (i := i) h)
theorem same_upd {H H1 : Hp} {D : Addr} {o : HO} (s : Same H H1) (h : H D = none) : Same H (upd H1 D o) := fun b u q => by
  rw [upd_ne (ne_of_none q h)]
  exact s _ _ q
theorem get_lt {α : Type} {l : List α} {i : Nat} {x : α} (h : l[i]? = some x) : i < l.length := (List.getElem?_eq_some_iff.mp h).1
/-- an item of a list at a drawn place -/
theorem at_lt {xs : List V} {r : Int} (h0 : 0 ≤ r) (h1 : r < xs.length) : ∃ v, v ∈ xs ∧ atI xs r = some v := by
  obtain ⟨k, rfl⟩ : ∃ k : Nat, r = (k : Int) := ⟨r.toNat, by omega⟩
  have hk : k < xs.length := by omega
  exact ⟨xs[k], List.getElem_mem hk, atI_nat (List.getElem?_eq_getElem hk)⟩
def mk (b g : Addr) (H : Hp) : Hp := fun a => if a = b ∨ a = g then none else H a
theorem mk_sub (b g : Addr) (H : Hp) : Same (mk b g H) H := fun a o h => by
  unfold mk at h
  split at h
  · cases h
  · exact h
theorem mk_but {b g : Addr} {H H' : Hp} (x : But b g H H') : Same (mk b g H) (mk b g H') := fun a o h => by
  unfold mk at h ⊢
  split at h
  · cases h
  · rename_i z
    rw [if_neg z]
    exact x a o h (fun y => z (.inl y)) (fun y => z (.inr y))
theorem mk_new {H : Hp} {b g c p : Addr} {n : Nat} {o : HO} (B : Box H b g c n) (np : H p = none) : mk b g (upd H p o) p = some o := by
  obtain ⟨gs, cs, cur, m, B, _⟩ := B
  unfold mk
  rw [if_neg (fun y => y.elim (fun e => by rw [e, B.hb] at np; cases np) (fun e => by rw [e, B.hg] at np; cases np)), upd_same]
theorem mk_tup {H : Hp} {b g c p : Addr} {n : Nat} {xs : List V} (B : Box H b g c n) (h : H p = some (.tup xs)) : mk b g H p = some (.tup xs) := by
  obtain ⟨gs, cs, cur, m, B, _⟩ := B
  unfold mk
  rw [if_neg (fun y => y.elim (fun e => by rw [e, B.hb] at h; cases h) (fun e => by rw [e, B.hg] at h; cases h)), h]
theorem But.tup {H H' : Hp} {b g c p : Addr} {n : Nat} {xs : List V} (x : But b g H H') (B : Box H b g c n) (h : H p = some (.tup xs)) : H' p = some (.tup xs) := by
  obtain ⟨gs, cs, cur, m, B, _⟩ := B
  exact x p _ h (fun e => by rw [e, B.hb] at h; cases h) (fun e => by rw [e, B.hg] at h; cases h)
def spLRatio : Sp := fun vs H Q _ => ∃ t m : Int, vs = [.int t, .int m] ∧ m ≠ 0 ∧ m.natAbs < 2 ^ 8000 ∧ ∀ p H', Same H H' → H' p = some (.tup [.int (nt t m), .int (nb t m)]) → Q (.ref p) H'
section
variable {P : Program} {w : World} {K : PySem.W.Frag} {mg : Str → Option Value} {base : Heap}
theorem ok_box (D : Df K mg "_law_box" s_l_box ["_law_script"]) : Kn P w K mg base CX0 "_law_box" 1 ["_law_script"] (spBox K) := by
  obtain ⟨f, fd, F, hm, hb⟩ := D
  refine ⟨f, fd, F.ok sc_l_box (fun vs H Q E h => ?_) (fun cdv A outer s H vs Q E hr h => ?_), hm, F.kp, hb⟩
  · obtain ⟨a, ns, rfl, _⟩ := h
    rfl
  · obtain ⟨a, ns, rfl, hS, hl, q⟩ := h
    refine ⟨_, (pss_cons (ps_setLc (i := 1) (own := [("_law_cell", 2)]) rfl sc_l_box.nd rfl rfl (sw_true rfl rfl rfl (by decide +kernel)) (pi_list (pv 0)) (blkOk_by (N := ["_law_script", "_law_great", "_law_cell"]) (sc := defScope s_l_box) (by decide +kernel)) (fun _ _ _ _ _ => (pg_name (i := 2) sc_l_box.nd rfl (Or.inl rfl))) (fun _ _ _ _ _ => (pts_one (pt_cmpR op_ge (pv 2) (pe_op op_powB pe_int pe_int) (nomark _)))) (fun _ _ _ _ _ => (pv 2)))
      (pss_one (ps_ret (pe_lst (pa_cons (pv 1) (pa_cons pe_int (pa_cons (pe_lc (own := [("_law_cell", 2)]) rfl sc_l_box.nd (pi_list (pv 0)) (blkOk_by (N := ["_law_script", "_law_great", "_law_cell"]) (sc := defScope s_l_box) (by decide +kernel)) (fun _ _ _ _ _ => (pg_name (i := 2) sc_l_box.nd rfl (Or.inl rfl))) (fun _ _ _ _ _ => (pts_one (pt_cmpR op_lt (pv 2) (pe_op op_powB pe_int pe_int) (nomark _)))) (fun _ _ _ _ _ => (pv 2))) (pa_cons pe_int pa_nil)))))))), ?_⟩
    refine ⟨_, rfl, a, rfl, ⟨_, hS⟩, fun D hD => ?_⟩
    refine lc_list (K := K) (a := a) (xs := ns.map V.int) (fun i H' => Same H H' ∧ ∃ acc : List Int, H' D = some (.lst (acc.map V.int)) ∧ acc.length ≤ i) ⟨same_new hD _, [], upd_same, Nat.le_refl _⟩ (fun i H' _ h => h.1.seq hS) ?_ ?_
    · rintro i x H1 hx ⟨s1, acc, hacc, hlen⟩
      obtain ⟨z, hz, rfl⟩ := map_get hx
      have hi := get_lt hz
      refine ⟨rfl, _, rfl, _, _, rfl, rfl, ⟨by decide, by decide +kernel⟩, _, _, rfl, rfl, _, rfl, ?_⟩
      refine ite2 (fun _ => ?_) (fun _ => ?_)
      · refine ⟨_, rfl, _, hacc, (by rw [List.length_map]; exact small1000 (by omega)), same_upd s1 hD, acc ++ [z], (by rw [upd_same, List.map_append]; rfl), by rw [List.length_append]; exact Nat.succ_le_succ hlen⟩
      · exact ⟨s1, acc, hacc, by omega⟩
    · rintro H1 ⟨s1, gs, hg, hgl⟩
      rw [List.length_map] at hgl
      refine ⟨_, rfl, _, rfl, a, rfl, ⟨_, s1.seq hS⟩, fun D2 hD2 => ?_⟩
      refine lc_list (K := K) (a := a) (xs := ns.map V.int) (fun i H' => Same H1 H' ∧ ∃ acc : List Int, H' D2 = some (.lst (acc.map V.int)) ∧ acc.length ≤ i) ⟨same_new hD2 _, [], upd_same, Nat.le_refl _⟩ (fun i H' _ h => (s1.trans h.1).seq hS) ?_ ?_
      · rintro i x H2 hx ⟨s2, acc, hacc, hlen⟩
        obtain ⟨z, hz, rfl⟩ := map_get hx
        have hi := get_lt hz
        refine ⟨rfl, _, rfl, _, _, rfl, rfl, ⟨by decide, by decide +kernel⟩, _, _, rfl, rfl, _, rfl, ?_⟩
        refine ite2 (fun _ => ?_) (fun _ => ?_)
        · refine ⟨_, rfl, _, hacc, (by rw [List.length_map]; exact small1000 (by omega)), same_upd s2 hD2, acc ++ [z], (by rw [upd_same, List.map_append]; rfl), by rw [List.length_append]; exact Nat.succ_le_succ hlen⟩
        · exact ⟨s2, acc, hacc, by omega⟩
      · rintro H2 ⟨s2, cs, hc, hcl⟩
        rw [List.length_map] at hcl
        refine ⟨(by show 4 ≤ sizeLine; decide), fun p np => ?_⟩
        have hg2 := s2 _ _ hg
        have n1 : p ≠ D := (ne_of_none hg2 np).symm
        have n2 : p ≠ D2 := (ne_of_none hc np).symm
        have n3 : D ≠ D2 := ne_of_none hg hD2
        refine q p D D2 _ ⟨gs, cs, 0, 0, ⟨upd_same, by rw [upd_ne n1.symm]; exact hg2, by rw [upd_ne n2.symm]; exact hc, n1, n2, n3, by decide, by omega, by omega⟩, by decide⟩ ((s1.trans s2).trans (same_new np _)) ((s1.trans s2).free np) hD (s1.free hD2)
theorem ok_lratio (GS : Kn P w K mg base CX0 "_law_shared" 1 ["_law_one", "_law_other"] spShared) (D : Df K mg "_law_ratio" s_l_ratio ["_law_top", "_law_bottom"]) : Kn P w K mg base CX0 "_law_ratio" 2 ["_law_top", "_law_bottom"] spLRatio := by
  obtain ⟨f, fd, F, hm, hb⟩ := D
  obtain ⟨f_l_shared, fd_l_shared, G_l_shared, m_l_shared, k_l_shared, b_l_shared⟩ := GS
  refine ⟨f, fd, F.ok sc_l_ratio (fun vs H Q E h => ?_) (fun cdv A outer s H vs Q E hr h => ?_), hm, F.kp, hb⟩
  · obtain ⟨t, m, rfl, _⟩ := h
    rfl
  · obtain ⟨t, m, rfl, h0, hB, q⟩ := h
    refine ⟨_, (C8.pss_cut (ps_if (pt_cmpR op_lt (pv 1) pe_int (nomark _)) (pss_one (ps_par (i := 0) (j := 1) (by rfl) sc_l_ratio.nd rfl rfl (by decide) rfl rfl (pa_cons (pe_op op_sub pe_int (pv 0)) (pa_cons (pe_op op_sub pe_int (pv 1)) pa_nil)) (by rfl))) pss_nil)
      (pss_cons (ps_set (i := 2) sc_l_ratio.nd rfl (Or.inl rfl) (pe_call G_l_shared (hr.mono (by omega)) rfl m_l_shared k_l_shared b_l_shared .nil pass0 (pa_cons (pv 0) (pa_cons (pv 1) pa_nil))))
      (pss_one (ps_ret (pe_tup (pa_cons (pe_op op_fdivW (pv 0) (pv 2)) (pa_cons (pe_op op_fdivW (pv 1) (pv 2)) pa_nil))))))), ?_⟩
    refine ⟨fun σ H' => H' = H ∧ σ = [some (.int (if m < 0 then -t else t)), some (.int (m.natAbs : Int)), none], ?_, ?_⟩
    · refine ⟨_, rfl, _, _, rfl, rfl, _, rfl, ?_⟩
      refine ite2 (fun c => ?_) (fun c => ?_)
      · have c3 : m < 0 := of_decide_eq_true c
        refine ⟨_, rfl, _, _, rfl, rfl, _, rfl, _, _, rfl, rfl, _, _, rfl, rfl, ?_⟩
        rw [if_pos c3, show -t = 0 - t by omega, show (m.natAbs : Int) = 0 - m by omega]
        rfl
      · have c3 : ¬ m < 0 := of_decide_eq_false (Bool.eq_false_iff.mpr c)
        refine ⟨rfl, ?_⟩
        rw [if_neg c3, show (m.natAbs : Int) = m by omega]
        rfl
    · rintro σ H' ⟨rfl, rfl⟩
      have e : (Int.gcd (if m < 0 then -t else t) (m.natAbs : Int) : Int) = (Int.gcd t m : Int) := by
        unfold Int.gcd
        split <;> simp
      refine ⟨_, rfl, _, rfl, _, _, rfl, ?_⟩
      rw [e]
      have gp := gcd_pos (t := t) h0
      have gB : (Int.gcd t m : Int).natAbs < 2 ^ 8000 := Nat.lt_of_le_of_lt (gcd_le h0) hB
      refine ⟨_, rfl, _, rfl, _, _, rfl, rfl, wide_div gp gB (by decide) (by decide), _, rfl, _, rfl, _, _, rfl, rfl, wide_div gp gB (by decide) (by decide), (by show 2 ≤ sizeLine; decide), fun p np => ?_⟩
      exact q p _ (same_new np _) upd_same
end

section
variable {P : Program} {w : World} {K : PySem.W.Frag} {mg : Str → Option Value} {base : Heap}
theorem ok_lis_ratio (T : Bt mg) (GS : Kn P w K mg base CX0 "_law_shared" 1 ["_law_one", "_law_other"] spShared) (D : Df K mg "_law_is_ratio" s_l_is_ratio ["_law_value"]) : Kn P w K mg base CX0 "_law_is_ratio" 2 ["_law_value"] (spD K isRat) := by
  obtain ⟨f, fd, F, hm, hb⟩ := D
  obtain ⟨f_l_shared, fd_l_shared, G_l_shared, m_l_shared, k_l_shared, b_l_shared⟩ := GS
  refine ⟨f, fd, F.ok sc_l_is_ratio (fun vs H Q E h => ?_) (fun cdv A outer s H vs Q E hr h => ?_), hm, F.kp, hb⟩
  · obtain ⟨v, d, rfl, _⟩ := h
    rfl
  · obtain ⟨v, d, rfl, hd, q⟩ := h
    refine ⟨_, (pss_cons (ps_if (PW.pt (pw_or (pt_not (pt_val (pe_callB (cr_isi (K := K) rfl) (by rfl) T.n_isinstance (by decide +kernel) (pa_cons (pv 0) (pa_cons (pe_bltn (v := .ty "tuple") (by rfl) T.n_tuple (by decide +kernel) rfl) pa_nil))))) (pw_or1 (pt_cmpR op_ne (pe_callB call_len_seq (by rfl) T.n_len (by decide +kernel) (pa_cons (pv 0) pa_nil)) pe_int (nomark _))))) (pss_one (ps_ret pe_bl)) pss_nil)
      (pss_cons (ps_if (pt_val (pe_callB (cr_any rfl) (by rfl) T.n_any (by decide +kernel) (pa_cons (pe_lc (own := [("_law_part", 1)]) rfl sc_l_is_ratio.nd (pi_tup (pv 0)) (blkOk_by (N := ["_law_value", "_law_part"]) (sc := defScope s_l_is_ratio) (by decide +kernel)) (fun _ _ _ _ _ => (pg_name (i := 1) sc_l_is_ratio.nd rfl (Or.inl rfl))) (fun _ _ _ _ _ => pts_nil) (fun _ _ _ _ _ => (pe_or (pe_callB (cr_isi (K := K) rfl) (by rfl) T.n_isinstance (by decide +kernel) (pa_cons (pv 1) (pa_cons (pe_bltn (v := .ty "bool") (by rfl) T.n_bool (by decide +kernel) rfl) pa_nil))) (pe_one (pe_not (pe_callB (cr_isi (K := K) rfl) (by rfl) T.n_isinstance (by decide +kernel) (pa_cons (pv 1) (pa_cons (pe_bltn (v := .ty "int") (by rfl) T.n_int (by decide +kernel) rfl) pa_nil)))))))) pa_nil))) (pss_one (ps_ret pe_bl)) pss_nil)
      (pss_one (ps_ret (pe_and (pe_cmpR op_gt (pe_ix ix_tup (pv 0) pe_int (fun _ _ => rfl)) pe_int (nomark _)) (pe_one (pe_cmpR op_eq (pe_call G_l_shared (hr.mono (by omega)) rfl m_l_shared k_l_shared b_l_shared .nil pass0 (pa_cons (pe_ix ix_tup (pv 0) pe_int (fun _ _ => rfl)) (pa_cons (pe_ix ix_tup (pv 0) pe_int (fun _ _ => rfl)) pa_nil))) pe_int (nomark _)))))))), ?_⟩
    refine ⟨_, rfl, _, _, _, _, _, rfl, .ty _, dp_ty hd, kit_ty (kb_tup d), _, rfl, ?_⟩
    refine ite2 (fun c => ?_) (fun c => ?_)
    · have e : isRat d = false := by cases d <;> first | rfl | cases c
      have q0 := q H (Same.refl H)
      rw [e] at q0
      exact q0
    · obtain ⟨ds, rfl⟩ : ∃ ds, d = .tuple ds := by cases d <;> first | exact ⟨_, rfl⟩ | exact absurd rfl c
      cases hd with
      | @tup a xs _ hs ha =>
        have hl := dps_len ha
        refine ⟨_, rfl, a, _, rfl, .inr hs, rfl, _, rfl, ?_⟩
        refine ite2 (fun c2 => ?_) (fun c2 => ?_)
        · have e : isRat (.tuple ds) = false := by
            match ds, xs, hl, c2 with
            | [], _, _, _ => rfl
            | [_], _, _, _ => rfl
            | [_, _], xs, hl, c2 =>
              have hl2 : xs.length = 2 := hl
              rw [hl2] at c2
              exact absurd c2 (by decide)
            | _ :: _ :: _ :: _, _, _, _ => rfl
          have q0 := q H (Same.refl H)
          rw [e] at q0
          exact q0
        · have h2 : xs.length = 2 := by
            by_cases z : (xs.length : Int) = 2
            · omega
            · exact absurd (by simp [z]) c2
          obtain ⟨d1, d2, rfl⟩ : ∃ d1 d2, ds = [d1, d2] := by
            rw [h2] at hl
            match ds, hl with
            | [d1, d2], _ => exact ⟨d1, d2, rfl⟩
          refine ⟨_, rfl, a, rfl, ⟨_, hs⟩, fun D hD => ?_⟩
          refine lc_tup (K := K) (a := a) (xs := xs) (fun i H' => Same H H' ∧ H' D = some (.lst ((([d1, d2].take i).map fun d => !wholeD d).map V.bl))) ⟨same_new hD _, upd_same⟩ (fun i H' _ h => same_seqT h.1 hs) ?_ ?_
          · rintro i x H1 hx ⟨s1, hacc⟩
            obtain ⟨d, hd, hx2⟩ := dps_get ha hx
            have hx3 := dp_same s1 _ _ hx2
            have key : ∀ b : Bool, b = (!wholeD d) → ∃ acc, H1 D = some (.lst acc) ∧ acc.length < sizeLine ∧ Same H (upd H1 D (.lst (acc ++ [V.bl b]))) ∧ (upd H1 D (.lst (acc ++ [V.bl b]))) D = some (.lst ((([d1, d2].take (i + 1)).map fun d => !wholeD d).map V.bl)) := by
              intro b hb
              refine ⟨_, hacc, ?_, same_upd s1 hD, ?_⟩
              · rw [List.length_map, List.length_map, List.length_take]
                exact small1000 (Nat.le_trans (Nat.min_le_right _ _) (by decide : 2 ≤ 1000))
              · rw [upd_same, hb, take_more hd, List.map_append, List.map_append]
                rfl
            refine ⟨rfl, ?_⟩
            refine ⟨_, rfl, _, _, _, _, _, rfl, .ty _, dp_ty hx3, kit_ty (kb_bool d), _, rfl, ?_⟩
            refine ite2 (fun c3 => ?_) (fun c3 => ?_)
            · exact key true (by cases d <;> first | rfl | cases c3)
            · refine ⟨_, rfl, _, _, _, _, _, rfl, .ty _, dp_ty hx3, kit_ty (kb_int d), _, rfl, ?_⟩
              exact key _ (by cases d <;> first | rfl | exact absurd rfl c3)
          · rintro H1 ⟨s1, hacc⟩
            rw [h2] at hacc
            refine ⟨D, _, rfl, SqL.of hacc, _, rfl, ?_⟩
            cases ha with
            | @cons x1 _ _ _ h1 ha =>
              cases ha with
              | @cons x2 _ _ _ hx2 ha =>
                cases ha
                refine ite2 (fun c3 => ?_) (fun c3 => ?_)
                · have e : isRat (.tuple [d1, d2]) = false := by
                    cases d1 <;> first | rfl | skip
                    cases d2 <;> first | rfl | cases c3
                  have q0 := q H1 s1
                  rw [e] at q0
                  exact q0
                · obtain ⟨t, rfl⟩ : ∃ t, d1 = .int t := by cases d1 <;> first | exact ⟨_, rfl⟩ | exact absurd rfl c3
                  obtain ⟨m, rfl⟩ : ∃ m, d2 = .int m := by cases d2 <;> first | exact ⟨_, rfl⟩ | exact absurd rfl c3
                  cases h1
                  cases hx2
                  have hs1 := same_seqT s1 hs
                  refine ⟨_, rfl, a, _, _, .int m, rfl, rfl, hs1, rfl, _, _, rfl, rfl, _, rfl, ?_⟩
                  have q0 := q H1 s1
                  refine ite2 (fun c5 => ?_) (fun c5 => ?_)
                  · have c6 : m > 0 := of_decide_eq_true c5
                    refine ⟨_, rfl, a, _, _, .int t, rfl, rfl, hs1, rfl, _, rfl, a, _, _, .int m, rfl, rfl, hs1, rfl, _, _, rfl, ?_⟩
                    have e : isRat (.tuple [.int t, .int m]) = decide (V.int (Int.gcd t m : Int) = V.int 1) := by
                      show (if 1 ≤ m ∧ Int.gcd t m = 1 then some (t, m) else none).isSome = _
                      by_cases z : Int.gcd t m = 1
                      · rw [if_pos ⟨by omega, z⟩, z]
                        rfl
                      · rw [if_neg (fun y => z y.2)]
                        symm
                        apply decide_eq_false
                        intro y
                        injection y with y
                        omega
                    rw [e] at q0
                    exact ⟨rfl, q0⟩
                  · have c6 : ¬ m > 0 := of_decide_eq_false (Bool.eq_false_iff.mpr c5)
                    have e : isRat (.tuple [.int t, .int m]) = false := by
                      show (if 1 ≤ m ∧ Int.gcd t m = 1 then some (t, m) else none).isSome = false
                      rw [if_neg (by omega)]
                      rfl
                    rw [e] at q0
                    exact q0
end

mutual
def dep : PyData → Nat
  | .list ds => deps ds + 1
  | .tuple ds => deps ds + 1
  | _ => 0
def deps : List PyData → Nat
  | [] => 0
  | d :: ds => max (dep d) (deps ds)
end
mutual
def slim : PyData → Bool
  | .list ds => decide (ds.length ≤ 100) && slims ds
  | .tuple ds => decide (ds.length ≤ 100) && slims ds
  | _ => true
def slims : List PyData → Bool
  | [] => true
  | d :: ds => slim d && slims ds
end
theorem But.new {H H' : Hp} {b g c p : Addr} {n : Nat} {o : HO} (B : Box H b g c n) (np : H p = none) (x : But b g (upd H p o) H') : H' p = some o := by
  obtain ⟨gs, cs, cur, m, B, _⟩ := B
  exact x p o upd_same (fun e => by rw [e, B.hb] at np; cases np) (fun e => by rw [e, B.hg] at np; cases np)
theorem But.after {H H' : Hp} {b g p : Addr} {o : HO} (np : H p = none) (x : But b g (upd H p o) H') : But b g H H' := (But.of (same_new np o)).trans x
theorem at_pick {H : Hp} {p : Addr} {xs : List V} {r k : Int} (_ : H p = some (.lst xs)) (r0 : 0 ≤ r) (r1 : r < k) (hk : (xs.length : Int) = k) : ∃ v, v ∈ xs ∧ atI xs r = some v := at_lt r0 (by omega)
def spLong : Sp := fun vs H Q _ => ∃ (b g c : Addr) (n : Nat), vs = [.ref b] ∧ Box H b g c n ∧ n + 10 < 1000000 ∧ ∀ (r : Int) (H' : Hp), r.natAbs < 2 ^ 700 → Box H' b g c (n + 3) → But b g H H' → Q (.int r) H'
def spOdd (K : PySem.W.Frag) : Sp := fun vs H Q _ => ∃ (b g c : Addr) (n : Nat), vs = [.ref b] ∧ Box H b g c n ∧ n + 100 < 1000000 ∧
  ∀ (v : V) (d : PyData) (H' : Hp), Dp K (mk b g H') v d → dep d ≤ 20 → slim d = true → Box H' b g c (n + 60) → But b g H H' → Q v H'
theorem pow8000 (k : Nat) (h : k < 8000) : 2 ^ k < 2 ^ 8000 := Nat.pow_lt_pow_right (by decide) h
theorem pow8000' (j : Int) (k : Nat) (h : k < 8000) (h2 : j.natAbs < 2 ^ k) : j.natAbs < 2 ^ 8000 := Nat.lt_trans h2 (pow8000 k h)
theorem big_lt : (((10 : Int) ^ (48 : Int).toNat) ^ (4 : Int).toNat).natAbs < 2 ^ 640 := by decide +kernel
theorem big_pos : 0 < (((10 : Int) ^ (48 : Int).toNat) ^ (4 : Int).toNat) := by decide +kernel
theorem big_bits : (Builtin.Int.intBits ((10 : Int) ^ (48 : Int).toNat) : Int) * 4 ≤ 2 ^ 27 := by decide +kernel
section
variable {P : Program} {w : World} {K : PySem.W.Frag} {mg : Str → Option Value} {base : Heap}
theorem ok_long (GT : Kn P w K mg base CX0 "_law_take" 2 ["_law_box_here", "_law_size"] spTake) (D : Df K mg "_law_long" s_l_long ["_law_box_here"]) : Kn P w K mg base CX0 "_law_long" 3 ["_law_box_here"] spLong := by
  obtain ⟨f, fd, F, hm, hb⟩ := D
  obtain ⟨f_l_take, fd_l_take, G_l_take, m_l_take, k_l_take, b_l_take⟩ := GT
  refine ⟨f, fd, F.ok sc_l_long (fun vs H Q E h => ?_) (fun cdv A outer s H vs Q E hr h => ?_), hm, F.kp, hb⟩
  · obtain ⟨b, g, c, n, rfl, _⟩ := h
    rfl
  · obtain ⟨b, g, c, n, rfl, B, hn, q⟩ := h
    refine ⟨_, (pss_one (ps_ret (pe_op op_mul (pe_call G_l_take (hr.mono (by omega)) rfl m_l_take k_l_take b_l_take .nil pass0 (pa_cons (pv 0) (pa_cons (pe_ix ix_list (pe_lst (pa_cons pe_int (pa_cons pe_int (pa_cons (pe_op op_powB (pe_op op_powB pe_int pe_int) pe_int) pa_nil)))) (pe_call G_l_take (hr.mono (by omega)) rfl m_l_take k_l_take b_l_take .nil pass0 (pa_cons (pv 0) (pa_cons pe_int pa_nil))) (fun _ _ => rfl)) pa_nil))) (pe_ix ix_list (pe_lst (pa_cons pe_int (pa_cons (pe_un un_neg pe_int) pa_nil))) (pe_call G_l_take (hr.mono (by omega)) rfl m_l_take k_l_take b_l_take .nil pass0 (pa_cons (pv 0) (pa_cons pe_int pa_nil))) (fun _ _ => rfl))))), ?_⟩
    refine ⟨_, rfl, _, _, rfl, rfl, ⟨by decide, by decide +kernel⟩, _, _, rfl, rfl, ⟨by decide, big_bits⟩, ?_⟩
    refine ⟨(by show 3 ≤ sizeLine; decide), fun p1 np1 => ⟨_, rfl, b, g, c, _, 3, rfl, B.same (same_new np1 _), (by omega), (by decide), (by decide), fun r1 H1 r01 r11 B1 bt1 => ?_⟩⟩
    have hp1 := But.new B np1 bt1
    have bu1 := But.after np1 bt1
    obtain ⟨v1, hv1, hat1⟩ := at_pick hp1 r01 r11 rfl
    refine ⟨p1, _, r1, v1, rfl, rfl, SqL.of hp1, hat1, ?_⟩
    have hz : ∃ z : Int, v1 = .int z ∧ 0 < z ∧ z.natAbs < 2 ^ 640 := by
      simp only [List.mem_cons, List.not_mem_nil, or_false] at hv1
      rcases hv1 with e | e | e
      · exact ⟨_, e, by decide, by decide⟩
      · exact ⟨_, e, by decide, by decide⟩
      · exact ⟨_, e, big_pos, big_lt⟩
    obtain ⟨z, rfl, z0, zB⟩ := hz
    refine ⟨b, g, c, n + 1, z, rfl, B1, by omega, z0, Nat.lt_trans zB (pow8000 640 (by decide)), fun x H2 x0 x1 B2 bt2 => ?_⟩
    refine ⟨_, rfl, ?_⟩
    refine ⟨(by show 2 ≤ sizeLine; decide), fun p3 np3 => ⟨_, rfl, b, g, c, _, 2, rfl, B2.same (same_new np3 _), (by omega), (by decide), (by decide), fun r3 H3 r03 r13 B3 bt3 => ?_⟩⟩
    have hp3 := But.new B2 np3 bt3
    have bu3 := But.after np3 bt3
    obtain ⟨v3, hv3, hat3⟩ := at_pick hp3 r03 r13 rfl
    refine ⟨p3, _, r3, v3, rfl, rfl, SqL.of hp3, hat3, ?_⟩
    have hw : ∃ y : Int, v3 = .int y ∧ (y = 1 ∨ y = -1) := by
      simp only [List.mem_cons, List.not_mem_nil, or_false] at hv3
      rcases hv3 with e | e
      · exact ⟨_, e, .inl rfl⟩
      · exact ⟨_, e, .inr rfl⟩
    obtain ⟨y, rfl, hy⟩ := hw
    refine ⟨_, _, rfl, rfl, .inr ⟨by omega, by omega⟩, ?_⟩
    refine q _ _ ?_ B3 ((bu1.trans bt2).trans bu3)
    have hx : x.natAbs < 2 ^ 640 := by omega
    refine Nat.lt_trans ?_ (show 2 ^ 640 < 2 ^ 700 by decide)
    rw [Int.natAbs_mul]
    rcases hy with rfl | rfl
    · rw [show (1 : Int).natAbs = 1 from rfl, Nat.mul_one]
      exact hx
    · rw [show (-1 : Int).natAbs = 1 from rfl, Nat.mul_one]
      exact hx
theorem ok_odd (T : Bt mg) (GT : Kn P w K mg base CX0 "_law_take" 2 ["_law_box_here", "_law_size"] spTake) (GL : Kn P w K mg base CX0 "_law_long" 3 ["_law_box_here"] spLong)
    (GR : Kn P w K mg base CX0 "_law_ratio" 2 ["_law_top", "_law_bottom"] spLRatio) (D : Df K mg "_law_odd" s_l_odd ["_law_box_here"]) : Kn P w K mg base CX0 "_law_odd" 4 ["_law_box_here"] (spOdd K) := by
  obtain ⟨f, fd, F, hm, hb⟩ := D
  obtain ⟨f_l_take, fd_l_take, G_l_take, m_l_take, k_l_take, b_l_take⟩ := GT
  obtain ⟨f_l_long, fd_l_long, G_l_long, m_l_long, k_l_long, b_l_long⟩ := GL
  obtain ⟨f_l_ratio, fd_l_ratio, G_l_ratio, m_l_ratio, k_l_ratio, b_l_ratio⟩ := GR
  refine ⟨f, fd, F.ok sc_l_odd (fun vs H Q E h => ?_) (fun cdv A outer s H vs Q E hr h => ?_), hm, F.kp, hb⟩
  · obtain ⟨b, g, c, n, rfl, _⟩ := h
    rfl
  · obtain ⟨b, g, c, n, rfl, B, hn, q⟩ := h
    refine ⟨_, (pss_cons (ps_par (i := 1) (j := 2) (by rfl) sc_l_odd.nd rfl rfl (by decide) rfl rfl (pa_cons (pe_call G_l_long (hr.mono (by omega)) rfl m_l_long k_l_long b_l_long .nil pass0 (pa_cons (pv 0) pa_nil)) (pa_cons (pe_op op_add pe_int (pe_call G_l_take (hr.mono (by omega)) rfl m_l_take k_l_take b_l_take .nil pass0 (pa_cons (pv 0) (pa_cons (pe_ix ix_list (pe_lst (pa_cons pe_int (pa_cons (pe_op op_powB (pe_op op_powB pe_int pe_int) pe_int) pa_nil))) (pe_call G_l_take (hr.mono (by omega)) rfl m_l_take k_l_take b_l_take .nil pass0 (pa_cons (pv 0) (pa_cons pe_int pa_nil))) (fun _ _ => rfl)) pa_nil)))) pa_nil)) (by rfl))
      (pss_cons (ps_set (i := 3) sc_l_odd.nd rfl (Or.inl rfl) (pe_call G_l_ratio (hr.mono (by omega)) rfl m_l_ratio k_l_ratio b_l_ratio .nil pass0 (pa_cons (pv 1) (pa_cons (pv 2) pa_nil))))
      (pss_cons (ps_set (i := 4) sc_l_odd.nd rfl (Or.inl rfl) (pe_call G_l_take (hr.mono (by omega)) rfl m_l_take k_l_take b_l_take .nil pass0 (pa_cons (pv 0) (pa_cons pe_int pa_nil))))
      (pss_cons (ps_if (pt_cmpR op_lt (pv 4) pe_int (nomark _)) (pss_one (ps_ret (pv 3))) pss_nil)
      (pss_cons (ps_if (pt_cmpR op_eq (pv 4) pe_int (nomark _)) (pss_cons (ps_for PassesOwn.never rfl (pi_range1 rfl T.n_range (pa_cons pe_int pa_nil)) (pg_name (i := 5) sc_l_odd.nd rfl (Or.inl rfl))
        (pss_one (ps_set (i := 3) sc_l_odd.nd rfl (Or.inl rfl) (pe_ix ix_list (pe_lst (pa_cons (pe_tup (pa_cons (pv 3) pa_nil)) (pa_cons (pe_lst (pa_cons (pv 3) pa_nil)) pa_nil))) (pe_call G_l_take (hr.mono (by omega)) rfl m_l_take k_l_take b_l_take .nil pass0 (pa_cons (pv 0) (pa_cons pe_int pa_nil))) (fun _ _ => rfl)))))
      (pss_one (ps_ret (pv 3)))) pss_nil)
      (pss_cons (ps_if (pt_cmpR op_eq (pv 4) pe_int (nomark _)) (pss_cons (ps_set (i := 6) sc_l_odd.nd rfl (Or.inl rfl) (pe_op op_add pe_int (pe_call G_l_take (hr.mono (by omega)) rfl m_l_take k_l_take b_l_take .nil pass0 (pa_cons (pv 0) (pa_cons pe_int pa_nil)))))
      (pss_one (ps_ret (pe_tup (pa_cons (pe_op op_mul (pe_ix ix_tup (pv 3) pe_int (fun _ _ => rfl)) (pv 6)) (pa_cons (pe_op op_mul (pe_ix ix_tup (pv 3) pe_int (fun _ _ => rfl)) (pv 6)) pa_nil)))))) pss_nil)
      (pss_cons (ps_if (pt_cmpR op_eq (pv 4) pe_int (nomark _)) (pss_one (ps_ret (pe_ix ix_list (pe_lst (pa_cons (pv 1) (pa_cons pe_bl (pa_cons pe_bl (pa_cons pe_non (pa_cons pe_str (pa_cons (pe_op op_sub pe_int (pv 1)) pa_nil))))))) (pe_call G_l_take (hr.mono (by omega)) rfl m_l_take k_l_take b_l_take .nil pass0 (pa_cons (pv 0) (pa_cons pe_int pa_nil))) (fun _ _ => rfl)))) pss_nil)
      (pss_cons (ps_if (pt_cmpR op_eq (pv 4) pe_int (nomark _)) (pss_one (ps_ret (pe_lst (pa_cons (pe_ix ix_tup (pv 3) pe_int (fun _ _ => rfl)) (pa_cons (pe_ix ix_tup (pv 3) pe_int (fun _ _ => rfl)) pa_nil))))) pss_nil)
      (pss_cons (ps_if (pt_cmpR op_eq (pv 4) pe_int (nomark _)) (pss_one (ps_ret (pe_ix ix_list (pe_lst (pa_cons (pe_tup (pa_cons (pe_ix ix_tup (pv 3) pe_int (fun _ _ => rfl)) (pa_cons (pe_op op_sub pe_int (pe_ix ix_tup (pv 3) pe_int (fun _ _ => rfl))) pa_nil))) (pa_cons (pe_tup (pa_cons (pe_ix ix_tup (pv 3) pe_int (fun _ _ => rfl)) (pa_cons pe_int pa_nil))) (pa_cons (pe_tup (pa_cons pe_int (pa_cons (pv 2) pa_nil))) pa_nil)))) (pe_call G_l_take (hr.mono (by omega)) rfl m_l_take k_l_take b_l_take .nil pass0 (pa_cons (pv 0) (pa_cons pe_int pa_nil))) (fun _ _ => rfl)))) pss_nil)
      (pss_cons (ps_if (pt_cmpR op_eq (pv 4) pe_int (nomark _)) (pss_one (ps_ret (pe_ix ix_list (pe_lst (pa_cons (pe_slice sl_tup (pv 3) po_none (po_some pe_int)) (pa_cons (pe_op op_catT (pv 3) (pe_tup (pa_cons pe_int pa_nil))) (pa_cons (pe_tup pa_nil) (pa_cons (pe_tup (pa_cons (pv 3) pa_nil)) pa_nil))))) (pe_call G_l_take (hr.mono (by omega)) rfl m_l_take k_l_take b_l_take .nil pass0 (pa_cons (pv 0) (pa_cons pe_int pa_nil))) (fun _ _ => rfl)))) pss_nil)
      (pss_one (ps_ret (pe_ix ix_list (pe_lst (pa_cons (pe_tup (pa_cons pe_bl (pa_cons pe_int pa_nil))) (pa_cons (pe_tup (pa_cons (pe_ix ix_tup (pv 3) pe_int (fun _ _ => rfl)) (pa_cons pe_bl pa_nil))) (pa_cons (pe_tup (pa_cons pe_str (pa_cons pe_int pa_nil))) (pa_cons (pe_tup (pa_cons (pe_ix ix_tup (pv 3) pe_int (fun _ _ => rfl)) (pa_cons pe_non pa_nil))) (pa_cons (pe_tup (pa_cons pe_int (pa_cons pe_int pa_nil))) (pa_cons (pe_tup (pa_cons pe_bl (pa_cons pe_int pa_nil))) pa_nil))))))) (pe_call G_l_take (hr.mono (by omega)) rfl m_l_take k_l_take b_l_take .nil pass0 (pa_cons (pv 0) (pa_cons pe_int pa_nil))) (fun _ _ => rfl)))))))))))))), ?_⟩
    -- top, bottom = long(box), 1 + take(box, [12, 10 ** 192][take(box, 2)])
    refine ⟨_, rfl, b, g, c, n, rfl, B, by omega, fun top Ha hTop Ba ba => ?_⟩
    refine ⟨_, rfl, _, _, rfl, rfl, ⟨by decide, by decide +kernel⟩, _, _, rfl, rfl, ⟨by decide, big_bits⟩, ?_⟩
    refine ⟨(by show 2 ≤ sizeLine; decide), fun p1 np1 => ⟨_, rfl, b, g, c, _, 2, rfl, Ba.same (same_new np1 _), (by omega), (by decide), (by decide), fun r1 H1 r01 r11 B1 bt1 => ?_⟩⟩
    have hp1 := But.new Ba np1 bt1
    have bu1 := But.after np1 bt1
    obtain ⟨v1, hv1, hat1⟩ := at_pick hp1 r01 r11 rfl
    refine ⟨p1, _, r1, v1, rfl, rfl, SqL.of hp1, hat1, ?_⟩
    have hz : ∃ z : Int, v1 = .int z ∧ 0 < z ∧ z.natAbs < 2 ^ 640 := by
      simp only [List.mem_cons, List.not_mem_nil, or_false] at hv1
      rcases hv1 with e | e
      · exact ⟨_, e, by decide, by decide⟩
      · exact ⟨_, e, big_pos, big_lt⟩
    obtain ⟨z, rfl, z0, zB⟩ := hz
    refine ⟨b, g, c, n + 3 + 1, z, rfl, B1, by omega, z0, Nat.lt_trans zB (pow8000 640 (by decide)), fun x H2 x0 x1 B2 bt2 => ?_⟩
    refine ⟨_, _, rfl, rfl, _, _, rfl, ?_⟩
    have bot0 : 0 < (1 + x) := by omega
    have botB : (1 + x).natAbs < 2 ^ 8000 := Nat.lt_of_le_of_lt (show (1 + x).natAbs ≤ z.natAbs by omega) (Nat.lt_trans zB (pow8000 640 (by decide)))
    -- good = ratio(top, bottom)
    refine ⟨_, rfl, _, rfl, top, (1 + x), rfl, by omega, botB, fun pg Hb sb hpg => ?_⟩
    have Bb := B2.same sb
    -- way = take(box, 9)
    refine ⟨_, rfl, b, g, c, _, 9, rfl, Bb, by omega, by decide, pow8000' 9 4 (by decide) (by decide), fun way Hc w0 w1 Bc bc => ?_⟩
    have hpc := bc.tup Bb hpg
    have bu : But b g H Hc := (((ba.trans bu1).trans bt2).trans (But.of sb)).trans bc
    clear hpg bc sb bt2 bu1 ba hat1 hp1 np1 bt1 hv1 B1 Bb B2 Ba
    generalize htt : nt top (1 + x) = tt at hpc
    generalize hmm : nb top (1 + x) = mm at hpc
    have dg : Dp K (mk b g Hc) (.ref pg) (rat tt mm) := dp_rat (mk_tup Bc hpc)
    have depg : dep (rat tt mm) ≤ 1 := by show max 0 (max 0 0) + 1 ≤ 1; decide
    have fin : ∀ (v : V) (d : PyData) (H' : Hp) (m : Nat), Dp K (mk b g H') v d → dep d ≤ 20 → slim d = true → Box H' b g c m → m ≤ n + 60 → But b g H H' → Q v H' := fun v d H' m h1 h2 hs h3 h4 h5 => q v d H' h1 h2 hs (h3.mono h4) h5
    -- if way < 2
    refine ⟨_, rfl, _, _, rfl, rfl, _, rfl, ?_⟩
    refine ite2 (fun _ => ?_) (fun _ => ?_)
    · exact ⟨_, rfl, fin _ _ _ _ dg (by omega) rfl Bc (by omega) bu⟩
    -- if way == 8
    refine ⟨_, rfl, rfl, _, rfl, ?_⟩
    refine ite2 (fun _ => ?_) (fun _ => ?_)
    · refine ⟨18, rfl, by decide, by decide, ?_⟩
      refine for_range (lo := 0) (n := 18) (fun i σ H' => ∃ (v : V) (d : PyData) (m : Nat) (k : Option V), σ = [some (.ref b), some (.int top), some (.int (1 + x)), some v, some (.int way), k, none] ∧ Dp K (mk b g H') v d ∧ dep d ≤ i + 1 ∧ slim d = true ∧ Box H' b g c m ∧ m ≤ n + 10 + i ∧ But b g H H')
        ⟨_, _, _, _, rfl, dg, depg, rfl, Bc, by omega, bu⟩ ?_ ?_
      · rintro i σ H' hi ⟨v, d, m, k, rfl, hd, hdep, hsl, Bm, hmn, bm⟩
        refine ⟨_, rfl, (by show 1 ≤ sizeLine; decide), fun pa na => ⟨_, rfl, (by show 1 ≤ sizeLine; decide), fun pb nb' => ?_⟩⟩
        have sa := same_new na (.tup [v])
        have Bpa := Bm.same sa
        have sb := same_new nb' (.lst [v])
        have Bpb := Bpa.same sb
        refine ⟨(by show 2 ≤ sizeLine; decide), fun p7 np7 => ⟨_, rfl, b, g, c, _, 2, rfl, Bpb.same (same_new np7 _), (by omega), (by decide), (by decide), fun r7 H7 r07 r17 B7 bt7 => ?_⟩⟩
        have hp7 := But.new Bpb np7 bt7
        have bu7 := But.after np7 bt7
        obtain ⟨v7, hv7, hat7⟩ := at_pick hp7 r07 r17 rfl
        refine ⟨p7, _, r7, v7, rfl, rfl, SqL.of hp7, hat7, ?_⟩
        have bab : But b g H' H7 := ((But.of sa).trans (But.of sb)).trans bu7
        have hdv : Dp K (mk b g H7) v d := dp_same (mk_but bab) _ _ hd
        have hda : mk b g H7 pa = some (.tup [v]) := mk_but ((But.of sb).trans bu7) _ _ (mk_new Bm na)
        have hdb : mk b g H7 pb = some (.lst [v]) := mk_but bu7 _ _ (mk_new Bpa nb')
        have hcase : ∃ d', Dp K (mk b g H7) v7 d' ∧ dep d' ≤ i + 2 ∧ slim d' = true := by
          simp only [List.mem_cons, List.not_mem_nil, or_false] at hv7
          rcases hv7 with rfl | rfl
          · exact ⟨.tuple [d], .tup (SqT.of hda) (.cons hdv .nil), by show max (dep d) 0 + 1 ≤ i + 2; omega, by show (true && (slim d && true)) = true; rw [hsl]; rfl⟩
          · exact ⟨.list [d], .lst (SqL.of hdb) (.cons hdv .nil), by show max (dep d) 0 + 1 ≤ i + 2; omega, by show (true && (slim d && true)) = true; rw [hsl]; rfl⟩
        obtain ⟨d', hd', hdep', hsl'⟩ := hcase
        exact ⟨v7, d', _, _, rfl, hd', hdep', hsl', B7, by omega, bm.trans bab⟩
      · rintro σ H' ⟨v, d, m, k, rfl, hd, hdep, hsl, Bm, hmn, bm⟩
        exact ⟨_, rfl, fin _ _ _ _ hd (by omega) hsl Bm (by omega) bm⟩
    -- if way == 2
    refine ⟨_, rfl, rfl, _, rfl, ?_⟩
    refine ite2 (fun _ => ?_) (fun _ => ?_)
    · refine ⟨_, rfl, b, g, c, _, 4, rfl, Bc, by omega, by decide, pow8000' 4 4 (by decide) (by decide), fun y Hd y0 y1 Bd bd => ?_⟩
      have hpd := bd.tup Bc hpc
      refine ⟨_, _, rfl, rfl, ?_⟩
      refine ⟨_, rfl, pg, _, _, .int tt, rfl, rfl, SqT.of hpd, rfl, _, rfl, _, _, rfl, rfl, .inr ⟨by omega, by omega⟩, _, rfl, pg, _, _, .int mm, rfl, rfl, SqT.of hpd, rfl, _, rfl, _, _, rfl, rfl, .inr ⟨by omega, by omega⟩, (by show 2 ≤ sizeLine; decide), fun p np => ?_⟩
      exact fin _ _ _ _ (dp_rat (mk_new Bd np)) (by show max 0 (max 0 0) + 1 ≤ 20; decide) rfl (Bd.same (same_new np _)) (by omega) ((bu.trans bd).trans (But.of (same_new np _)))
    -- if way == 3
    refine ⟨_, rfl, rfl, _, rfl, ?_⟩
    refine ite2 (fun _ => ?_) (fun _ => ?_)
    · refine ⟨_, rfl, _, rfl, _, _, rfl, rfl, ?_⟩
      refine ⟨(by show 6 ≤ sizeLine; decide), fun p4 np4 => ⟨_, rfl, b, g, c, _, 6, rfl, Bc.same (same_new np4 _), (by omega), (by decide), (by decide), fun r4 H4 r04 r14 B4 bt4 => ?_⟩⟩
      have hp4 := But.new Bc np4 bt4
      have bu4 := But.after np4 bt4
      obtain ⟨v4, hv4, hat4⟩ := at_pick hp4 r04 r14 rfl
      refine ⟨p4, _, r4, v4, rfl, rfl, SqL.of hp4, hat4, ?_⟩
      have hcase : ∃ d', Dp K (mk b g H4) v4 d' ∧ dep d' = 0 ∧ slim d' = true := by
        simp only [List.mem_cons, List.not_mem_nil, or_false] at hv4
        rcases hv4 with rfl | rfl | rfl | rfl | rfl | rfl
        · exact ⟨_, .int _, rfl, rfl⟩
        · exact ⟨_, .bl _, rfl, rfl⟩
        · exact ⟨_, .bl _, rfl, rfl⟩
        · exact ⟨_, .non, rfl, rfl⟩
        · exact ⟨_, .str _, rfl, rfl⟩
        · exact ⟨_, .int _, rfl, rfl⟩
      obtain ⟨d', hd', hdep', hsl'⟩ := hcase
      exact fin _ _ _ _ hd' (by omega) hsl' B4 (by omega) (bu.trans bu4)
    -- if way == 4
    refine ⟨_, rfl, rfl, _, rfl, ?_⟩
    refine ite2 (fun _ => ?_) (fun _ => ?_)
    · refine ⟨_, rfl, pg, _, _, .int tt, rfl, rfl, SqT.of hpc, rfl, _, rfl, pg, _, _, .int mm, rfl, rfl, SqT.of hpc, rfl, (by show 2 ≤ sizeLine; decide), fun p np => ?_⟩
      exact fin _ (.list [.int tt, .int mm]) _ _ (.lst (SqL.of (mk_new Bc np)) (.cons (.int _) (.cons (.int _) .nil))) (by show max 0 (max 0 0) + 1 ≤ 20; decide) rfl (Bc.same (same_new np _)) (by omega) (bu.trans (But.of (same_new np _)))
    -- if way == 5
    refine ⟨_, rfl, rfl, _, rfl, ?_⟩
    refine ite2 (fun _ => ?_) (fun _ => ?_)
    · refine ⟨_, rfl, pg, _, _, .int tt, rfl, rfl, SqT.of hpc, rfl, _, rfl, pg, _, _, .int mm, rfl, rfl, SqT.of hpc, rfl, _, _, rfl, rfl, (by show 2 ≤ sizeLine; decide), fun pa na => ?_⟩
      have sa := same_new na (.tup [.int tt, .int (0 - mm)])
      have Ba := Bc.same sa
      refine ⟨_, rfl, pg, _, _, .int tt, rfl, rfl, SqT.of (sa _ _ hpc), rfl, (by show 2 ≤ sizeLine; decide), fun pb nb' => ?_⟩
      have sb := same_new nb' (.tup [.int tt, .int 0])
      have Bb := Ba.same sb
      refine ⟨_, rfl, (by show 2 ≤ sizeLine; decide), fun pc nc => ?_⟩
      have sc := same_new nc (.tup [.int 0, .int (1 + x)])
      have Bd := Bb.same sc
      refine ⟨(by show 3 ≤ sizeLine; decide), fun p5 np5 => ⟨_, rfl, b, g, c, _, 3, rfl, Bd.same (same_new np5 _), (by omega), (by decide), (by decide), fun r5 H5 r05 r15 B5 bt5 => ?_⟩⟩
      have hp5 := But.new Bd np5 bt5
      have bu5 := But.after np5 bt5
      obtain ⟨v5, hv5, hat5⟩ := at_pick hp5 r05 r15 rfl
      refine ⟨p5, _, r5, v5, rfl, rfl, SqL.of hp5, hat5, ?_⟩
      have hcase : ∃ (px : Addr) (y : Int × Int), v5 = .ref px ∧ mk b g H5 px = some (.tup [.int y.1, .int y.2]) := by
        simp only [List.mem_cons, List.not_mem_nil, or_false] at hv5
        rcases hv5 with rfl | rfl | rfl
        · exact ⟨pa, (tt, 0 - mm), rfl, mk_but (((But.of sb).trans (But.of sc)).trans bu5) _ _ (mk_new Bc na)⟩
        · exact ⟨pb, (tt, 0), rfl, mk_but ((But.of sc).trans bu5) _ _ (mk_new Ba nb')⟩
        · exact ⟨pc, (0, (1 + x)), rfl, mk_but bu5 _ _ (mk_new Bb nc)⟩
      obtain ⟨px, y, rfl, hy⟩ := hcase
      exact fin _ _ _ _ (dp_rat hy) (by show max 0 (max 0 0) + 1 ≤ 20; decide) rfl B5 (by omega) (((bu.trans (But.of sa)).trans ((But.of sb).trans (But.of sc))).trans bu5)
    -- if way == 6
    refine ⟨_, rfl, rfl, _, rfl, ?_⟩
    refine ite2 (fun _ => ?_) (fun _ => ?_)
    · refine ⟨_, rfl, _, rfl, pg, _, rfl, SqT.of hpc, (by show ¬ (HT.sIx 2 0 none = 0 ∧ HT.sIx 2 2 (some 1) = 2); decide), fun pa na => ?_⟩
      have sa := same_new na (.tup [.int tt])
      have Ba := Bc.same sa
      refine ⟨_, rfl, (by show 1 ≤ sizeLine; decide), fun pt npt => ?_⟩
      have st := same_new npt (.tup [.int 1])
      have Bt' := Ba.same st
      refine ⟨pg, pt, _, _, rfl, rfl, SqT.of (st _ _ (sa _ _ hpc)), SqT.of upd_same, (by intro z; cases z), (by show 3 ≤ sizeLine; decide), (fun z => by cases z), fun _ pb nb' => ?_⟩
      have sb := same_new nb' (.tup [.int tt, .int mm, .int 1])
      have Bb := Bt'.same sb
      refine ⟨(by show 0 ≤ sizeLine; decide), fun pc nc => ?_⟩
      have sc := same_new nc (.tup [])
      have Bc2 := Bb.same sc
      refine ⟨_, rfl, (by show 1 ≤ sizeLine; decide), fun pd nd' => ?_⟩
      have sd := same_new nd' (.tup [.ref pg])
      have Bd := Bc2.same sd
      refine ⟨(by show 4 ≤ sizeLine; decide), fun p6 np6 => ⟨_, rfl, b, g, c, _, 4, rfl, Bd.same (same_new np6 _), (by omega), (by decide), (by decide), fun r6 H6 r06 r16 B6 bt6 => ?_⟩⟩
      have hp6 := But.new Bd np6 bt6
      have bu6 := But.after np6 bt6
      obtain ⟨v6, hv6, hat6⟩ := at_pick hp6 r06 r16 rfl
      refine ⟨p6, _, r6, v6, rfl, rfl, SqL.of hp6, hat6, ?_⟩
      have bcd : But b g Hc H6 := ((But.of sa).trans ((But.of st).trans ((But.of sb).trans ((But.of sc).trans (But.of sd))))).trans bu6
      have hcase : ∃ d', Dp K (mk b g H6) v6 d' ∧ dep d' ≤ 3 ∧ slim d' = true := by
        simp only [List.mem_cons, List.not_mem_nil, or_false] at hv6
        rcases hv6 with rfl | rfl | rfl | rfl
        · exact ⟨.tuple [.int tt], .tup (SqT.of (mk_but (((But.of st).trans ((But.of sb).trans ((But.of sc).trans (But.of sd)))).trans bu6) _ _ (mk_new Bc na))) (.cons (.int _) .nil), by show max 0 0 + 1 ≤ 3; decide, rfl⟩
        · exact ⟨.tuple [.int tt, .int mm, .int 1], .tup (SqT.of (mk_but (((But.of sc).trans (But.of sd)).trans bu6) _ _ (mk_new Bt' nb'))) (.cons (.int _) (.cons (.int _) (.cons (.int _) .nil))), by show max 0 (max 0 (max 0 0)) + 1 ≤ 3; decide, rfl⟩
        · exact ⟨.tuple [], .tup (SqT.of (mk_but ((But.of sd).trans bu6) _ _ (mk_new Bb nc))) .nil, by show 0 + 1 ≤ 3; decide, rfl⟩
        · exact ⟨.tuple [rat tt mm], .tup (SqT.of (mk_but bu6 _ _ (mk_new Bc2 nd'))) (.cons (dp_same (mk_but bcd) _ _ dg) .nil), by show max (dep (rat tt mm)) 0 + 1 ≤ 3; omega, rfl⟩
      obtain ⟨d', hd', hdep', hsl'⟩ := hcase
      exact fin _ _ _ _ hd' (by omega) hsl' B6 (by omega) (bu.trans bcd)
    -- the rest
    refine ⟨(by show 2 ≤ sizeLine; decide), fun pa na => ?_⟩
    have sa := same_new na (.tup [.bl true, .int 1])
    have Ba := Bc.same sa
    refine ⟨_, rfl, pg, _, _, .int tt, rfl, rfl, SqT.of (sa _ _ hpc), rfl, (by show 2 ≤ sizeLine; decide), fun pb nb' => ?_⟩
    have sb := same_new nb' (.tup [.int tt, .bl true])
    have Bb := Ba.same sb
    refine ⟨(by show 2 ≤ sizeLine; decide), fun pc nc => ?_⟩
    have sc := same_new nc (.tup [.str "1", .int 1])
    have Bc2 := Bb.same sc
    refine ⟨_, rfl, pg, _, _, .int tt, rfl, rfl, SqT.of (sc _ _ (sb _ _ (sa _ _ hpc))), rfl, (by show 2 ≤ sizeLine; decide), fun pd nd' => ?_⟩
    have sd := same_new nd' (.tup [.int tt, .non])
    have Bd := Bc2.same sd
    refine ⟨(by show 2 ≤ sizeLine; decide), fun pe ne' => ?_⟩
    have se := same_new ne' (.tup [.int 1, .int 1])
    have Be := Bd.same se
    refine ⟨(by show 2 ≤ sizeLine; decide), fun pf nf' => ?_⟩
    have sf := same_new nf' (.tup [.bl false, .int 1])
    have Bf := Be.same sf
    refine ⟨(by show 6 ≤ sizeLine; decide), fun p8 np8 => ⟨_, rfl, b, g, c, _, 6, rfl, Bf.same (same_new np8 _), (by omega), (by decide), (by decide), fun r8 H8 r08 r18 B8 bt8 => ?_⟩⟩
    have hp8 := But.new Bf np8 bt8
    have bu8 := But.after np8 bt8
    obtain ⟨v8, hv8, hat8⟩ := at_pick hp8 r08 r18 rfl
    refine ⟨p8, _, r8, v8, rfl, rfl, SqL.of hp8, hat8, ?_⟩
    have b5 : But b g _ H8 := (But.of sf).trans bu8
    have b4 := (But.of se).trans b5
    have b3 := (But.of sd).trans b4
    have b2 := (But.of sc).trans b3
    have b1 := (But.of sb).trans b2
    have b0 : But b g Hc H8 := (But.of sa).trans b1
    have hcase : ∃ d', Dp K (mk b g H8) v8 d' ∧ dep d' ≤ 1 ∧ slim d' = true := by
      simp only [List.mem_cons, List.not_mem_nil, or_false] at hv8
      rcases hv8 with rfl | rfl | rfl | rfl | rfl | rfl
      · exact ⟨.tuple [.bool true, .int 1], .tup (SqT.of (mk_but b1 _ _ (mk_new Bc na))) (.cons (.bl _) (.cons (.int _) .nil)), by show max 0 (max 0 0) + 1 ≤ 1; decide, rfl⟩
      · exact ⟨.tuple [.int tt, .bool true], .tup (SqT.of (mk_but b2 _ _ (mk_new Ba nb'))) (.cons (.int _) (.cons (.bl _) .nil)), by show max 0 (max 0 0) + 1 ≤ 1; decide, rfl⟩
      · exact ⟨.tuple [.str "1", .int 1], .tup (SqT.of (mk_but b3 _ _ (mk_new Bb nc))) (.cons (.str _) (.cons (.int _) .nil)), by show max 0 (max 0 0) + 1 ≤ 1; decide, rfl⟩
      · exact ⟨.tuple [.int tt, .none], .tup (SqT.of (mk_but b4 _ _ (mk_new Bc2 nd'))) (.cons (.int _) (.cons .non .nil)), by show max 0 (max 0 0) + 1 ≤ 1; decide, rfl⟩
      · exact ⟨.tuple [.int 1, .int 1], .tup (SqT.of (mk_but b5 _ _ (mk_new Bd ne'))) (.cons (.int _) (.cons (.int _) .nil)), by show max 0 (max 0 0) + 1 ≤ 1; decide, rfl⟩
      · exact ⟨.tuple [.bool false, .int 1], .tup (SqT.of (mk_but bu8 _ _ (mk_new Be nf'))) (.cons (.bl _) (.cons (.int _) .nil)), by show max 0 (max 0 0) + 1 ≤ 1; decide, rfl⟩
    obtain ⟨d', hd', hdep', hsl'⟩ := hcase
    exact fin _ _ _ _ hd' (by omega) hsl' B8 (by omega) (bu.trans b0)
end

def isNum (d : PyData) : Bool := (numOf d).isSome
def dueD (d : PyData) : PyData := match numOf d with
  | some z => .tuple [.str "told", rat z.1 z.2]
  | none => .tuple [.str "refused", d, .bool true]
def quoD (t m : Int) : PyData := if m = 0 then .tuple [.str "refused", .bool true] else .tuple [.str "told", rat (nt t m) (nb t m)]
theorem isNum_whole {d : PyData} (h : wholeD d = true) : isNum d = true := by cases d <;> first | rfl | cases h
theorem isNum_not {d : PyData} (h : ¬ wholeD d = true) : isNum d = isRat d := by cases d <;> first | rfl | exact absurd rfl h
def spConv (K : PySem.W.Frag) : Sp := fun vs H Q _ => ∃ (v : V) (d : PyData), vs = [v] ∧ Dp K H v d ∧ ∀ r H', Same H H' → Dp K H' r (dueD d) → Q r H'
def spQuot (K : PySem.W.Frag) : Sp := fun vs H Q _ => ∃ t m : Int, vs = [.int t, .int m] ∧ m.natAbs < 2 ^ 8000 ∧ ∀ r H', Same H H' → Dp K H' r (quoD t m) → Q r H'
def spSame (K : PySem.W.Frag) (n : Nat) : Sp := fun vs H Q _ => ∃ (x y : V) (d : PyData), vs = [x, y] ∧ Dp K H x d ∧ Dp K H y d ∧ dep d < n ∧ slim d = true ∧ ∀ H', Same H H' → Q (.bl true) H'
section
variable {P : Program} {w : World} {K : PySem.W.Frag} {mg : Str → Option Value} {base : Heap}
theorem ok_is_number (GW : Kn P w K mg base CX0 "is_whole" 1 ["value"] (spD K wholeD)) (GR : Kn P w K mg base CX0 "is_ratio" 2 ["value"] (spD K isRat)) (D : Df K mg "is_number" s_is_number ["value"]) : Kn P w K mg base CX0 "is_number" 3 ["value"] (spD K isNum) := by
  obtain ⟨f, fd, F, hm, hb⟩ := D
  obtain ⟨f_is_whole, fd_is_whole, G_is_whole, m_is_whole, k_is_whole, b_is_whole⟩ := GW
  obtain ⟨f_is_ratio, fd_is_ratio, G_is_ratio, m_is_ratio, k_is_ratio, b_is_ratio⟩ := GR
  refine ⟨f, fd, F.ok sc_is_number (fun vs H Q E h => ?_) (fun cdv A outer s H vs Q E hr h => ?_), hm, F.kp, hb⟩
  · obtain ⟨v, d, rfl, _⟩ := h
    rfl
  · obtain ⟨v, d, rfl, hd, q⟩ := h
    refine ⟨_, (pss_one (ps_ret (pe_or (pe_call G_is_whole (hr.mono (by omega)) rfl m_is_whole k_is_whole b_is_whole .nil pass0 (pa_cons (pv 0) pa_nil)) (pe_one (pe_call G_is_ratio (hr.mono (by omega)) rfl m_is_ratio k_is_ratio b_is_ratio .nil pass0 (pa_cons (pv 0) pa_nil)))))), ?_⟩
    refine ⟨_, rfl, v, d, rfl, hd, fun H1 s1 => ⟨_, rfl, ?_⟩⟩
    refine ite2 (fun c => ?_) (fun c => ?_)
    · have q0 := q H1 s1
      rw [isNum_whole c] at q0
      exact q0
    · refine ⟨_, rfl, v, d, rfl, dp_same s1 _ _ hd, fun H2 s2 => ?_⟩
      have q0 := q H2 (s1.trans s2)
      rw [isNum_not c] at q0
      exact q0
theorem ok_lis_integer (T : Bt mg) (D : Df K mg "_law_is_integer" s_l_is_integer ["_law_value"]) : Kn P w K mg base CX0 "_law_is_integer" 1 ["_law_value"] (spD K wholeD) := by
  obtain ⟨f, fd, F, hm, hb⟩ := D
  refine ⟨f, fd, F.ok sc_l_is_integer (fun vs H Q E h => ?_) (fun cdv A outer s H vs Q E hr h => ?_), hm, F.kp, hb⟩
  · obtain ⟨v, d, rfl, _⟩ := h
    rfl
  · obtain ⟨v, d, rfl, hd, q⟩ := h
    refine ⟨_, (pss_one (ps_ret (pe_and (pe_callB (cr_isi (K := K) rfl) (by rfl) T.n_isinstance (by decide +kernel) (pa_cons (pv 0) (pa_cons (pe_bltn (v := .ty "int") (by rfl) T.n_int (by decide +kernel) rfl) pa_nil))) (pe_one (pe_not (pe_callB (cr_isi (K := K) rfl) (by rfl) T.n_isinstance (by decide +kernel) (pa_cons (pv 0) (pa_cons (pe_bltn (v := .ty "bool") (by rfl) T.n_bool (by decide +kernel) rfl) pa_nil)))))))), ?_⟩
    have q0 := q H (Same.refl H)
    refine ⟨_, rfl, _, _, _, _, _, rfl, .ty _, dp_ty hd, kit_ty (kb_int d), _, rfl, ?_⟩
    refine ite2 (fun c => ?_) (fun c => ?_)
    · refine ⟨_, rfl, _, _, _, _, _, rfl, .ty _, dp_ty hd, kit_ty (kb_bool d), _, rfl, ?_⟩
      have e : (!isBool d) = wholeD d := by cases d <;> first | rfl | cases c
      rw [e]
      exact q0
    · have e : false = wholeD d := by cases d <;> first | rfl | exact absurd rfl c
      rw [e]
      exact q0
theorem ok_converted {C S : Addr} (T : Bt mg) (Ti : ErrF P w K mg base "InvalidNumber" "value" C) (gS : mg "SheetError" = some (.ref S)) (kS : PySem.W.kitOne K (.ref C) (.ref S) = some true)
    (GA : Kn P w K mg base (L2.CX P w) "as_ratio" 3 ["value"] (spAsRatio K C)) (D : Df K mg "_law_converted" s_l_converted ["_law_value"]) : Kn P w K mg base CX0 "_law_converted" 4 ["_law_value"] (spConv K) := by
  obtain ⟨f, fd, F, hm, hb⟩ := D
  obtain ⟨f_as_ratio, fd_as_ratio, G_as_ratio, m_as_ratio, k_as_ratio, b_as_ratio⟩ := GA
  refine ⟨f, fd, F.ok sc_l_converted (fun vs H Q E h => ?_) (fun cdv A outer s H vs Q E hr h => ?_), hm, F.kp, hb⟩
  · obtain ⟨v, d, rfl, _⟩ := h
    rfl
  · obtain ⟨v, d, rfl, hd, q⟩ := h
    refine ⟨_, (pss_cons (ps_set (i := 1) sc_l_converted.nd rfl (Or.inl rfl) pe_non)
      (pss_cons (ps_try_as (i := 2) rfl rfl sc_l_converted.nd rfl rfl ⟨rfl, by decide, Or.inl Ti.gC⟩ takes0 (fun W pn xe tk _ => (pss_one (ps_set (i := 1) sc_l_converted.nd rfl (Or.inl rfl) (pe_tup (pa_cons pe_str (pa_cons (pe_callS G_as_ratio (hr.mono (by omega)) rfl m_as_ratio k_as_ratio b_as_ratio (fun σ => passAt tk σ) (pa_cons (pv 0) pa_nil)) pa_nil)))))) (fun ea oe cls ed pn hz hf => (pss_one (ps_set (i := 1) sc_l_converted.nd rfl (Or.inl rfl) (pe_tup (pa_cons pe_str (pa_cons (pe_xf Ti.xf Ti.no hz hf (pv 2)) (pa_cons (pe_callB (call_isErr Ti.ec hz hf) (by rfl) T.n_isinstance (by decide +kernel) (pa_cons (pv 2) (pa_cons (pe_glob (v := .ref S) rfl gS rfl) pa_nil))) pa_nil))))))))
      (pss_one (ps_ret (pv 1))))), ?_⟩
    refine ⟨_, rfl, v, d, rfl, hd, fun t m r H1 e s1 hr1 => ?_, fun e dx H1 s1 hx => ?_⟩
    · refine ⟨(by show 2 ≤ sizeLine; decide), fun p np => ⟨_, rfl, ?_⟩⟩
      refine q _ _ (s1.trans (same_new np _)) ?_
      unfold dueD
      rw [e]
      exact .tup (SqT.of upd_same) (.cons (.str _) (.cons (dp_same (same_new np _) _ _ hr1) .nil))
    · refine ⟨true, Ti.ex, fun _ ea hea => ?_, fun z => nomatch z⟩
      refine ⟨_, rfl, rfl, rfl, dx, _, v, rfl, hx, rfl, ?_⟩
      refine ⟨_, rfl, .ref S, .ref S, true, rfl, rfl, .own S, kS, .inr ⟨dx, _, rfl, hx⟩, (by show 3 ≤ sizeLine; decide), fun p np => ⟨_, rfl, ?_⟩⟩
      refine q _ _ (s1.trans (same_new np _)) ?_
      unfold dueD
      rw [e]
      exact .tup (SqT.of upd_same) (.cons (.str _) (.cons (dp_same (s1.trans (same_new np _)) _ _ hd) (.cons (.bl true) .nil)))
theorem ok_quotient {C S : Addr} (T : Bt mg) (Tz : ErrZ K mg "ZeroBottom" C) (gS : mg "SheetError" = some (.ref S)) (kS : PySem.W.kitOne K (.ref C) (.ref S) = some true)
    (GA : Kn1 P w K mg base (L2.CX P w) "ratio" 1 ["top", "bottom"] (spRatio C)) (D : Df K mg "_law_quotient" s_l_quotient ["_law_top", "_law_bottom"]) : Kn P w K mg base CX0 "_law_quotient" 2 ["_law_top", "_law_bottom"] (spQuot K) := by
  obtain ⟨f, fd, F, hm, hb⟩ := D
  obtain ⟨f_ratio, fd_ratio, G_ratio, m_ratio, k_ratio, b_ratio, _⟩ := GA
  refine ⟨f, fd, F.ok sc_l_quotient (fun vs H Q E h => ?_) (fun cdv A outer s H vs Q E hr h => ?_), hm, F.kp, hb⟩
  · obtain ⟨t, m, rfl, _⟩ := h
    rfl
  · obtain ⟨t, m, rfl, hB, q⟩ := h
    refine ⟨_, (pss_cons (ps_set (i := 2) sc_l_quotient.nd rfl (Or.inl rfl) pe_non)
      (pss_cons (ps_try_as (i := 3) rfl rfl sc_l_quotient.nd rfl rfl ⟨rfl, by decide, Or.inl Tz.gP⟩ takes0 (fun W pn xe tk _ => (pss_one (ps_set (i := 2) sc_l_quotient.nd rfl (Or.inl rfl) (pe_tup (pa_cons pe_str (pa_cons (pe_callS G_ratio (hr.mono (by omega)) rfl m_ratio k_ratio b_ratio (fun σ => passAt tk σ) (pa_cons (pv 0) (pa_cons (pv 1) pa_nil))) pa_nil)))))) (fun ea oe cls ed pn hz hf => (pss_one (ps_set (i := 2) sc_l_quotient.nd rfl (Or.inl rfl) (pe_tup (pa_cons pe_str (pa_cons (pe_callB (call_isErr Tz.ec hz hf) (by rfl) T.n_isinstance (by decide +kernel) (pa_cons (pv 3) (pa_cons (pe_glob (v := .ref S) rfl gS rfl) pa_nil))) pa_nil)))))))
      (pss_one (ps_ret (pv 2))))), ?_⟩
    refine ⟨_, rfl, _, rfl, t, m, rfl, fun h => gcd_log h hB, fun h0 p1 H1 s1 h1 => ?_, fun h0 => ?_⟩
    · refine ⟨(by show 2 ≤ sizeLine; decide), fun p np => ⟨_, rfl, ?_⟩⟩
      refine q _ _ (s1.trans (same_new np _)) ?_
      unfold quoD
      rw [if_neg h0]
      exact .tup (SqT.of upd_same) (.cons (.str _) (.cons (dp_rat (same_new np _ _ _ h1)) .nil))
    · refine ⟨true, Tz.ex, fun _ ea hea => ?_, fun z => nomatch z⟩
      refine ⟨_, rfl, .ref S, .ref S, true, rfl, rfl, .own S, kS, .inl rfl, (by show 2 ≤ sizeLine; decide), fun p np => ⟨_, rfl, ?_⟩⟩
      refine q _ _ (same_new np _) ?_
      unfold quoD
      rw [if_pos h0]
      exact .tup (SqT.of upd_same) (.cons (.str _) (.cons (.bl true) .nil))
end

theorem dep_get : ∀ {ds : List PyData} {i : Nat} {d : PyData}, ds[i]? = some d → dep d ≤ deps ds
  | [], i, d, h => by simp at h
  | x :: ds, 0, d, h => by
    have e := Option.some.inj h
    subst e
    exact Nat.le_max_left _ _
  | x :: ds, i + 1, d, h => Nat.le_trans (dep_get (ds := ds) (i := i) h) (Nat.le_max_right _ _)
theorem slim_get : ∀ {ds : List PyData} {i : Nat} {d : PyData}, slims ds = true → ds[i]? = some d → slim d = true
  | [], i, d, _, h => by simp at h
  | x :: ds, 0, d, hs, h => by
    have e := Option.some.inj h
    subst e
    exact (Bool.and_eq_true_iff.mp hs).1
  | x :: ds, i + 1, d, hs, h => slim_get (ds := ds) (i := i) (Bool.and_eq_true_iff.mp hs).2 h
theorem slim_lst {ds : List PyData} (h : slim (.list ds) = true) : ds.length ≤ 100 ∧ slims ds = true := by
  have z := Bool.and_eq_true_iff.mp h
  exact ⟨of_decide_eq_true z.1, z.2⟩
theorem slim_tup {ds : List PyData} (h : slim (.tuple ds) = true) : ds.length ≤ 100 ∧ slims ds = true := by
  have z := Bool.and_eq_true_iff.mp h
  exact ⟨of_decide_eq_true z.1, z.2⟩
theorem iteD {c A B : Prop} [Decidable c] (hc : c) (h : A) : if decide c = true then A else B := by
  rw [decide_eq_true hc]
  exact iteT h
theorem all_true : ∀ n : Nat, (List.replicate n true).all id = true
  | 0 => rfl
  | n + 1 => by rw [List.replicate_succ, List.all_cons, all_true n]; rfl
section
variable {P : Program} {w : World} {K : PySem.W.Frag} {mg : Str → Option Value} {base : Heap}
theorem ok_same (T : Bt mg) (D : Df K mg "_law_same" s_l_same ["_law_one", "_law_other"]) : ∀ n : Nat, Kn P w K mg base CX0 "_law_same" n ["_law_one", "_law_other"] (spSame K n)
  | 0 => by
    obtain ⟨f, fd, F, hm, hb⟩ := D
    have no : ∀ vs H Q E, ¬ spSame K 0 vs H Q E := fun vs H Q E h => by
      obtain ⟨x, y, d, _, _, _, h1, _⟩ := h
      exact absurd h1 (Nat.not_lt_zero _)
    exact ⟨f, fd, ⟨fun vs H Q E h => absurd h (no vs H Q E), fun A outer s H args us vs Q E _ _ _ _ h => absurd h (no vs H Q E)⟩, hm, F.kp, hb⟩
  | n + 1 => by
    obtain ⟨f_l_same, fd_l_same, G_l_same, m_l_same, k_l_same, b_l_same⟩ := ok_same T D n
    obtain ⟨f, fd, F, hm, hb⟩ := D
    refine ⟨f, fd, F.ok sc_l_same (fun vs H Q E h => ?_) (fun cdv A outer s H vs Q E hr h => ?_), hm, F.kp, hb⟩
    · obtain ⟨x, y, d, rfl, _⟩ := h
      rfl
    · obtain ⟨x, y, d, rfl, hx, hy, hdep, hsl, q⟩ := h
      refine ⟨_, (pss_cons (ps_if (pt_val (pe_callB (cr_isiT (K := K) rfl) (by rfl) T.n_isinstance (by decide +kernel) (pa_cons (pv 0) (pa_cons (pe_tup (pa_cons (pe_bltn (v := .ty "tuple") (by rfl) T.n_tuple (by decide +kernel) rfl) (pa_cons (pe_bltn (v := .ty "list") (by rfl) T.n_list (by decide +kernel) rfl) pa_nil))) pa_nil)))) (pss_cons (ps_if (PW.pt (pw_or (pt_cmpR op_ne (pe_callB (cr_isi (K := K) rfl) (by rfl) T.n_isinstance (by decide +kernel) (pa_cons (pv 0) (pa_cons (pe_bltn (v := .ty "tuple") (by rfl) T.n_tuple (by decide +kernel) rfl) pa_nil))) (pe_callB (cr_isi (K := K) rfl) (by rfl) T.n_isinstance (by decide +kernel) (pa_cons (pv 1) (pa_cons (pe_bltn (v := .ty "tuple") (by rfl) T.n_tuple (by decide +kernel) rfl) pa_nil))) (nomark _)) (pw_or1 (pt_cmpR op_ne (pe_callB (cr_isi (K := K) rfl) (by rfl) T.n_isinstance (by decide +kernel) (pa_cons (pv 0) (pa_cons (pe_bltn (v := .ty "list") (by rfl) T.n_list (by decide +kernel) rfl) pa_nil))) (pe_callB (cr_isi (K := K) rfl) (by rfl) T.n_isinstance (by decide +kernel) (pa_cons (pv 1) (pa_cons (pe_bltn (v := .ty "list") (by rfl) T.n_list (by decide +kernel) rfl) pa_nil))) (nomark _))))) (pss_one (ps_ret pe_bl)) pss_nil)
      (pss_one (ps_ret (pe_and (pe_cmpR op_eq (pe_callB call_len_seq (by rfl) T.n_len (by decide +kernel) (pa_cons (pv 0) pa_nil)) (pe_callB call_len_seq (by rfl) T.n_len (by decide +kernel) (pa_cons (pv 1) pa_nil)) (nomark _)) (pe_one (pe_callB (cr_all rfl) (by rfl) T.n_all (by decide +kernel) (pa_cons (pe_lc (own := [("_law_part", 2), ("_law_thing", 3)]) rfl sc_l_same.nd (RZ.pi_zipA (by rfl) T.n_zip (pa_cons (pv 0) (pa_cons (pv 1) pa_nil))) (blkOk_by (N := ["_law_one", "_law_other", "_law_part", "_law_thing"]) (sc := defScope s_l_same) (by decide +kernel)) (fun _ _ _ _ _ => (pg_tupK (K := K) (n := 2) rfl (by rfl) (pgs_cons (pg_name (i := 2) sc_l_same.nd rfl (Or.inl rfl)) (pgs_cons (pg_name (i := 3) sc_l_same.nd rfl (Or.inl rfl)) pgs_nil)) (by rfl) (by rfl))) (fun _ _ _ _ _ => pts_nil) (fun _ _ _ _ _ => (pe_call G_l_same (hr.mono (by omega)) rfl m_l_same k_l_same b_l_same .nil pass0 (pa_cons (pv 2) (pa_cons (pv 3) pa_nil))))) pa_nil))))))) pss_nil)
      (pss_one (ps_ret (pe_and (pe_cmpR op_eq (pv 0) (pv 1) (nomark _)) (pe_one (pe_cmpR op_eq (pe_callB (cr_isi (K := K) rfl) (by rfl) T.n_isinstance (by decide +kernel) (pa_cons (pv 0) (pa_cons (pe_bltn (v := .ty "bool") (by rfl) T.n_bool (by decide +kernel) rfl) pa_nil))) (pe_callB (cr_isi (K := K) rfl) (by rfl) T.n_isinstance (by decide +kernel) (pa_cons (pv 1) (pa_cons (pe_bltn (v := .ty "bool") (by rfl) T.n_bool (by decide +kernel) rfl) pa_nil))) (nomark _))))))), ?_⟩
      refine ⟨_, rfl, (by show 2 ≤ sizeLine; decide), fun p np => ?_⟩
      have sp := same_new np (.tup [.ty "tuple", .ty "list"])
      have hx1 := dp_same sp _ _ hx
      have hy1 := dp_same sp _ _ hy
      refine ⟨x, p, _, _, _, isTup d || isLst d, rfl, upd_same, .cons (.ty _) (.cons (.ty _) .nil), dp_ty hx1,
        kitAny_cons (kit_ty (kb_tup d)) (fun e => kitAny_cons (kit_ty (kb_lst d)) (fun e2 => by rw [e, e2]; exact kitAny_nil) (fun e2 => by rw [e2, Bool.or_true])) (fun e => by rw [e, Bool.true_or]), _, rfl, ?_⟩
      refine ite2 (fun c => ?_) (fun c => ?_)
      · refine ⟨_, rfl, _, _, _, _, _, rfl, .ty _, dp_ty hx1, kit_ty (kb_tup d), _, rfl, _, _, _, _, _, rfl, .ty _, dp_ty hy1, kit_ty (kb_tup d), rfl, _, rfl, ?_⟩
        refine iteNS rfl ?_
        refine ⟨_, rfl, _, _, _, _, _, rfl, .ty _, dp_ty hx1, kit_ty (kb_lst d), _, rfl, _, _, _, _, _, rfl, .ty _, dp_ty hy1, kit_ty (kb_lst d), rfl, _, rfl, ?_⟩
        refine iteNS rfl ?_
        cases d with
        | tuple ds =>
          cases hx1 with
          | @tup a xs _ hs ha =>
            cases hy1 with
            | @tup b ys _ ht hb2 =>
              have hlen : xs.length = ys.length := by rw [dps_len ha, dps_len hb2]
              have hsl2 := slim_tup hsl
              have hl1 := dps_len ha
              refine ⟨_, rfl, a, _, rfl, .inr hs, _, rfl, b, _, rfl, .inr ht, rfl, _, rfl, ?_⟩
              refine iteD (by rw [hlen]) ?_
              refine ⟨_, rfl, _, rfl, a, b, xs, ys, rfl, .inr ⟨hs, ht, fun D hD => ?_⟩⟩
              have w := (walk_zipT (xs := xs) (ys := ys) rfl hlen : Walk (RZ.ItzT K a b) xs.length _ _)
              refine lc_it (n := xs.length) (w) (fun i H' => Same _ H' ∧ H' D = some (.lst ((List.replicate i true).map V.bl))) ⟨same_new hD _, upd_same⟩ (fun i H' _ h => ⟨same_seqT h.1 hs, same_seqT h.1 ht⟩) ?_ ?_
              · rintro i v H1 H2 hi ⟨s1, hD1⟩ ⟨Tp, xi, yi, rfl, hT, rfl, ex, ey⟩
                obtain ⟨di, hdi, hxi⟩ := dps_get ha ex
                obtain ⟨di', hdi', hyi⟩ := dps_get hb2 ey
                have ee : di' = di := Option.some.inj (hdi'.symm.trans hdi)
                subst ee
                have sT := same_new hT (.tup [xi, yi])
                have hdl := dep_get hdi
                have hdd : dep di' < n := by
                  have z : deps ds + 1 < n + 1 := hdep
                  omega
                have hDT : D ≠ Tp := ne_of_none hD1 hT
                refine ⟨Tp, _, rfl, SqT.of upd_same, rfl, xi, _, rfl, yi, _, rfl, rfl, rfl, ?_⟩
                refine ⟨_, rfl, _, rfl, xi, yi, di', rfl, dp_same (s1.trans sT) _ _ hxi, dp_same (s1.trans sT) _ _ hyi, hdd, slim_get hsl2.2 hdi, fun H3 s3 => ?_⟩
                refine ⟨_, s3 _ _ (sT _ _ hD1), ?_, same_upd (s1.trans (sT.trans s3)) hD, ?_⟩
                · rw [List.length_map, List.length_replicate]
                  exact small1000 (by omega)
                · rw [upd_same, List.replicate_succ', List.map_append]
                  rfl
              · rintro H1 ⟨s1, hD1⟩
                refine ⟨D, _, rfl, SqL.of hD1, ?_⟩
                rw [all_true]
                exact q _ (sp.trans s1)
        | list ds =>
          cases hx1 with
          | @lst a xs _ hs ha =>
            cases hy1 with
            | @lst b ys _ ht hb2 =>
              have hlen : xs.length = ys.length := by rw [dps_len ha, dps_len hb2]
              have hsl2 := slim_lst hsl
              have hl1 := dps_len ha
              refine ⟨_, rfl, a, _, rfl, .inl hs, _, rfl, b, _, rfl, .inl ht, rfl, _, rfl, ?_⟩
              refine iteD (by rw [hlen]) ?_
              refine ⟨_, rfl, _, rfl, a, b, xs, ys, rfl, .inl ⟨hs, ht, fun D hD => ?_⟩⟩
              have w := (walk_zip (xs := xs) (ys := ys) (by rw [hlen, Nat.min_self]) : Walk (Itz K a b) xs.length _ _)
              refine lc_it (n := xs.length) (w) (fun i H' => Same _ H' ∧ H' D = some (.lst ((List.replicate i true).map V.bl))) ⟨same_new hD _, upd_same⟩ (fun i H' _ h => ⟨Same.seq h.1 hs, Same.seq h.1 ht⟩) ?_ ?_
              · rintro i v H1 H2 hi ⟨s1, hD1⟩ ⟨Tp, xi, yi, rfl, hT, rfl, ex, ey⟩
                obtain ⟨di, hdi, hxi⟩ := dps_get ha ex
                obtain ⟨di', hdi', hyi⟩ := dps_get hb2 ey
                have ee : di' = di := Option.some.inj (hdi'.symm.trans hdi)
                subst ee
                have sT := same_new hT (.tup [xi, yi])
                have hdl := dep_get hdi
                have hdd : dep di' < n := by
                  have z : deps ds + 1 < n + 1 := hdep
                  omega
                have hDT : D ≠ Tp := ne_of_none hD1 hT
                refine ⟨Tp, _, rfl, SqT.of upd_same, rfl, xi, _, rfl, yi, _, rfl, rfl, rfl, ?_⟩
                refine ⟨_, rfl, _, rfl, xi, yi, di', rfl, dp_same (s1.trans sT) _ _ hxi, dp_same (s1.trans sT) _ _ hyi, hdd, slim_get hsl2.2 hdi, fun H3 s3 => ?_⟩
                refine ⟨_, s3 _ _ (sT _ _ hD1), ?_, same_upd (s1.trans (sT.trans s3)) hD, ?_⟩
                · rw [List.length_map, List.length_replicate]
                  exact small1000 (by omega)
                · rw [upd_same, List.replicate_succ', List.map_append]
                  rfl
              · rintro H1 ⟨s1, hD1⟩
                refine ⟨D, _, rfl, SqL.of hD1, ?_⟩
                rw [all_true]
                exact q _ (sp.trans s1)
        | none => cases c
        | bool _ => cases c
        | int _ => cases c
        | str _ => cases c
        | dict _ => cases c
      · have e : y = x ∧ scal x y = true := by
          cases d with
          | tuple _ => exact absurd rfl c
          | list _ => exact absurd rfl c
          | none => cases hx; cases hy; exact ⟨rfl, rfl⟩
          | bool _ => cases hx; cases hy; exact ⟨rfl, rfl⟩
          | int _ => cases hx; cases hy; exact ⟨rfl, rfl⟩
          | str _ => cases hx; cases hy; exact ⟨rfl, rfl⟩
          | dict _ => cases hx
        obtain ⟨rfl, e2⟩ := e
        refine ⟨_, rfl, _, rfl, e2, _, rfl, ?_⟩
        refine iteD rfl ?_
        refine ⟨_, rfl, _, _, _, _, _, rfl, .ty _, dp_ty hx1, kit_ty (kb_bool d), _, rfl, _, _, _, _, _, rfl, .ty _, dp_ty hx1, kit_ty (kb_bool d), rfl, ?_⟩
        have q0 := q _ sp
        rw [← decide_eq_true (rfl : V.bl (isBool d) = V.bl (isBool d))] at q0
        exact q0
end

def spLaw (K : PySem.W.Frag) : Sp := fun vs H Q _ => ∃ (a : Addr) (ns : List Int), vs = [.ref a] ∧ SqL K H a (ns.map V.int) ∧ ns.length ≤ 63 ∧ ∀ H', Q (.bl true) H'
def dd1 (d : PyData) : PyData := if isRat d = true then .tuple [.str "told", d] else .tuple [.str "refused", d, .bool true]
theorem dd1_due {d : PyData} (h : ¬ wholeD d = true) : dd1 d = dueD d := by
  have e : numOf d = ratOf d := by cases d <;> first | rfl | exact absurd rfl h
  unfold dd1 dueD isRat
  rw [e]
  cases hr : ratOf d with
  | none => rfl
  | some z =>
    have e2 := ratOf_is hr
    show PyData.tuple [.str "told", d] = .tuple [.str "told", rat z.1 z.2]
    rw [← e2]
def word (d : PyData) : Str := if isNum d = true then "told" else "refused"
theorem due_word (d : PyData) : ∃ r, dueD d = .tuple (.str (word d) :: r) := by
  unfold dueD word isNum
  cases numOf d with
  | none => exact ⟨_, rfl⟩
  | some z => exact ⟨_, rfl⟩
theorem word_told (d : PyData) : decide (V.str (word d) = V.str "told") = isNum d := by
  unfold word
  cases isNum d with
  | true => rfl
  | false =>
    show decide (V.str "refused" = V.str "told") = false
    decide +kernel
theorem due_dep {d : PyData} (h : dep d ≤ 20) : dep (dueD d) < 30 := by
  unfold dueD
  cases numOf d with
  | none => show max 0 (max (dep d) (max 0 0)) + 1 < 30; omega
  | some z => show max 0 (max (max 0 (max 0 0) + 1) 0) + 1 < 30; decide
theorem due_slim {d : PyData} (h : slim d = true) : slim (dueD d) = true := by
  unfold dueD
  cases numOf d with
  | none => show (true && (true && (slim d && true))) = true; rw [h]; rfl
  | some z => rfl
theorem quo_dep (t m : Int) : dep (quoD t m) < 30 := by
  unfold quoD
  split
  · show max 0 (max 0 0) + 1 < 30; decide
  · show max 0 (max (max 0 (max 0 0) + 1) 0) + 1 < 30; decide
theorem quo_slim (t m : Int) : slim (quoD t m) = true := by
  unfold quoD
  split <;> rfl
theorem nt_one (t : Int) : nt t 1 = t := by
  unfold nt
  rw [if_neg (by decide), Int.gcd_one_right]
  exact Int.ediv_one t
theorem nb_one (t : Int) : nb t 1 = 1 := by
  unfold nb
  rw [Int.gcd_one_right]
  rfl
section
variable {P : Program} {w : World} {K : PySem.W.Frag} {mg : Str → Option Value} {base : Heap}
theorem ok_law {Cz : Addr} (T : Bt mg) (GB : Kn P w K mg base CX0 "_law_box" 1 ["_law_script"] (spBox K)) (GO : Kn P w K mg base CX0 "_law_odd" 4 ["_law_box_here"] (spOdd K)) (GI : Kn P w K mg base CX0 "_law_is_ratio" 2 ["_law_value"] (spD K isRat))
    (GJ : Kn P w K mg base CX0 "_law_is_integer" 1 ["_law_value"] (spD K wholeD)) (GR : Kn P w K mg base CX0 "is_ratio" 2 ["value"] (spD K isRat)) (GN : Kn P w K mg base CX0 "is_number" 3 ["value"] (spD K isNum))
    (GC : Kn P w K mg base CX0 "_law_converted" 4 ["_law_value"] (spConv K)) (GQ : Kn P w K mg base CX0 "_law_quotient" 2 ["_law_top", "_law_bottom"] (spQuot K)) (GL : Kn P w K mg base CX0 "_law_long" 3 ["_law_box_here"] spLong)
    (GM : Kn P w K mg base CX0 "_law_ratio" 2 ["_law_top", "_law_bottom"] spLRatio) (GS : Kn P w K mg base CX0 "_law_same" 30 ["_law_one", "_law_other"] (spSame K 30)) (GT : Kn1 P w K mg base (L2.CX P w) "ratio" 1 ["top", "bottom"] (spRatio Cz))
    {f : Addr} {fd : FuncData} (F : Fun K "law" "law" s_law f fd) : FnOk P w K mg base CX0 40 f fd ["_law_script"] (spLaw K) := by
  obtain ⟨f_l_box, fd_l_box, G_l_box, m_l_box, k_l_box, b_l_box⟩ := GB
  obtain ⟨f_l_odd, fd_l_odd, G_l_odd, m_l_odd, k_l_odd, b_l_odd⟩ := GO
  obtain ⟨f_l_is_ratio, fd_l_is_ratio, G_l_is_ratio, m_l_is_ratio, k_l_is_ratio, b_l_is_ratio⟩ := GI
  obtain ⟨f_l_is_integer, fd_l_is_integer, G_l_is_integer, m_l_is_integer, k_l_is_integer, b_l_is_integer⟩ := GJ
  obtain ⟨f_is_ratio, fd_is_ratio, G_is_ratio, m_is_ratio, k_is_ratio, b_is_ratio⟩ := GR
  obtain ⟨f_is_number, fd_is_number, G_is_number, m_is_number, k_is_number, b_is_number⟩ := GN
  obtain ⟨f_l_converted, fd_l_converted, G_l_converted, m_l_converted, k_l_converted, b_l_converted⟩ := GC
  obtain ⟨f_l_quotient, fd_l_quotient, G_l_quotient, m_l_quotient, k_l_quotient, b_l_quotient⟩ := GQ
  obtain ⟨f_l_long, fd_l_long, G_l_long, m_l_long, k_l_long, b_l_long⟩ := GL
  obtain ⟨f_l_ratio, fd_l_ratio, G_l_ratio, m_l_ratio, k_l_ratio, b_l_ratio⟩ := GM
  obtain ⟨f_l_same, fd_l_same, G_l_same, m_l_same, k_l_same, b_l_same⟩ := GS
  obtain ⟨f_ratio, fd_ratio, G_ratio, m_ratio, k_ratio, b_ratio, ds1, hds, b1_ratio⟩ := GT
  refine F.ok sc_law (k := 39) (fun vs H Q E h => ?_) (fun cdv A outer s H vs Q E hr h => ?_)
  · obtain ⟨a, ns, rfl, _⟩ := h
    rfl
  · obtain ⟨a, ns, rfl, hS, hl, q⟩ := h
    refine ⟨_, (pss_cons (ps_set (i := 1) sc_law.nd rfl (Or.inl rfl) (pe_call G_l_box (hr.mono (by omega)) rfl m_l_box k_l_box b_l_box .nil pass0 (pa_cons (pv 0) pa_nil)))
      (pss_cons (ps_for PassesOwn.never rfl (pi_range1 rfl T.n_range (pa_cons pe_int pa_nil)) (pg_name (i := 2) sc_law.nd rfl (Or.inl rfl))
        (pss_cons (ps_set (i := 3) sc_law.nd rfl (Or.inl rfl) (pe_call G_l_odd (hr.mono (by omega)) rfl m_l_odd k_l_odd b_l_odd .nil pass0 (pa_cons (pv 1) pa_nil)))
      (pss_cons (ps_set (i := 4) sc_law.nd rfl (Or.inl rfl) (pe_tup (pa_cons pe_str (pa_cons (pv 3) (pa_cons pe_bl pa_nil)))))
      (C8.pss_cut (ps_if (pt_val (pe_call G_l_is_ratio (hr.mono (by omega)) rfl m_l_is_ratio k_l_is_ratio b_l_is_ratio .nil pass0 (pa_cons (pv 3) pa_nil))) (pss_one (ps_set (i := 4) sc_law.nd rfl (Or.inl rfl) (pe_tup (pa_cons pe_str (pa_cons (pv 3) pa_nil))))) pss_nil)
      (C8.pss_cut (ps_if (pt_val (pe_call G_l_is_integer (hr.mono (by omega)) rfl m_l_is_integer k_l_is_integer b_l_is_integer .nil pass0 (pa_cons (pv 3) pa_nil))) (pss_one (ps_set (i := 4) sc_law.nd rfl (Or.inl rfl) (pe_tup (pa_cons pe_str (pa_cons (pe_tup (pa_cons (pv 3) (pa_cons pe_int pa_nil))) pa_nil))))) pss_nil)
      (pss_cons (ps_if (pt_not (pt_val (pe_call G_l_same (hr.mono (by omega)) rfl m_l_same k_l_same b_l_same .nil pass0 (pa_cons (pe_lst (pa_cons (pe_call G_is_ratio (hr.mono (by omega)) rfl m_is_ratio k_is_ratio b_is_ratio .nil pass0 (pa_cons (pv 3) pa_nil)) (pa_cons (pe_call G_is_number (hr.mono (by omega)) rfl m_is_number k_is_number b_is_number .nil pass0 (pa_cons (pv 3) pa_nil)) pa_nil))) (pa_cons (pe_lst (pa_cons (pe_call G_l_is_ratio (hr.mono (by omega)) rfl m_l_is_ratio k_l_is_ratio b_l_is_ratio .nil pass0 (pa_cons (pv 3) pa_nil)) (pa_cons (pe_cmpR op_eq (pe_ix ix_tup (pv 4) pe_int (fun _ _ => rfl)) pe_str (nomark _)) pa_nil))) pa_nil))))) (pss_one (ps_ret pe_bl)) pss_nil)
      (pss_cons (ps_if (pt_not (pt_val (pe_call G_l_same (hr.mono (by omega)) rfl m_l_same k_l_same b_l_same .nil pass0 (pa_cons (pe_call G_l_converted (hr.mono (by omega)) rfl m_l_converted k_l_converted b_l_converted .nil pass0 (pa_cons (pv 3) pa_nil)) (pa_cons (pv 4) pa_nil))))) (pss_one (ps_ret pe_bl)) pss_nil)
      (pss_cons (ps_par (i := 5) (j := 6) (by rfl) sc_law.nd rfl rfl (by decide) rfl rfl (pa_cons (pe_call G_l_long (hr.mono (by omega)) rfl m_l_long k_l_long b_l_long .nil pass0 (pa_cons (pv 1) pa_nil)) (pa_cons (pe_call G_l_long (hr.mono (by omega)) rfl m_l_long k_l_long b_l_long .nil pass0 (pa_cons (pv 1) pa_nil)) pa_nil)) (by rfl))
      (C8.pss_cut (ps_set (i := 4) sc_law.nd rfl (Or.inl rfl) (pe_ifExp (pt_cmpR op_eq (pv 6) pe_int (nomark _)) (pe_tup (pa_cons pe_str (pa_cons pe_bl pa_nil))) (pe_tup (pa_cons pe_str (pa_cons (pe_call G_l_ratio (hr.mono (by omega)) rfl m_l_ratio k_l_ratio b_l_ratio .nil pass0 (pa_cons (pv 5) (pa_cons (pe_op op_add (pv 6) (pe_callTy call_int1 (by rfl) T.n_int (by decide +kernel) (pa_cons (pe_cmpR op_eq (pv 6) pe_int (nomark _)) pa_nil))) pa_nil))) pa_nil)))))
      (pss_one (ps_if (PW.pt (pw_or (pt_not (pt_val (pe_call G_l_same (hr.mono (by omega)) rfl m_l_same k_l_same b_l_same .nil pass0 (pa_cons (pe_call G_l_quotient (hr.mono (by omega)) rfl m_l_quotient k_l_quotient b_l_quotient .nil pass0 (pa_cons (pv 5) (pa_cons (pv 6) pa_nil))) (pa_cons (pv 4) pa_nil))))) (pw_or1 (pt_not (pt_val (pe_call G_l_same (hr.mono (by omega)) rfl m_l_same k_l_same b_l_same .nil pass0 (pa_cons (pe_call G_ratio (hr.mono (by omega)) rfl m_ratio k_ratio b1_ratio hds passL (pa_cons (pv 5) pa_nil)) (pa_cons (pe_tup (pa_cons (pv 5) (pa_cons pe_int pa_nil))) pa_nil)))))))) (pss_one (ps_ret pe_bl)) pss_nil)))))))))))
      (pss_one (ps_ret pe_bl)))), ?_⟩
    refine ⟨_, rfl, a, ns, rfl, hS, hl, fun b g c H0 B0 _ _ _ _ => ?_⟩
    refine ⟨12, rfl, by decide, by decide, ?_⟩
    refine for_range (lo := 0) (n := 12) (fun i σ H' => ∃ s2 s3 s4 s5 s6, σ = [some (.ref a), some (.ref b), s2, s3, s4, s5, s6] ∧ Box H' b g c (i * 100)) ⟨_, _, _, _, _, rfl, B0⟩ ?_ ?_
    · rintro i σ H1 hi ⟨s2, s3, s4, s5, s6, rfl, B1⟩
      refine ⟨_, rfl, b, g, c, _, rfl, B1, by omega, fun v d H2 hdm hdep hsl B2 _ => ?_⟩
      have hd2 : Dp K H2 v d := dp_same (mk_sub b g H2) _ _ hdm
      refine ⟨_, rfl, (by show 3 ≤ sizeLine; decide), fun p np => ?_⟩
      have s3' := same_new np (.tup [.str "refused", v, .bl true])
      refine ⟨fun σ H3 => Same H2 H3 ∧ ∃ dv, σ = [some (.ref a), some (.ref b), some (.int (0 + (i : Int))), some v, some dv, s5, s6] ∧ Dp K H3 dv (dd1 d), ?_, ?_⟩
      · refine ⟨_, rfl, v, d, rfl, dp_same s3' _ _ hd2, fun H3 s4' => ⟨_, rfl, ?_⟩⟩
        refine ite2 (fun c1 => ?_) (fun c1 => ?_)
        · refine ⟨_, rfl, (by show 2 ≤ sizeLine; decide), fun p2 np2 => ?_⟩
          have s5' := same_new np2 (.tup [.str "told", v])
          refine ⟨s3'.trans (s4'.trans s5'), _, rfl, ?_⟩
          unfold dd1
          rw [if_pos c1]
          exact .tup (SqT.of upd_same) (.cons (.str _) (.cons (dp_same (s3'.trans (s4'.trans s5')) _ _ hd2) .nil))
        · refine ⟨s3'.trans s4', _, rfl, ?_⟩
          unfold dd1
          rw [if_neg c1]
          exact .tup (SqT.of (s4' _ _ upd_same)) (.cons (.str _) (.cons (dp_same (s3'.trans s4') _ _ hd2) (.cons (.bl _) .nil)))
      rintro σ H3 ⟨s23, dv, rfl, hdv⟩
      have hd3 := dp_same s23 _ _ hd2
      refine ⟨fun σ H4 => Same H2 H4 ∧ ∃ dv, σ = [some (.ref a), some (.ref b), some (.int (0 + (i : Int))), some v, some dv, s5, s6] ∧ Dp K H4 dv (dueD d), ?_, ?_⟩
      · refine ⟨_, rfl, v, d, rfl, hd3, fun H4 s34 => ⟨_, rfl, ?_⟩⟩
        refine ite2 (fun c1 => ?_) (fun c1 => ?_)
        · obtain ⟨z, rfl⟩ : ∃ z, d = .int z := by cases d <;> first | exact ⟨_, rfl⟩ | cases c1
          cases hd2
          refine ⟨_, rfl, (by show 2 ≤ sizeLine; decide), fun p2 np2 => ?_⟩
          have s5' := same_new np2 (.tup [.int z, .int 1])
          refine ⟨(by show 2 ≤ sizeLine; decide), fun p3 np3 => ?_⟩
          have s6' := same_new np3 (.tup [.str "told", .ref p2])
          exact ⟨s23.trans (s34.trans (s5'.trans s6')), _, rfl, .tup (SqT.of upd_same) (.cons (.str _) (.cons (dp_rat (s6' _ _ upd_same)) .nil))⟩
        · refine ⟨s23.trans s34, _, rfl, ?_⟩
          rw [← dd1_due c1]
          exact dp_same s34 _ _ hdv
      rintro σ H4 ⟨s24, dv, rfl, hdv⟩
      have hd4 := dp_same s24 _ _ hd2
      -- the two checks of the program, told by the law's own
      obtain ⟨rest, hrest⟩ := due_word d
      refine ⟨_, rfl, v, d, rfl, hd4, fun H5 s45 => ⟨_, rfl, v, d, rfl, dp_same s45 _ _ hd4, fun H6 s56 => ⟨(by show 2 ≤ sizeLine; decide), fun p1 np1 => ?_⟩⟩⟩
      have s67 := same_new np1 (.lst [.bl (isRat d), .bl (isNum d)])
      have s47 := s45.trans (s56.trans s67)
      refine ⟨_, rfl, v, d, rfl, dp_same s47 _ _ hd4, fun H8 s78 => ?_⟩
      have s48 := s47.trans s78
      have hdv8 := dp_same s48 _ _ hdv
      have hw : ∃ pd xs, dv = .ref pd ∧ SqT K H8 pd (.str (word d) :: xs) := by
        rw [hrest] at hdv8
        cases hdv8 with
        | tup hs ha =>
          cases ha with
          | cons h1 h2 =>
            cases h1
            exact ⟨_, _, rfl, hs⟩
      obtain ⟨pd, xs, rfl, hpd⟩ := hw
      refine ⟨_, rfl, pd, _, 0, .str (word d), rfl, rfl, hpd, at_of (j := 0) rfl rfl, rfl, (by show 2 ≤ sizeLine; decide), fun p2 np2 => ?_⟩
      rw [word_told]
      have s89 := same_new np2 (.lst [.bl (isRat d), .bl (isNum d)])
      refine ⟨.ref p1, .ref p2, .list [.bool (isRat d), .bool (isNum d)], rfl, .lst (SqL.of (s89 _ _ (s78 _ _ upd_same))) (.cons (.bl _) (.cons (.bl _) .nil)), .lst (SqL.of upd_same) (.cons (.bl _) (.cons (.bl _) .nil)), (by show max 0 (max 0 0) + 1 < 30; decide), rfl, fun H10 s910 => ⟨_, rfl, ?_⟩⟩
      have s410 := s48.trans (s89.trans s910)
      -- as_ratio
      refine ⟨_, rfl, v, d, rfl, dp_same s410 _ _ hd4, fun r H11 s1011 hr11 => ⟨_, rfl, r, V.ref pd, dueD d, rfl, hr11, dp_same (s410.trans s1011) _ _ hdv, due_dep hdep, due_slim hsl, fun H12 s1112 => ⟨_, rfl, ?_⟩⟩⟩
      have s212 := s24.trans (s410.trans (s1011.trans s1112))
      have B12 := B2.same s212
      -- top, bottom
      refine ⟨_, rfl, b, g, c, _, rfl, B12, by omega, fun top H13 htop B13 _ => ⟨_, rfl, b, g, c, _, rfl, B13, by omega, fun bot H14 hbot B14 _ => ⟨_, _, rfl, ?_⟩⟩⟩
      have hbot8 : bot.natAbs < 2 ^ 8000 := Nat.lt_trans hbot (pow8000 700 (by decide))
      refine ⟨fun σ H15 => Same H14 H15 ∧ ∃ dv, σ = [some (.ref a), some (.ref b), some (.int (0 + (i : Int))), some v, some dv, some (.int top), some (.int bot)] ∧ Dp K H15 dv (quoD top bot), ?_, ?_⟩
      · refine ⟨_, rfl, rfl, _, rfl, ?_⟩
        refine ite2 (fun c1 => ?_) (fun c1 => ?_)
        · have e : bot = 0 := by
            have z := of_decide_eq_true c1
            injection z
          refine ⟨(by show 2 ≤ sizeLine; decide), fun p3 np3 => ⟨same_new np3 _, _, rfl, ?_⟩⟩
          unfold quoD
          rw [if_pos e]
          exact .tup (SqT.of upd_same) (.cons (.str _) (.cons (.bl _) .nil))
        · have e : bot ≠ 0 := fun z => c1 (by rw [z]; rfl)
          refine ⟨_, rfl, _, rfl, _, rfl, rfl, .inr ⟨_, rfl, _, _, rfl, rfl, ?_⟩⟩
          have e3 : (if decide (V.int bot = V.int 0) = true then (1 : Int) else 0) = 0 := if_neg c1
          rw [e3]
          refine ⟨top, bot + 0, rfl, by omega, by rw [Int.add_zero]; exact hbot8, fun p3 H15 s1415 hp3 => ?_⟩
          rw [Int.add_zero] at hp3
          refine ⟨(by show 2 ≤ sizeLine; decide), fun p4 np4 => ⟨s1415.trans (same_new np4 _), _, rfl, ?_⟩⟩
          unfold quoD
          rw [if_neg e]
          exact .tup (SqT.of upd_same) (.cons (.str _) (.cons (dp_rat (same_new np4 _ _ _ hp3)) .nil))
      rintro σ H15 ⟨s1415, dv, rfl, hdv15⟩
      refine ⟨_, rfl, _, rfl, top, bot, rfl, hbot8, fun r H16 s1516 hr16 => ⟨_, rfl, r, dv, quoD top bot, rfl, hr16, dp_same s1516 _ _ hdv15, quo_dep _ _, quo_slim _ _, fun H17 s1617 => ⟨_, rfl, ?_⟩⟩⟩
      refine ⟨_, rfl, top, 1, rfl, fun h => gcd_log h (pow8000' 1 1 (by decide) (by decide)), fun _ p3 H18 s1718 hp3 => ?_, fun z => absurd z (by decide)⟩
      rw [nt_one, nb_one] at hp3
      refine ⟨_, rfl, (by show 2 ≤ sizeLine; decide), fun p4 np4 => ?_⟩
      have s1819 := same_new np4 (.tup [.int top, .int 1])
      refine ⟨.ref p3, .ref p4, rat top 1, rfl, dp_rat (s1819 _ _ hp3), dp_rat upd_same, (by show max 0 (max 0 0) + 1 < 30; decide), rfl, fun H20 s1920 => ⟨_, rfl, ?_⟩⟩
      exact ⟨_, _, _, _, _, rfl, (B14.same (s1415.trans (s1516.trans (s1617.trans (s1718.trans (s1819.trans s1920)))))).mono (by omega)⟩
    · rintro σ H1 ⟨s2, s3, s4, s5, s6, rfl, B1⟩
      exact q H1
end

theorem walk {l : PySem.W.OpenLaw} {q : Program} {loose : List Str} {XP : (Str → Option Value) → Heap → Prop} {YP : World → Heap → Prop} {d : DefRec} {K : Params → PySem.W.Frag} (hn : l.most = some 63) (hdf : d.params.defaults = [])
    (hY : ∀ (w : World) (h : Heap), YP w h → (K w.params).In h)
    (F : ∀ (w : World) (mg : Str → Option Value) (fa : Addr) (h : Heap), (K w.params).In h → h.Ns mainGlobals mg → mg d.name = some (.ref fa) →
      ∃ fd : FuncData, (∀ (s : Shared) (u : Value), BindsTo s fd ⟨[u], []⟩ [("_law_script", u)]) ∧ ∀ base : Heap, (K w.params).In base → base.Ns mainGlobals mg → FnOk l.prog w (K w.params) mg base CX0 40 fa fd ["_law_script"] (spLaw (K w.params))) :
    PySem.W.WalkO q loose XP YP l.row.toRowW d [] (fun f vs => PySem.call f vs) :=
  L2.walk_of (n := 63) (k := 40) (x := "_law_script") (CX := fun _ => CX0) (sp := fun w => spLaw (K w.params)) hn (by decide) hdf ⟨rfl, by decide, by decide⟩ hY F (fun _ _ a ns hl _ hS => ⟨a, ns, rfl, hS, hl, fun _ => rfl⟩) fun _ _ _ _ _ z => z

theorem all_mk {l : PySem.W.OpenLaw} {w : World} {K : PySem.W.Frag} {h : Heap} {mg : Str → Option Value} {fa : Addr} (X : K.In h) (G : h.Ns mainGlobals mg) (hfa : mg "law" = some (.ref fa))
    {f_is_whole f_is_ratio f_is_number f_as_ratio f_l_box f_l_mixed f_l_take f_l_shared f_l_ratio f_l_is_ratio f_l_long f_l_odd f_l_is_integer f_l_converted f_l_quotient f_l_same f_law f_ratio T_ratio C_SheetError C_ZeroBottom C_InvalidNumber f_InvalidNumber_init : Addr}
    {od_is_whole : Option Addr}
    {an_is_whole : Option Addr}
    {sl_is_whole : Array (Option Value)}
    {oc_is_whole : Value}
    {kV_is_whole : Value}
    {dc_is_whole : Value}
    {pm_is_whole : Value}
    {cd_is_whole : Value}
    {ct_is_whole : Value}
    {od_is_ratio : Option Addr}
    {an_is_ratio : Option Addr}
    {sl_is_ratio : Array (Option Value)}
    {oc_is_ratio : Value}
    {kV_is_ratio : Value}
    {dc_is_ratio : Value}
    {pm_is_ratio : Value}
    {cd_is_ratio : Value}
    {ct_is_ratio : Value}
    {od_is_number : Option Addr}
    {an_is_number : Option Addr}
    {sl_is_number : Array (Option Value)}
    {oc_is_number : Value}
    {kV_is_number : Value}
    {dc_is_number : Value}
    {pm_is_number : Value}
    {cd_is_number : Value}
    {ct_is_number : Value}
    {od_as_ratio : Option Addr}
    {an_as_ratio : Option Addr}
    {sl_as_ratio : Array (Option Value)}
    {oc_as_ratio : Value}
    {kV_as_ratio : Value}
    {dc_as_ratio : Value}
    {pm_as_ratio : Value}
    {cd_as_ratio : Value}
    {ct_as_ratio : Value}
    {od_l_box : Option Addr}
    {an_l_box : Option Addr}
    {sl_l_box : Array (Option Value)}
    {oc_l_box : Value}
    {kV_l_box : Value}
    {dc_l_box : Value}
    {pm_l_box : Value}
    {cd_l_box : Value}
    {ct_l_box : Value}
    {od_l_mixed : Option Addr}
    {an_l_mixed : Option Addr}
    {sl_l_mixed : Array (Option Value)}
    {oc_l_mixed : Value}
    {kV_l_mixed : Value}
    {dc_l_mixed : Value}
    {pm_l_mixed : Value}
    {cd_l_mixed : Value}
    {ct_l_mixed : Value}
    {od_l_take : Option Addr}
    {an_l_take : Option Addr}
    {sl_l_take : Array (Option Value)}
    {oc_l_take : Value}
    {kV_l_take : Value}
    {dc_l_take : Value}
    {pm_l_take : Value}
    {cd_l_take : Value}
    {ct_l_take : Value}
    {od_l_shared : Option Addr}
    {an_l_shared : Option Addr}
    {sl_l_shared : Array (Option Value)}
    {oc_l_shared : Value}
    {kV_l_shared : Value}
    {dc_l_shared : Value}
    {pm_l_shared : Value}
    {cd_l_shared : Value}
    {ct_l_shared : Value}
    {od_l_ratio : Option Addr}
    {an_l_ratio : Option Addr}
    {sl_l_ratio : Array (Option Value)}
    {oc_l_ratio : Value}
    {kV_l_ratio : Value}
    {dc_l_ratio : Value}
    {pm_l_ratio : Value}
    {cd_l_ratio : Value}
    {ct_l_ratio : Value}
    {od_l_is_ratio : Option Addr}
    {an_l_is_ratio : Option Addr}
    {sl_l_is_ratio : Array (Option Value)}
    {oc_l_is_ratio : Value}
    {kV_l_is_ratio : Value}
    {dc_l_is_ratio : Value}
    {pm_l_is_ratio : Value}
    {cd_l_is_ratio : Value}
    {ct_l_is_ratio : Value}
    {od_l_long : Option Addr}
    {an_l_long : Option Addr}
    {sl_l_long : Array (Option Value)}
    {oc_l_long : Value}
    {kV_l_long : Value}
    {dc_l_long : Value}
    {pm_l_long : Value}
    {cd_l_long : Value}
    {ct_l_long : Value}
    {od_l_odd : Option Addr}
    {an_l_odd : Option Addr}
    {sl_l_odd : Array (Option Value)}
    {oc_l_odd : Value}
    {kV_l_odd : Value}
    {dc_l_odd : Value}
    {pm_l_odd : Value}
    {cd_l_odd : Value}
    {ct_l_odd : Value}
    {od_l_is_integer : Option Addr}
    {an_l_is_integer : Option Addr}
    {sl_l_is_integer : Array (Option Value)}
    {oc_l_is_integer : Value}
    {kV_l_is_integer : Value}
    {dc_l_is_integer : Value}
    {pm_l_is_integer : Value}
    {cd_l_is_integer : Value}
    {ct_l_is_integer : Value}
    {od_l_converted : Option Addr}
    {an_l_converted : Option Addr}
    {sl_l_converted : Array (Option Value)}
    {oc_l_converted : Value}
    {kV_l_converted : Value}
    {dc_l_converted : Value}
    {pm_l_converted : Value}
    {cd_l_converted : Value}
    {ct_l_converted : Value}
    {od_l_quotient : Option Addr}
    {an_l_quotient : Option Addr}
    {sl_l_quotient : Array (Option Value)}
    {oc_l_quotient : Value}
    {kV_l_quotient : Value}
    {dc_l_quotient : Value}
    {pm_l_quotient : Value}
    {cd_l_quotient : Value}
    {ct_l_quotient : Value}
    {od_l_same : Option Addr}
    {an_l_same : Option Addr}
    {sl_l_same : Array (Option Value)}
    {oc_l_same : Value}
    {kV_l_same : Value}
    {dc_l_same : Value}
    {pm_l_same : Value}
    {cd_l_same : Value}
    {ct_l_same : Value}
    {od_law : Option Addr}
    {an_law : Option Addr}
    {sl_law : Array (Option Value)}
    {oc_law : Value}
    {kV_law : Value}
    {dc_law : Value}
    {pm_law : Value}
    {cd_law : Value}
    {ct_law : Value}
    {od_ratio : Option Addr}
    {an_ratio : Option Addr}
    {sl_ratio : Array (Option Value)}
    {oc_ratio : Value}
    {kV_ratio : Value}
    {dc_ratio : Value}
    {pm_ratio : Value}
    {cd_ratio : Value}
    {ct_ratio : Value}
    {to_ratio : Value}
    {td_ratio : Option Addr}
    {tn_ratio : Nat}
    {ts_ratio : Array (Option Value)}
    {tt_ratio : Tok}
    {nm_InvalidNumber q_InvalidNumber : Str}
    {N_InvalidNumber : Addr}
    {bs_InvalidNumber : List Value}
    {sn_InvalidNumber : List Str}
    {sub_InvalidNumber : List Value}
    {ab_InvalidNumber : Bool}
    {col_InvalidNumber : Option Bool}
    {dd_InvalidNumber : Option Addr}
    {m0_InvalidNumber m1_InvalidNumber m2_InvalidNumber m3_InvalidNumber m5_InvalidNumber : Option Value}
    {od_InvalidNumber_init : Option Addr}
    {an_InvalidNumber_init : Option Addr}
    {sl_InvalidNumber_init : Array (Option Value)}
    {oc_InvalidNumber_init : Value}
    {kV_InvalidNumber_init : Value}
    {dc_InvalidNumber_init : Value}
    {pm_InvalidNumber_init : Value}
    {cd_InvalidNumber_init : Value}
    {ct_InvalidNumber_init : Value}
    (a_is_whole : PySem.W.nsIn K mainGlobals "is_whole" = some (some (.ref f_is_whole)))
    (l_is_whole : K.lookup f_is_whole = some ⟨oc_is_whole, od_is_whole, .func (PySem.W.fnOf "is_whole" "is_whole" (defArgs s_is_whole) (defBody s_is_whole) (defScope s_is_whole) .none kV_is_whole dc_is_whole pm_is_whole an_is_whole cd_is_whole ct_is_whole), sl_is_whole⟩)
    (c_is_whole : PySem.W.codeIn K cd_is_whole "is_whole" = true)
    (k_is_whole : PySem.W.keepIn K (.ref f_is_whole) = true)
    (a_is_ratio : PySem.W.nsIn K mainGlobals "is_ratio" = some (some (.ref f_is_ratio)))
    (l_is_ratio : K.lookup f_is_ratio = some ⟨oc_is_ratio, od_is_ratio, .func (PySem.W.fnOf "is_ratio" "is_ratio" (defArgs s_is_ratio) (defBody s_is_ratio) (defScope s_is_ratio) .none kV_is_ratio dc_is_ratio pm_is_ratio an_is_ratio cd_is_ratio ct_is_ratio), sl_is_ratio⟩)
    (c_is_ratio : PySem.W.codeIn K cd_is_ratio "is_ratio" = true)
    (k_is_ratio : PySem.W.keepIn K (.ref f_is_ratio) = true)
    (a_is_number : PySem.W.nsIn K mainGlobals "is_number" = some (some (.ref f_is_number)))
    (l_is_number : K.lookup f_is_number = some ⟨oc_is_number, od_is_number, .func (PySem.W.fnOf "is_number" "is_number" (defArgs s_is_number) (defBody s_is_number) (defScope s_is_number) .none kV_is_number dc_is_number pm_is_number an_is_number cd_is_number ct_is_number), sl_is_number⟩)
    (c_is_number : PySem.W.codeIn K cd_is_number "is_number" = true)
    (k_is_number : PySem.W.keepIn K (.ref f_is_number) = true)
    (a_as_ratio : PySem.W.nsIn K mainGlobals "as_ratio" = some (some (.ref f_as_ratio)))
    (l_as_ratio : K.lookup f_as_ratio = some ⟨oc_as_ratio, od_as_ratio, .func (PySem.W.fnOf "as_ratio" "as_ratio" (defArgs s_as_ratio) (defBody s_as_ratio) (defScope s_as_ratio) .none kV_as_ratio dc_as_ratio pm_as_ratio an_as_ratio cd_as_ratio ct_as_ratio), sl_as_ratio⟩)
    (c_as_ratio : PySem.W.codeIn K cd_as_ratio "as_ratio" = true)
    (k_as_ratio : PySem.W.keepIn K (.ref f_as_ratio) = true)
    (a_l_box : PySem.W.nsIn K mainGlobals "_law_box" = some (some (.ref f_l_box)))
    (l_l_box : K.lookup f_l_box = some ⟨oc_l_box, od_l_box, .func (PySem.W.fnOf "_law_box" "_law_box" (defArgs s_l_box) (defBody s_l_box) (defScope s_l_box) .none kV_l_box dc_l_box pm_l_box an_l_box cd_l_box ct_l_box), sl_l_box⟩)
    (c_l_box : PySem.W.codeIn K cd_l_box "_law_box" = true)
    (k_l_box : PySem.W.keepIn K (.ref f_l_box) = true)
    (a_l_mixed : PySem.W.nsIn K mainGlobals "_law_mixed" = some (some (.ref f_l_mixed)))
    (l_l_mixed : K.lookup f_l_mixed = some ⟨oc_l_mixed, od_l_mixed, .func (PySem.W.fnOf "_law_mixed" "_law_mixed" (defArgs s_l_mixed) (defBody s_l_mixed) (defScope s_l_mixed) .none kV_l_mixed dc_l_mixed pm_l_mixed an_l_mixed cd_l_mixed ct_l_mixed), sl_l_mixed⟩)
    (c_l_mixed : PySem.W.codeIn K cd_l_mixed "_law_mixed" = true)
    (k_l_mixed : PySem.W.keepIn K (.ref f_l_mixed) = true)
    (a_l_take : PySem.W.nsIn K mainGlobals "_law_take" = some (some (.ref f_l_take)))
    (l_l_take : K.lookup f_l_take = some ⟨oc_l_take, od_l_take, .func (PySem.W.fnOf "_law_take" "_law_take" (defArgs s_l_take) (defBody s_l_take) (defScope s_l_take) .none kV_l_take dc_l_take pm_l_take an_l_take cd_l_take ct_l_take), sl_l_take⟩)
    (c_l_take : PySem.W.codeIn K cd_l_take "_law_take" = true)
    (k_l_take : PySem.W.keepIn K (.ref f_l_take) = true)
    (a_l_shared : PySem.W.nsIn K mainGlobals "_law_shared" = some (some (.ref f_l_shared)))
    (l_l_shared : K.lookup f_l_shared = some ⟨oc_l_shared, od_l_shared, .func (PySem.W.fnOf "_law_shared" "_law_shared" (defArgs s_l_shared) (defBody s_l_shared) (defScope s_l_shared) .none kV_l_shared dc_l_shared pm_l_shared an_l_shared cd_l_shared ct_l_shared), sl_l_shared⟩)
    (c_l_shared : PySem.W.codeIn K cd_l_shared "_law_shared" = true)
    (k_l_shared : PySem.W.keepIn K (.ref f_l_shared) = true)
    (a_l_ratio : PySem.W.nsIn K mainGlobals "_law_ratio" = some (some (.ref f_l_ratio)))
    (l_l_ratio : K.lookup f_l_ratio = some ⟨oc_l_ratio, od_l_ratio, .func (PySem.W.fnOf "_law_ratio" "_law_ratio" (defArgs s_l_ratio) (defBody s_l_ratio) (defScope s_l_ratio) .none kV_l_ratio dc_l_ratio pm_l_ratio an_l_ratio cd_l_ratio ct_l_ratio), sl_l_ratio⟩)
    (c_l_ratio : PySem.W.codeIn K cd_l_ratio "_law_ratio" = true)
    (k_l_ratio : PySem.W.keepIn K (.ref f_l_ratio) = true)
    (a_l_is_ratio : PySem.W.nsIn K mainGlobals "_law_is_ratio" = some (some (.ref f_l_is_ratio)))
    (l_l_is_ratio : K.lookup f_l_is_ratio = some ⟨oc_l_is_ratio, od_l_is_ratio, .func (PySem.W.fnOf "_law_is_ratio" "_law_is_ratio" (defArgs s_l_is_ratio) (defBody s_l_is_ratio) (defScope s_l_is_ratio) .none kV_l_is_ratio dc_l_is_ratio pm_l_is_ratio an_l_is_ratio cd_l_is_ratio ct_l_is_ratio), sl_l_is_ratio⟩)
    (c_l_is_ratio : PySem.W.codeIn K cd_l_is_ratio "_law_is_ratio" = true)
    (k_l_is_ratio : PySem.W.keepIn K (.ref f_l_is_ratio) = true)
    (a_l_long : PySem.W.nsIn K mainGlobals "_law_long" = some (some (.ref f_l_long)))
    (l_l_long : K.lookup f_l_long = some ⟨oc_l_long, od_l_long, .func (PySem.W.fnOf "_law_long" "_law_long" (defArgs s_l_long) (defBody s_l_long) (defScope s_l_long) .none kV_l_long dc_l_long pm_l_long an_l_long cd_l_long ct_l_long), sl_l_long⟩)
    (c_l_long : PySem.W.codeIn K cd_l_long "_law_long" = true)
    (k_l_long : PySem.W.keepIn K (.ref f_l_long) = true)
    (a_l_odd : PySem.W.nsIn K mainGlobals "_law_odd" = some (some (.ref f_l_odd)))
    (l_l_odd : K.lookup f_l_odd = some ⟨oc_l_odd, od_l_odd, .func (PySem.W.fnOf "_law_odd" "_law_odd" (defArgs s_l_odd) (defBody s_l_odd) (defScope s_l_odd) .none kV_l_odd dc_l_odd pm_l_odd an_l_odd cd_l_odd ct_l_odd), sl_l_odd⟩)
    (c_l_odd : PySem.W.codeIn K cd_l_odd "_law_odd" = true)
    (k_l_odd : PySem.W.keepIn K (.ref f_l_odd) = true)
    (a_l_is_integer : PySem.W.nsIn K mainGlobals "_law_is_integer" = some (some (.ref f_l_is_integer)))
    (l_l_is_integer : K.lookup f_l_is_integer = some ⟨oc_l_is_integer, od_l_is_integer, .func (PySem.W.fnOf "_law_is_integer" "_law_is_integer" (defArgs s_l_is_integer) (defBody s_l_is_integer) (defScope s_l_is_integer) .none kV_l_is_integer dc_l_is_integer pm_l_is_integer an_l_is_integer cd_l_is_integer ct_l_is_integer), sl_l_is_integer⟩)
    (c_l_is_integer : PySem.W.codeIn K cd_l_is_integer "_law_is_integer" = true)
    (k_l_is_integer : PySem.W.keepIn K (.ref f_l_is_integer) = true)
    (a_l_converted : PySem.W.nsIn K mainGlobals "_law_converted" = some (some (.ref f_l_converted)))
    (l_l_converted : K.lookup f_l_converted = some ⟨oc_l_converted, od_l_converted, .func (PySem.W.fnOf "_law_converted" "_law_converted" (defArgs s_l_converted) (defBody s_l_converted) (defScope s_l_converted) .none kV_l_converted dc_l_converted pm_l_converted an_l_converted cd_l_converted ct_l_converted), sl_l_converted⟩)
    (c_l_converted : PySem.W.codeIn K cd_l_converted "_law_converted" = true)
    (k_l_converted : PySem.W.keepIn K (.ref f_l_converted) = true)
    (a_l_quotient : PySem.W.nsIn K mainGlobals "_law_quotient" = some (some (.ref f_l_quotient)))
    (l_l_quotient : K.lookup f_l_quotient = some ⟨oc_l_quotient, od_l_quotient, .func (PySem.W.fnOf "_law_quotient" "_law_quotient" (defArgs s_l_quotient) (defBody s_l_quotient) (defScope s_l_quotient) .none kV_l_quotient dc_l_quotient pm_l_quotient an_l_quotient cd_l_quotient ct_l_quotient), sl_l_quotient⟩)
    (c_l_quotient : PySem.W.codeIn K cd_l_quotient "_law_quotient" = true)
    (k_l_quotient : PySem.W.keepIn K (.ref f_l_quotient) = true)
    (a_l_same : PySem.W.nsIn K mainGlobals "_law_same" = some (some (.ref f_l_same)))
    (l_l_same : K.lookup f_l_same = some ⟨oc_l_same, od_l_same, .func (PySem.W.fnOf "_law_same" "_law_same" (defArgs s_l_same) (defBody s_l_same) (defScope s_l_same) .none kV_l_same dc_l_same pm_l_same an_l_same cd_l_same ct_l_same), sl_l_same⟩)
    (c_l_same : PySem.W.codeIn K cd_l_same "_law_same" = true)
    (k_l_same : PySem.W.keepIn K (.ref f_l_same) = true)
    (a_law : PySem.W.nsIn K mainGlobals "law" = some (some (.ref f_law)))
    (l_law : K.lookup f_law = some ⟨oc_law, od_law, .func (PySem.W.fnOf "law" "law" (defArgs s_law) (defBody s_law) (defScope s_law) .none kV_law dc_law pm_law an_law cd_law ct_law), sl_law⟩)
    (c_law : PySem.W.codeIn K cd_law "law" = true)
    (k_law : PySem.W.keepIn K (.ref f_law) = true)
    (a_ratio : PySem.W.nsIn K mainGlobals "ratio" = some (some (.ref f_ratio)))
    (l_ratio : K.lookup f_ratio = some ⟨oc_ratio, od_ratio, .func (PySem.W.fnOf "ratio" "ratio" (defArgs s_ratio) (defBody s_ratio) (defScope s_ratio) (.ref T_ratio) kV_ratio dc_ratio pm_ratio an_ratio cd_ratio ct_ratio), sl_ratio⟩)
    (c_ratio : PySem.W.codeIn K cd_ratio "ratio" = true)
    (k_ratio : PySem.W.keepIn K (.ref f_ratio) = true)
    (t_ratio : K.lookup T_ratio = some ⟨to_ratio, td_ratio, .seq #[.int 1 tt_ratio] tn_ratio, ts_ratio⟩)
    (aC_SheetError : PySem.W.nsIn K mainGlobals "SheetError" = some (some (.ref C_SheetError)))
    (aC_ZeroBottom : PySem.W.nsIn K mainGlobals "ZeroBottom" = some (some (.ref C_ZeroBottom)))
    (aC_InvalidNumber : PySem.W.nsIn K mainGlobals "InvalidNumber" = some (some (.ref C_InvalidNumber)))
    (special : PySem.W.specialIn K (.builtin "object.__class__") "__get__" = some (some (.builtin "getset_descriptor.__get__")))
    (takes : PySem.W.takesIn K (.builtin "object.__class__") = some true)
    (kS_ZeroBottom : PySem.W.kitOne K (.ref C_ZeroBottom) (.ref C_SheetError) = some true)
    (ga_ZeroBottom : PySem.W.findIn K (.ref C_ZeroBottom) "__getattribute__" = some (some (.builtin "BaseException.__getattribute__")))
    (gg_ZeroBottom : PySem.W.findIn K (.ref C_ZeroBottom) "__getattr__" = some none)
    (sb_ZeroBottom : PySem.W.subIn K (.ref C_ZeroBottom) (.type "BaseException") = some true)
    (hd_ZeroBottom : PySem.W.hasDictIn K C_ZeroBottom = true)
    (ha_ZeroBottom : PySem.W.findIn K (.ref C_ZeroBottom) "__class__" = some (some (.builtin "object.__class__")))
    (hm_ZeroBottom : PySem.W.mroIn K C_ZeroBottom (.type "object") = some true)
    (ty_ZeroBottom : PySem.W.typeIn K (.ref C_ZeroBottom) = some (.type "type"))
    (kp_ZeroBottom : PySem.W.keepIn K (.ref C_ZeroBottom) = true)
    (ex_ZeroBottom : PySem.W.exmOne K (.ref C_ZeroBottom) (.ref C_ZeroBottom) = some true)
    (xp_ZeroBottom : PySem.W.excIn K C_ZeroBottom [.type "ValueError", .type "Exception", .type "BaseException", .type "object"] "ValueError.__new__" = true)
    (kS_InvalidNumber : PySem.W.kitOne K (.ref C_InvalidNumber) (.ref C_SheetError) = some true)
    (ga_InvalidNumber : PySem.W.findIn K (.ref C_InvalidNumber) "__getattribute__" = some (some (.builtin "BaseException.__getattribute__")))
    (gg_InvalidNumber : PySem.W.findIn K (.ref C_InvalidNumber) "__getattr__" = some none)
    (sb_InvalidNumber : PySem.W.subIn K (.ref C_InvalidNumber) (.type "BaseException") = some true)
    (hd_InvalidNumber : PySem.W.hasDictIn K C_InvalidNumber = true)
    (ha_InvalidNumber : PySem.W.findIn K (.ref C_InvalidNumber) "__class__" = some (some (.builtin "object.__class__")))
    (hm_InvalidNumber : PySem.W.mroIn K C_InvalidNumber (.type "object") = some true)
    (ty_InvalidNumber : PySem.W.typeIn K (.ref C_InvalidNumber) = some (.type "type"))
    (kp_InvalidNumber : PySem.W.keepIn K (.ref C_InvalidNumber) = true)
    (ex_InvalidNumber : PySem.W.exmOne K (.ref C_InvalidNumber) (.ref C_InvalidNumber) = some true)
    (x_InvalidNumber : K.lookup C_InvalidNumber = some (excClassObj nm_InvalidNumber q_InvalidNumber C_InvalidNumber N_InvalidNumber bs_InvalidNumber [.ref C_SheetError, .type "ValueError", .type "Exception", .type "BaseException", .type "object"] true sn_InvalidNumber sub_InvalidNumber ab_InvalidNumber col_InvalidNumber dd_InvalidNumber m0_InvalidNumber m1_InvalidNumber m2_InvalidNumber m3_InvalidNumber m5_InvalidNumber "ValueError.__new__"))
    (sa_InvalidNumber : PySem.W.findIn K (.ref C_InvalidNumber) "__setattr__" = some (some (.builtin "object.__setattr__")))
    (no_InvalidNumber : PySem.W.findIn K (.ref C_InvalidNumber) "value" = some none)
    (i_InvalidNumber : PySem.W.findIn K (.ref C_InvalidNumber) "__init__" = some (some (.ref f_InvalidNumber_init)))
    (ti_InvalidNumber : PySem.W.typeIn K (.ref f_InvalidNumber_init) = some (.type "function"))
    (l_InvalidNumber_init : K.lookup f_InvalidNumber_init = some ⟨oc_InvalidNumber_init, od_InvalidNumber_init, .func (PySem.W.fnOf "__init__" "InvalidNumber.__init__" (defArgs s_InvalidNumber_init) (defBody s_InvalidNumber_init) (defScope s_InvalidNumber_init) .none kV_InvalidNumber_init dc_InvalidNumber_init pm_InvalidNumber_init an_InvalidNumber_init cd_InvalidNumber_init ct_InvalidNumber_init), sl_InvalidNumber_init⟩)
    (c_InvalidNumber_init : PySem.W.codeIn K cd_InvalidNumber_init "InvalidNumber.__init__" = true)
    (k_InvalidNumber_init : PySem.W.keepIn K (.ref f_InvalidNumber_init) = true)
    (n_len : PySem.W.nsIn K mainGlobals "len" = some none)
    (n_max : PySem.W.nsIn K mainGlobals "max" = some none)
    (n_abs : PySem.W.nsIn K mainGlobals "abs" = some none)
    (n_any : PySem.W.nsIn K mainGlobals "any" = some none)
    (n_all : PySem.W.nsIn K mainGlobals "all" = some none)
    (n_isinstance : PySem.W.nsIn K mainGlobals "isinstance" = some none)
    (n_range : PySem.W.nsIn K mainGlobals "range" = some none)
    (n_zip : PySem.W.nsIn K mainGlobals "zip" = some none)
    (n_int : PySem.W.nsIn K mainGlobals "int" = some none)
    (n_bool : PySem.W.nsIn K mainGlobals "bool" = some none)
    (n_tuple : PySem.W.nsIn K mainGlobals "tuple" = some none)
    (n_list : PySem.W.nsIn K mainGlobals "list" = some none)
    (g_gcd : PySem.W.nsIn K mainGlobals "gcd" = some (some (.builtin "math.gcd"))) :
    ∃ fd : FuncData, (∀ (s : Shared) (v : Value), BindsTo s fd ⟨[v], []⟩ [("_law_script", v)]) ∧ ∀ base : Heap, K.In base → base.Ns mainGlobals mg → FnOk l.prog w K mg base CX0 40 fa fd ["_law_script"] (spLaw K) := by
  have e := hfa.symm.trans (PySem.W.mg_of X G a_law)
  cases e
  have T : Bt mg := ⟨PySem.W.mg_none_of X G n_len, PySem.W.mg_none_of X G n_max, PySem.W.mg_none_of X G n_abs, PySem.W.mg_none_of X G n_any, PySem.W.mg_none_of X G n_all, PySem.W.mg_none_of X G n_isinstance, PySem.W.mg_none_of X G n_range, PySem.W.mg_none_of X G n_zip, PySem.W.mg_none_of X G n_int, PySem.W.mg_none_of X G n_bool, PySem.W.mg_none_of X G n_tuple, PySem.W.mg_none_of X G n_list⟩
  have Tg : Gt mg := ⟨PySem.W.mg_of X G g_gcd⟩
  have F_is_whole := fun_mk (st := s_is_whole) l_is_whole c_is_whole k_is_whole
  have D_is_whole : Df K mg "is_whole" s_is_whole ["value"] := ⟨_, _, F_is_whole, PySem.W.mg_of X G a_is_whole, F_is_whole.binds fun _ _ _ _ _ _ us hl => match us, hl with | [_], _ => rfl⟩
  have F_is_ratio := fun_mk (st := s_is_ratio) l_is_ratio c_is_ratio k_is_ratio
  have D_is_ratio : Df K mg "is_ratio" s_is_ratio ["value"] := ⟨_, _, F_is_ratio, PySem.W.mg_of X G a_is_ratio, F_is_ratio.binds fun _ _ _ _ _ _ us hl => match us, hl with | [_], _ => rfl⟩
  have F_is_number := fun_mk (st := s_is_number) l_is_number c_is_number k_is_number
  have D_is_number : Df K mg "is_number" s_is_number ["value"] := ⟨_, _, F_is_number, PySem.W.mg_of X G a_is_number, F_is_number.binds fun _ _ _ _ _ _ us hl => match us, hl with | [_], _ => rfl⟩
  have F_as_ratio := fun_mk (st := s_as_ratio) l_as_ratio c_as_ratio k_as_ratio
  have D_as_ratio : Df K mg "as_ratio" s_as_ratio ["value"] := ⟨_, _, F_as_ratio, PySem.W.mg_of X G a_as_ratio, F_as_ratio.binds fun _ _ _ _ _ _ us hl => match us, hl with | [_], _ => rfl⟩
  have F_l_box := fun_mk (st := s_l_box) l_l_box c_l_box k_l_box
  have D_l_box : Df K mg "_law_box" s_l_box ["_law_script"] := ⟨_, _, F_l_box, PySem.W.mg_of X G a_l_box, F_l_box.binds fun _ _ _ _ _ _ us hl => match us, hl with | [_], _ => rfl⟩
  have F_l_mixed := fun_mk (st := s_l_mixed) l_l_mixed c_l_mixed k_l_mixed
  have D_l_mixed : Df K mg "_law_mixed" s_l_mixed ["_law_cell", "_law_k"] := ⟨_, _, F_l_mixed, PySem.W.mg_of X G a_l_mixed, F_l_mixed.binds fun _ _ _ _ _ _ us hl => match us, hl with | [_, _], _ => rfl⟩
  have F_l_take := fun_mk (st := s_l_take) l_l_take c_l_take k_l_take
  have D_l_take : Df K mg "_law_take" s_l_take ["_law_box_here", "_law_size"] := ⟨_, _, F_l_take, PySem.W.mg_of X G a_l_take, F_l_take.binds fun _ _ _ _ _ _ us hl => match us, hl with | [_, _], _ => rfl⟩
  have F_l_shared := fun_mk (st := s_l_shared) l_l_shared c_l_shared k_l_shared
  have D_l_shared : Df K mg "_law_shared" s_l_shared ["_law_one", "_law_other"] := ⟨_, _, F_l_shared, PySem.W.mg_of X G a_l_shared, F_l_shared.binds fun _ _ _ _ _ _ us hl => match us, hl with | [_, _], _ => rfl⟩
  have F_l_ratio := fun_mk (st := s_l_ratio) l_l_ratio c_l_ratio k_l_ratio
  have D_l_ratio : Df K mg "_law_ratio" s_l_ratio ["_law_top", "_law_bottom"] := ⟨_, _, F_l_ratio, PySem.W.mg_of X G a_l_ratio, F_l_ratio.binds fun _ _ _ _ _ _ us hl => match us, hl with | [_, _], _ => rfl⟩
  have F_l_is_ratio := fun_mk (st := s_l_is_ratio) l_l_is_ratio c_l_is_ratio k_l_is_ratio
  have D_l_is_ratio : Df K mg "_law_is_ratio" s_l_is_ratio ["_law_value"] := ⟨_, _, F_l_is_ratio, PySem.W.mg_of X G a_l_is_ratio, F_l_is_ratio.binds fun _ _ _ _ _ _ us hl => match us, hl with | [_], _ => rfl⟩
  have F_l_long := fun_mk (st := s_l_long) l_l_long c_l_long k_l_long
  have D_l_long : Df K mg "_law_long" s_l_long ["_law_box_here"] := ⟨_, _, F_l_long, PySem.W.mg_of X G a_l_long, F_l_long.binds fun _ _ _ _ _ _ us hl => match us, hl with | [_], _ => rfl⟩
  have F_l_odd := fun_mk (st := s_l_odd) l_l_odd c_l_odd k_l_odd
  have D_l_odd : Df K mg "_law_odd" s_l_odd ["_law_box_here"] := ⟨_, _, F_l_odd, PySem.W.mg_of X G a_l_odd, F_l_odd.binds fun _ _ _ _ _ _ us hl => match us, hl with | [_], _ => rfl⟩
  have F_l_is_integer := fun_mk (st := s_l_is_integer) l_l_is_integer c_l_is_integer k_l_is_integer
  have D_l_is_integer : Df K mg "_law_is_integer" s_l_is_integer ["_law_value"] := ⟨_, _, F_l_is_integer, PySem.W.mg_of X G a_l_is_integer, F_l_is_integer.binds fun _ _ _ _ _ _ us hl => match us, hl with | [_], _ => rfl⟩
  have F_l_converted := fun_mk (st := s_l_converted) l_l_converted c_l_converted k_l_converted
  have D_l_converted : Df K mg "_law_converted" s_l_converted ["_law_value"] := ⟨_, _, F_l_converted, PySem.W.mg_of X G a_l_converted, F_l_converted.binds fun _ _ _ _ _ _ us hl => match us, hl with | [_], _ => rfl⟩
  have F_l_quotient := fun_mk (st := s_l_quotient) l_l_quotient c_l_quotient k_l_quotient
  have D_l_quotient : Df K mg "_law_quotient" s_l_quotient ["_law_top", "_law_bottom"] := ⟨_, _, F_l_quotient, PySem.W.mg_of X G a_l_quotient, F_l_quotient.binds fun _ _ _ _ _ _ us hl => match us, hl with | [_, _], _ => rfl⟩
  have F_l_same := fun_mk (st := s_l_same) l_l_same c_l_same k_l_same
  have D_l_same : Df K mg "_law_same" s_l_same ["_law_one", "_law_other"] := ⟨_, _, F_l_same, PySem.W.mg_of X G a_l_same, F_l_same.binds fun _ _ _ _ _ _ us hl => match us, hl with | [_, _], _ => rfl⟩
  have F_law := fun_mk (st := s_law) l_law c_law k_law
  have D_law : Df K mg "law" s_law ["_law_script"] := ⟨_, _, F_law, PySem.W.mg_of X G a_law, F_law.binds fun _ _ _ _ _ _ us hl => match us, hl with | [_], _ => rfl⟩
  have F_ratio : FunD K "ratio" "ratio" (defArgs s_ratio) (defBody s_ratio) (defScope s_ratio) [.int 1] [] f_ratio _ := ⟨⟨_, _, _, _, _, _, _, _, _, _, rfl, l_ratio, c_ratio, .inr ⟨List.cons_ne_nil _ _, T_ratio, _, [.int 1 tt_ratio], _, rfl, t_ratio, rfl, .cons ⟨_, rfl⟩ .nil⟩, .inl rfl⟩, k_ratio⟩
  have D_ratio : Df1 K mg "ratio" s_ratio ["top", "bottom"] := by
    obtain ⟨ds0, v0, b0⟩ := F_ratio.binds1 (ps := ["top", "bottom"]) 2 1 (List.cons_ne_nil _ _) rfl fun _ _ _ _ _ _ _ us its hl hi => match us, its, hl, hi with | [_, _], [_], _, _ => ⟨_, rfl, rfl⟩
    obtain ⟨ds1, v1, b1⟩ := F_ratio.binds1 (ps := ["top", "bottom"]) 1 0 (List.cons_ne_nil _ _) rfl fun _ _ _ _ _ _ _ us its hl hi => match us, its, hl, hi with | [_], [_], _, _ => ⟨_, rfl, rfl⟩
    cases v0
    exact ⟨_, _, F_ratio, PySem.W.mg_of X G a_ratio, b0, ds1, v1, b1⟩
  have ec_ZeroBottom : ExcC K C_ZeroBottom := ⟨ga_ZeroBottom, gg_ZeroBottom, sb_ZeroBottom, hd_ZeroBottom, ha_ZeroBottom, special, takes, hm_ZeroBottom⟩
  have Z_ZeroBottom : ErrZ K mg "ZeroBottom" C_ZeroBottom := ⟨PySem.W.mg_of X G aC_ZeroBottom, xp_ZeroBottom, kp_ZeroBottom, sb_ZeroBottom, ty_ZeroBottom, ec_ZeroBottom, ex_ZeroBottom⟩
  have ec_InvalidNumber : ExcC K C_InvalidNumber := ⟨ga_InvalidNumber, gg_InvalidNumber, sb_InvalidNumber, hd_InvalidNumber, ha_InvalidNumber, special, takes, hm_InvalidNumber⟩
  have ox_InvalidNumber : OexC K C_InvalidNumber := ⟨⟨nm_InvalidNumber, q_InvalidNumber, N_InvalidNumber, bs_InvalidNumber, _, sn_InvalidNumber, sub_InvalidNumber, ab_InvalidNumber, col_InvalidNumber, dd_InvalidNumber, m0_InvalidNumber, m1_InvalidNumber, m2_InvalidNumber, m3_InvalidNumber, m5_InvalidNumber, x_InvalidNumber, by show PySem.HandSPX.refsVE _ = true; rfl⟩, sa_InvalidNumber, sb_InvalidNumber, ty_InvalidNumber, kp_InvalidNumber⟩
  have Fi_InvalidNumber := fun_mk (st := s_InvalidNumber_init) l_InvalidNumber_init c_InvalidNumber_init k_InvalidNumber_init
  refine ⟨PySem.W.fnOf "law" "law" (defArgs s_law) (defBody s_law) (defScope s_law) .none kV_law dc_law pm_law an_law cd_law ct_law, fun s v => .of_eq rfl, fun base _ _ => ?_⟩
  have K_mixed := ok_mixed (P := l.prog) (w := w) (base := base) D_l_mixed
  have K_shared := ok_shared (P := l.prog) (w := w) (base := base) T D_l_shared
  have K_take := ok_take T K_mixed D_l_take
  have K_box := ok_box (P := l.prog) (w := w) (base := base) D_l_box
  have K_lratio := ok_lratio K_shared D_l_ratio
  have K_lisr := ok_lis_ratio T K_shared D_l_is_ratio
  have K_long := ok_long K_take D_l_long
  have K_odd := ok_odd T K_take K_long K_lratio D_l_odd
  have K_whole := ok_is_whole (P := l.prog) (w := w) (base := base) T D_is_whole
  have K_isr := ok_is_ratio T Tg K_whole D_is_ratio
  have K_num := ok_is_number K_whole K_isr D_is_number
  have K_int := ok_lis_integer (P := l.prog) (w := w) (base := base) T D_l_is_integer
  have E_inv : ErrF l.prog w K mg base "InvalidNumber" "value" C_InvalidNumber := ⟨PySem.W.mg_of X G aC_InvalidNumber, ox_InvalidNumber, ⟨ga_InvalidNumber, gg_InvalidNumber, sb_InvalidNumber, hd_InvalidNumber⟩, no_InvalidNumber, ec_InvalidNumber, ex_InvalidNumber,
    ⟨_, _, i_InvalidNumber, ti_InvalidNumber, ok_errinit Fi_InvalidNumber ox_InvalidNumber no_InvalidNumber, Fi_InvalidNumber.binds fun _ _ _ _ _ _ us hl => match us, hl with | [_, _], _ => rfl⟩⟩
  have K_as := ok_as_ratio T E_inv K_whole K_isr D_as_ratio
  have K_ratio := ok_ratio (P := l.prog) (w := w) (base := base) T Tg Z_ZeroBottom D_ratio
  have K_conv := ok_converted T E_inv (PySem.W.mg_of X G aC_SheetError) kS_InvalidNumber K_as D_l_converted
  have K_quo := ok_quotient T Z_ZeroBottom (PySem.W.mg_of X G aC_SheetError) kS_ZeroBottom K_ratio D_l_quotient
  have K_same := ok_same (P := l.prog) (w := w) (base := base) T D_l_same 30
  exact ok_law T K_box K_odd K_lisr K_int K_isr K_num K_conv K_quo K_long K_lratio K_same K_ratio F_law

end Bs
open PySem PySem.W PyProof.Rows
set_option maxRecDepth 100000 in
set_option maxHeartbeats 0 in
theorem PySem.Challenge.cw_backsheet_k01_ratios_and_numbers_holds : PySem.Challenge.rw_backsheet_k01_ratios_and_numbers.Holds := by
  w_on; o_law; k_head; (case hw => w_witness2)
  k_fill
  refine Bs.walk (l := PySem.Challenge.rw_backsheet_k01_ratios_and_numbers) rfl rfl (fun w h Y => PySem.W.kIn_of Y) ?F
  case F =>
    intro w mg fa h KX G hmg
    refine' Bs.all_mk KX G hmg ?a_is_whole ?l_is_whole ?c_is_whole ?k_is_whole ?a_is_ratio ?l_is_ratio ?c_is_ratio ?k_is_ratio ?a_is_number ?l_is_number ?c_is_number ?k_is_number ?a_as_ratio ?l_as_ratio ?c_as_ratio ?k_as_ratio ?a_l_box ?l_l_box ?c_l_box ?k_l_box ?a_l_mixed ?l_l_mixed ?c_l_mixed ?k_l_mixed ?a_l_take ?l_l_take ?c_l_take ?k_l_take ?a_l_shared ?l_l_shared ?c_l_shared ?k_l_shared ?a_l_ratio ?l_l_ratio ?c_l_ratio ?k_l_ratio ?a_l_is_ratio ?l_l_is_ratio ?c_l_is_ratio ?k_l_is_ratio ?a_l_long ?l_l_long ?c_l_long ?k_l_long ?a_l_odd ?l_l_odd ?c_l_odd ?k_l_odd ?a_l_is_integer ?l_l_is_integer ?c_l_is_integer ?k_l_is_integer ?a_l_converted ?l_l_converted ?c_l_converted ?k_l_converted ?a_l_quotient ?l_l_quotient ?c_l_quotient ?k_l_quotient ?a_l_same ?l_l_same ?c_l_same ?k_l_same ?a_law ?l_law ?c_law ?k_law ?a_ratio ?l_ratio ?c_ratio ?k_ratio ?t_ratio ?aC_SheetError ?aC_ZeroBottom ?aC_InvalidNumber ?special ?takes ?kS_ZeroBottom ?ga_ZeroBottom ?gg_ZeroBottom ?sb_ZeroBottom ?hd_ZeroBottom ?ha_ZeroBottom ?hm_ZeroBottom ?ty_ZeroBottom ?kp_ZeroBottom ?ex_ZeroBottom ?xp_ZeroBottom ?kS_InvalidNumber ?ga_InvalidNumber ?gg_InvalidNumber ?sb_InvalidNumber ?hd_InvalidNumber ?ha_InvalidNumber ?hm_InvalidNumber ?ty_InvalidNumber ?kp_InvalidNumber ?ex_InvalidNumber ?x_InvalidNumber ?sa_InvalidNumber ?no_InvalidNumber ?i_InvalidNumber ?ti_InvalidNumber ?l_InvalidNumber_init ?c_InvalidNumber_init ?k_InvalidNumber_init ?n_len ?n_max ?n_abs ?n_any ?n_all ?n_isinstance ?n_range ?n_zip ?n_int ?n_bool ?n_tuple ?n_list ?g_gcd
    (case a_is_whole => k_is)
    (case l_is_whole => k_is)
    (case c_is_whole => k_is)
    (case k_is_whole => k_is)
    (case a_is_ratio => k_is)
    (case l_is_ratio => k_is)
    (case c_is_ratio => k_is)
    (case k_is_ratio => k_is)
    (case a_is_number => k_is)
    (case l_is_number => k_is)
    (case c_is_number => k_is)
    (case k_is_number => k_is)
    (case a_as_ratio => k_is)
    (case l_as_ratio => k_is)
    (case c_as_ratio => k_is)
    (case k_as_ratio => k_is)
    (case a_l_box => k_is)
    (case l_l_box => k_is)
    (case c_l_box => k_is)
    (case k_l_box => k_is)
    (case a_l_mixed => k_is)
    (case l_l_mixed => k_is)
    (case c_l_mixed => k_is)
    (case k_l_mixed => k_is)
    (case a_l_take => k_is)
    (case l_l_take => k_is)
    (case c_l_take => k_is)
    (case k_l_take => k_is)
    (case a_l_shared => k_is)
    (case l_l_shared => k_is)
    (case c_l_shared => k_is)
    (case k_l_shared => k_is)
    (case a_l_ratio => k_is)
    (case l_l_ratio => k_is)
    (case c_l_ratio => k_is)
    (case k_l_ratio => k_is)
    (case a_l_is_ratio => k_is)
    (case l_l_is_ratio => k_is)
    (case c_l_is_ratio => k_is)
    (case k_l_is_ratio => k_is)
    (case a_l_long => k_is)
    (case l_l_long => k_is)
    (case c_l_long => k_is)
    (case k_l_long => k_is)
    (case a_l_odd => k_is)
    (case l_l_odd => k_is)
    (case c_l_odd => k_is)
    (case k_l_odd => k_is)
    (case a_l_is_integer => k_is)
    (case l_l_is_integer => k_is)
    (case c_l_is_integer => k_is)
    (case k_l_is_integer => k_is)
    (case a_l_converted => k_is)
    (case l_l_converted => k_is)
    (case c_l_converted => k_is)
    (case k_l_converted => k_is)
    (case a_l_quotient => k_is)
    (case l_l_quotient => k_is)
    (case c_l_quotient => k_is)
    (case k_l_quotient => k_is)
    (case a_l_same => k_is)
    (case l_l_same => k_is)
    (case c_l_same => k_is)
    (case k_l_same => k_is)
    (case a_law => k_is)
    (case l_law => k_is)
    (case c_law => k_is)
    (case k_law => k_is)
    (case a_ratio => k_is)
    (case l_ratio => k_is)
    (case c_ratio => k_is)
    (case k_ratio => k_is)
    (case t_ratio => k_is)
    (case aC_SheetError => k_is)
    (case aC_ZeroBottom => k_is)
    (case aC_InvalidNumber => k_is)
    (case special => first | rfl | k_is)
    (case takes => first | rfl | k_is)
    (case kS_ZeroBottom => first | rfl | k_is)
    (case ga_ZeroBottom => k_is)
    (case gg_ZeroBottom => k_is)
    (case sb_ZeroBottom => k_is)
    (case hd_ZeroBottom => k_is)
    (case ha_ZeroBottom => k_is)
    (case hm_ZeroBottom => k_is)
    (case ty_ZeroBottom => k_is)
    (case kp_ZeroBottom => k_is)
    (case ex_ZeroBottom => first | rfl | k_is)
    (case xp_ZeroBottom => k_exc)
    (case kS_InvalidNumber => first | rfl | k_is)
    (case ga_InvalidNumber => k_is)
    (case gg_InvalidNumber => k_is)
    (case sb_InvalidNumber => k_is)
    (case hd_InvalidNumber => k_is)
    (case ha_InvalidNumber => k_is)
    (case hm_InvalidNumber => k_is)
    (case ty_InvalidNumber => k_is)
    (case kp_InvalidNumber => k_is)
    (case ex_InvalidNumber => first | rfl | k_is)
    (case x_InvalidNumber => k_is)
    (case sa_InvalidNumber => k_is)
    (case no_InvalidNumber => k_is)
    (case i_InvalidNumber => k_is)
    (case ti_InvalidNumber => k_is)
    (case l_InvalidNumber_init => k_is)
    (case c_InvalidNumber_init => k_is)
    (case k_InvalidNumber_init => k_is)
    (case n_len => k_is)
    (case n_max => k_is)
    (case n_abs => k_is)
    (case n_any => k_is)
    (case n_all => k_is)
    (case n_isinstance => k_is)
    (case n_range => k_is)
    (case n_zip => k_is)
    (case n_int => k_is)
    (case n_bool => k_is)
    (case n_tuple => k_is)
    (case n_list => k_is)
    (case g_gcd => k_is)
