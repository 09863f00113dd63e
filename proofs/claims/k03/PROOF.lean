import PyProof.Rows.All
import Wide.All
import OpenK.AllK
import Wide.FinOn
import HandS.ForMost
import HandS.Exc
import HandS.TryOnly
import HandS.ExcOwn
import HandS.WordsExc
import HandS.Wide
import HandS.Gcd
import HandS.IsInst
import HandS.EndBits
import HandS.Codes
import HandS.Flow
import HandS.TupAny
import HandS.Defaults
import HandS.Small
import HandS.NoneIn
import HandS.StrMore
import HandS.Style
import HandS.WideBits
import HandS.Replace
import HandS.Zip
import HandS.Walk
import HandS.ExcInit
import HandS.ExcField
import HandS.ExcIs

import PySem.Challenge.RW_backsheet_k03_ratios_as_text
set_option Elab.async false
set_option linter.all false
set_option maxRecDepth 100000
set_option exponentiation.threshold 20000
namespace Bs
open PySem
def top (i : Nat) : Stmt := PySem.Challenge.pw_backsheet_k03_ratios_as_text.main.body.getD i (.Pass ⟨0, 0, 0, 0⟩)
open L2
abbrev s_InvalidNumber_init : Stmt := inClass (top 4) 0
theorem sc_InvalidNumber_init : FnScope ["self", "value"] ["self", "value"] (defScope s_InvalidNumber_init) := ⟨rfl, rfl, rfl, by decide +kernel, rfl, by decide +kernel, by decide +kernel⟩
abbrev s_InvalidText_init : Stmt := inClass (top 5) 0
theorem sc_InvalidText_init : FnScope ["self", "text"] ["self", "text"] (defScope s_InvalidText_init) := ⟨rfl, rfl, rfl, by decide +kernel, rfl, by decide +kernel, by decide +kernel⟩
abbrev s_is_whole : Stmt := top 9
theorem sc_is_whole : FnScope ["value"] ["value"] (defScope s_is_whole) := ⟨rfl, rfl, rfl, by decide +kernel, rfl, by decide +kernel, by decide +kernel⟩
abbrev s_is_ratio : Stmt := top 10
theorem sc_is_ratio : FnScope ["value", "top", "bottom"] ["value"] (defScope s_is_ratio) := ⟨rfl, rfl, rfl, by decide +kernel, rfl, by decide +kernel, by decide +kernel⟩
abbrev s_as_ratio : Stmt := top 11
theorem sc_as_ratio : FnScope ["value"] ["value"] (defScope s_as_ratio) := ⟨rfl, rfl, rfl, by decide +kernel, rfl, by decide +kernel, by decide +kernel⟩
abbrev s_ratio : Stmt := top 12
theorem sc_ratio : FnScope ["top", "bottom", "common"] ["top", "bottom"] (defScope s_ratio) := ⟨rfl, rfl, rfl, by decide +kernel, rfl, by decide +kernel, by decide +kernel⟩
abbrev s_multiply : Stmt := top 13
theorem sc_multiply : FnScope ["one", "other"] ["one", "other"] (defScope s_multiply) := ⟨rfl, rfl, rfl, by decide +kernel, rfl, by decide +kernel, by decide +kernel⟩
abbrev s_multiply_ratios : Stmt := top 14
theorem sc_multiply_ratios : FnScope ["one", "other", "one_top", "one_bottom", "other_top", "other_bottom"] ["one", "other"] (defScope s_multiply_ratios) := ⟨rfl, rfl, rfl, by decide +kernel, rfl, by decide +kernel, by decide +kernel⟩
abbrev s_divide : Stmt := top 15
theorem sc_divide : FnScope ["one", "other", "one_top", "one_bottom", "other_top", "other_bottom"] ["one", "other"] (defScope s_divide) := ⟨rfl, rfl, rfl, by decide +kernel, rfl, by decide +kernel, by decide +kernel⟩
abbrev s_ratio_text : Stmt := top 16
theorem sc_ratio_text : FnScope ["number", "top", "bottom"] ["number"] (defScope s_ratio_text) := ⟨rfl, rfl, rfl, by decide +kernel, rfl, by decide +kernel, by decide +kernel⟩
abbrev s_integer_text : Stmt := top 17
theorem sc_integer_text : FnScope ["number", "rest", "groups", "group", "sign"] ["number"] (defScope s_integer_text) := ⟨rfl, rfl, rfl, by decide +kernel, rfl, by decide +kernel, by decide +kernel⟩
abbrev s_read_ratio : Stmt := top 18
theorem sc_read_ratio : FnScope ["text", "unsigned", "mark", "ahead", "found", "behind", "top", "bottom"] ["text"] (defScope s_read_ratio) := ⟨rfl, rfl, rfl, by decide +kernel, rfl, by decide +kernel, by decide +kernel⟩
abbrev s_are_digits : Stmt := top 19
theorem sc_are_digits : FnScope ["text"] ["text"] (defScope s_are_digits) := ⟨rfl, rfl, rfl, by decide +kernel, rfl, by decide +kernel, by decide +kernel⟩
abbrev s_read_digits : Stmt := top 20
theorem sc_read_digits : FnScope ["digits", "first", "number", "at"] ["digits"] (defScope s_read_digits) := ⟨rfl, rfl, rfl, by decide +kernel, rfl, by decide +kernel, by decide +kernel⟩
abbrev s_l_box : Stmt := top 22
theorem sc_l_box : FnScope ["_law_script", "_law_great", "_law_cell"] ["_law_script"] (defScope s_l_box) := ⟨rfl, rfl, rfl, by decide +kernel, rfl, by decide +kernel, by decide +kernel⟩
abbrev s_l_mixed : Stmt := top 23
theorem sc_l_mixed : FnScope ["_law_cell", "_law_k", "_law_whole"] ["_law_cell", "_law_k"] (defScope s_l_mixed) := ⟨rfl, rfl, rfl, by decide +kernel, rfl, by decide +kernel, by decide +kernel⟩
abbrev s_l_take : Stmt := top 24
theorem sc_l_take : FnScope ["_law_box_here", "_law_size", "_law_found", "_law_cell", "_law_reach"] ["_law_box_here", "_law_size"] (defScope s_l_take) := ⟨rfl, rfl, rfl, by decide +kernel, rfl, by decide +kernel, by decide +kernel⟩
abbrev s_l_shared : Stmt := top 25
theorem sc_l_shared : FnScope ["_law_one", "_law_other"] ["_law_one", "_law_other"] (defScope s_l_shared) := ⟨rfl, rfl, rfl, by decide +kernel, rfl, by decide +kernel, by decide +kernel⟩
abbrev s_l_ratio : Stmt := top 26
theorem sc_l_ratio : FnScope ["_law_top", "_law_bottom", "_law_by"] ["_law_top", "_law_bottom"] (defScope s_l_ratio) := ⟨rfl, rfl, rfl, by decide +kernel, rfl, by decide +kernel, by decide +kernel⟩
abbrev s_l_number : Stmt := top 27
theorem sc_l_number : FnScope ["_law_box_here", "_law_way", "_law_top"] ["_law_box_here"] (defScope s_l_number) := ⟨rfl, rfl, rfl, by decide +kernel, rfl, by decide +kernel, by decide +kernel⟩
abbrev s_l_given : Stmt := top 28
theorem sc_l_given : FnScope ["_law_box_here", "_law_number_here"] ["_law_box_here", "_law_number_here"] (defScope s_l_given) := ⟨rfl, rfl, rfl, by decide +kernel, rfl, by decide +kernel, by decide +kernel⟩
abbrev s_l_digits : Stmt := top 29
theorem sc_l_digits : FnScope ["_law_box_here", "_law_k"] ["_law_box_here"] (defScope s_l_digits) := ⟨rfl, rfl, rfl, by decide +kernel, rfl, by decide +kernel, by decide +kernel⟩
abbrev s_l_written : Stmt := top 30
theorem sc_l_written : FnScope ["_law_box_here", "_law_text"] ["_law_box_here"] (defScope s_l_written) := ⟨rfl, rfl, rfl, by decide +kernel, rfl, by decide +kernel, by decide +kernel⟩
abbrev s_l_bent : Stmt := top 31
theorem sc_l_bent : FnScope ["_law_box_here", "_law_text", "_law_at", "_law_sign", "_law_behind"] ["_law_box_here", "_law_text"] (defScope s_l_bent) := ⟨rfl, rfl, rfl, by decide +kernel, rfl, by decide +kernel, by decide +kernel⟩
abbrev s_l_worth_of : Stmt := top 32
theorem sc_l_worth_of : FnScope ["_law_digits_here", "_law_total", "_law_digit"] ["_law_digits_here"] (defScope s_l_worth_of) := ⟨rfl, rfl, rfl, by decide +kernel, rfl, by decide +kernel, by decide +kernel⟩
abbrev s_l_meant : Stmt := top 33
theorem sc_l_meant : FnScope ["_law_text", "_law_sign", "_law_rest", "_law_runs", "_law_marks", "_law_letter", "_law_top", "_law_bottom"] ["_law_text"] (defScope s_l_meant) := ⟨rfl, rfl, rfl, by decide +kernel, rfl, by decide +kernel, by decide +kernel⟩
abbrev s_l_read : Stmt := top 34
theorem sc_l_read : FnScope ["_law_text", "_law_found", "e"] ["_law_text"] (defScope s_l_read) := ⟨rfl, rfl, rfl, by decide +kernel, rfl, by decide +kernel, by decide +kernel⟩
abbrev s_l_figures : Stmt := top 35
theorem sc_l_figures : FnScope ["_law_number_here", "_law_found"] ["_law_number_here"] (defScope s_l_figures) := ⟨rfl, rfl, rfl, by decide +kernel, rfl, by decide +kernel, by decide +kernel⟩
abbrev s_l_goes_far : Stmt := top 36
theorem sc_l_goes_far : FnScope ["_law_box_here", "_law_found", "_law_whole", "_law_k", "_law_one", "_law_sign", "_law_is_above", "_law_number_here", "_law_text"] ["_law_box_here"] (defScope s_l_goes_far) := ⟨rfl, rfl, rfl, by decide +kernel, rfl, by decide +kernel, by decide +kernel⟩
abbrev s_law : Stmt := top 37
theorem sc_law : FnScope ["_law_script", "_law_box_here", "_law_turn", "_law_number_here", "_law_due", "_law_text", "_law_k", "_law_meant_here"] ["_law_script"] (defScope s_law) := ⟨rfl, rfl, rfl, by decide +kernel, rfl, by decide +kernel, by decide +kernel⟩
open PySem L2
/-! ### numbers -/
def CPowB (i j : Int) : Prop := 0 ≤ j ∧ (Builtin.Int.intBits i : Int) * j ≤ 2 ^ 27
theorem op_powB {X : Cx} : OpR X (binaryOp .Pow) (rI CPowB fun i j => .int (i ^ j.toNat)) := opI fun _ _ _ _ _ _ _ hc q => PyProof.Rows.pow_int hc.1 hc.2 q
/-- what the module leaves of the built-in names -/
structure Bt (mg : Str → Option Value) : Prop where
  n_len : mg "len" = none
  n_max : mg "max" = none
  n_abs : mg "abs" = none
  n_any : mg "any" = none
  n_all : mg "all" = none
  n_isinstance : mg "isinstance" = none
  n_range : mg "range" = none
  n_zip : mg "zip" = none
  n_int : mg "int" = none
  n_bool : mg "bool" = none
  n_tuple : mg "tuple" = none
  n_list : mg "list" = none
/-! ### a def that is known, and a def that keeps a promise -/
def Df (K : PySem.W.Frag) (mg : Str → Option Value) (x : Str) (st : Stmt) (ps : List Str) : Prop :=
  ∃ f fd, Fun K x x st f fd ∧ mg x = some (.ref f) ∧ Binds K fd ps []
def Kn (P : Program) (w : World) (K : PySem.W.Frag) (mg : Str → Option Value) (base : Heap) (cx : CXT) (x : Str) (k : Nat) (ps : List Str) (sp : Sp) : Prop :=
  ∃ f fd, FnOk P w K mg base cx k f fd ps sp ∧ mg x = some (.ref f) ∧ PySem.W.keepIn K (.ref f) = true ∧ Binds K fd ps []
/-! ### the box of draws: a list of a list, a number, a list, a number -/
def bl (g : Addr) (cur : Int) (c : Addr) (m : Int) : List V := [.ref g, .int cur, .ref c, .int m]
structure BoxIs (H : Hp) (b g c : Addr) (gs cs : List Int) (cur m : Int) : Prop where
  hb : H b = some (.lst (bl g cur c m))
  hg : H g = some (.lst (gs.map V.int))
  hc : H c = some (.lst (cs.map V.int))
  bg : b ≠ g
  bc : b ≠ c
  gc : g ≠ c
  m0 : 0 ≤ m
  lg : gs.length ≤ 63
  lc : cs.length ≤ 63
/-- a box from which at most n numbers have been drawn -/
def Box (H : Hp) (b g c : Addr) (n : Nat) : Prop := ∃ gs cs cur m, BoxIs H b g c gs cs cur m ∧ m ≤ (n : Int)
/-- all but the box's two objects is as it was -/
def But (b g : Addr) (H H' : Hp) : Prop := ∀ a o, H a = some o → a ≠ b → a ≠ g → H' a = some o
theorem But.refl (b g : Addr) (H : Hp) : But b g H H := fun _ _ h _ _ => h
theorem But.trans {b g : Addr} {H H1 H2 : Hp} (x : But b g H H1) (y : But b g H1 H2) : But b g H H2 := fun a o h h1 h2 => y a o (x a o h h1 h2) h1 h2
theorem But.of {b g : Addr} {H H' : Hp} (x : Same H H') : But b g H H' := fun a o h _ _ => x a o h
theorem But.updb {b g : Addr} {H : Hp} {o : HO} : But b g H (upd H b o) := fun a o' h h1 _ => by rw [upd_ne h1]; exact h
theorem But.updg {b g : Addr} {H : Hp} {o : HO} : But b g H (upd H g o) := fun a o' h _ h1 => by rw [upd_ne h1]; exact h
theorem same_new {H : Hp} {p : Addr} (h : H p = none) (o : HO) : Same H (upd H p o) := fun b u q => by rw [upd_ne (ne_of_none q h)]; exact q
theorem Box.same {H H' : Hp} {b g c : Addr} {n : Nat} (x : Box H b g c n) (s : Same H H') : Box H' b g c n := by
  obtain ⟨gs, cs, cur, m, B, hm⟩ := x
  exact ⟨gs, cs, cur, m, ⟨s _ _ B.hb, s _ _ B.hg, s _ _ B.hc, B.bg, B.bc, B.gc, B.m0, B.lg, B.lc⟩, hm⟩
theorem Box.mono {H : Hp} {b g c : Addr} {n k : Nat} (x : Box H b g c n) (h : n ≤ k) : Box H b g c k := by
  obtain ⟨gs, cs, cur, m, B, hm⟩ := x
  exact ⟨gs, cs, cur, m, B, by omega⟩
theorem BoxIs.updb {H : Hp} {b g c : Addr} {gs cs : List Int} {cur m cur' m' : Int} (B : BoxIs H b g c gs cs cur m) (h : 0 ≤ m') : BoxIs (upd H b (.lst (bl g cur' c m'))) b g c gs cs cur' m' :=
  ⟨upd_same, by rw [upd_ne B.bg.symm]; exact B.hg, by rw [upd_ne B.bc.symm]; exact B.hc, B.bg, B.bc, B.gc, h, B.lg, B.lc⟩
theorem BoxIs.updg {H : Hp} {b g c : Addr} {gs cs gs' : List Int} {cur m : Int} (B : BoxIs H b g c gs cs cur m) (h : gs'.length ≤ 63) : BoxIs (upd H g (.lst (gs'.map V.int))) b g c gs' cs cur m :=
  ⟨by rw [upd_ne B.bg]; exact B.hb, upd_same, by rw [upd_ne B.gc.symm]; exact B.hc, B.bg, B.bc, B.gc, B.m0, h, B.lc⟩
theorem seqIx0 {n : Nat} : seqIndex? 0 (n + 1) = some 0 := by
  have h : ixN (n + 1) 0 = some 0 := by
    unfold ixN
    rw [if_pos (by decide), if_pos (by omega)]
    rfl
  exact (ixN_seq h).1
theorem gcd_fmod (u v : Int) : Int.gcd v (u.fmod v) = Int.gcd u v := by
  have e : u.fmod v = u - v * u.fdiv v := Int.fmod_def u v
  apply Nat.dvd_antisymm
  · have d1 : (Int.gcd v (u.fmod v) : Int) ∣ v := Int.gcd_dvd_left ..
    have d2 : (Int.gcd v (u.fmod v) : Int) ∣ u.fmod v := Int.gcd_dvd_right ..
    have d3 : (Int.gcd v (u.fmod v) : Int) ∣ u := by
      have d4 := Int.dvd_add d2 (Int.dvd_trans d1 (Int.dvd_mul_right v (u.fdiv v)))
      rw [show u.fmod v + v * u.fdiv v = u by omega] at d4
      exact d4
    exact Int.dvd_gcd d3 d1
  · have d1 : (Int.gcd u v : Int) ∣ u := Int.gcd_dvd_left ..
    have d2 : (Int.gcd u v : Int) ∣ v := Int.gcd_dvd_right ..
    refine Int.dvd_gcd d2 ?_
    rw [e]
    exact Int.dvd_sub d1 (Int.dvd_trans d2 (Int.dvd_mul_right v _))
theorem natAbs_fmod_lt {u v : Int} (h : v ≠ 0) : (u.fmod v).natAbs < v.natAbs := by
  rw [Int.fmod_eq_emod]
  have h1 := Int.emod_nonneg u h
  have h2 := Int.emod_lt u h
  split <;> omega
/-! ### promises -/
def spMixed : Sp := fun vs H Q _ => ∃ cell k : Int, vs = [.int cell, .int k] ∧ 0 ≤ k ∧ k < 2000000 ∧ ∀ r : Int, Q (.int r) H
def spTake : Sp := fun vs H Q _ => ∃ (b g c : Addr) (n : Nat) (size : Int), vs = [.ref b, .int size] ∧ Box H b g c n ∧ n < 1000000 ∧ 0 < size ∧ size.natAbs < 2 ^ 8000 ∧
  ∀ (r : Int) (H' : Hp), 0 ≤ r → r < size → Box H' b g c (n + 1) → But b g H H' → Q (.int r) H'
def spBox (K : PySem.W.Frag) : Sp := fun vs H Q _ => ∃ (a : Addr) (ns : List Int), vs = [.ref a] ∧ SqL K H a (ns.map V.int) ∧ ns.length ≤ 63 ∧
  ∀ (b g c : Addr) (H' : Hp), Box H' b g c 0 → Same H H' → H b = none → H g = none → H c = none → Q (.ref b) H'
def spShared : Sp := fun vs H Q _ => ∃ a b : Int, vs = [.int a, .int b] ∧ Q (.int (Int.gcd a b : Int)) H
section
variable {P : Program} {w : World} {K : PySem.W.Frag} {mg : Str → Option Value} {base : Heap}
theorem ok_mixed (D : Df K mg "_law_mixed" s_l_mixed ["_law_cell", "_law_k"]) : Kn P w K mg base CX0 "_law_mixed" 1 ["_law_cell", "_law_k"] spMixed := by
  obtain ⟨f, fd, F, hm, hb⟩ := D
  refine ⟨f, fd, F.ok sc_l_mixed (fun vs H Q E h => ?_) (fun cdv A outer s H vs Q E hr h => ?_), hm, F.kp, hb⟩
  · obtain ⟨cell, k, rfl, _⟩ := h
    rfl
  · obtain ⟨cell, k, rfl, k0, k1, q⟩ := h
    refine ⟨_, (pss_cons (ps_set (i := 2) sc_l_mixed.nd rfl (Or.inl rfl) (pe_op op_mod (pe_op op_powB (pe_op op_add (pe_op op_add (pe_op op_add (pe_op op_mod (pv 0) pe_int) (pe_op op_mul (pe_op op_mul pe_int (pv 1)) (pv 1))) (pe_op op_mul pe_int (pv 1))) pe_int) pe_int) pe_int))
      (pss_one (ps_ret (pe_op op_mod (pe_op op_add (pe_op op_mul (pv 2) pe_int) (pe_op op_mul pe_int (pv 1))) pe_int)))), ?_⟩
    have c0 : (0 : Int) ≤ cell % 2147483647 := Int.emod_nonneg _ (by decide)
    have c1 : cell % 2147483647 < 2147483647 := Int.emod_lt_of_pos _ (by decide)
    have kk : (0 : Int) ≤ 1009 * k * k ∧ 1009 * k * k ≤ 1009 * 2000000 * 2000000 := by
      have a1 : 0 ≤ 1009 * k := by omega
      have a2 : 1009 * k ≤ 1009 * 2000000 := by omega
      exact ⟨Int.mul_nonneg a1 k0, Int.mul_le_mul a2 (by omega) k0 (by omega)⟩
    refine ⟨_, rfl, _, _, rfl, rfl, (show (0 : Int) < 2147483647 by decide), _, rfl, _, _, rfl, rfl, .inl ⟨by decide, by decide⟩, _, rfl, _, _, rfl, rfl, .inl ⟨by omega, by omega⟩, _, _, rfl, rfl,
      _, rfl, _, _, rfl, rfl, .inl ⟨by decide, by decide⟩, _, _, rfl, rfl, _, _, rfl, rfl, _, _, rfl, rfl, ⟨by decide, ?_⟩, _, _, rfl, rfl, (show (0 : Int) < 2147483647 by decide), ?_⟩
    · generalize hz : cell % 2147483647 + 1009 * k * k + 48611 * k + 17 = z
      have z0 : 0 ≤ z := by omega
      have z1 : z < 2 ^ 64 := by omega
      have hb := intBits_le_64 (k := z) (by omega) z1
      have : (Builtin.Int.intBits z : Int) ≤ 64 := by omega
      omega
    · refine ⟨_, rfl, _, _, rfl, rfl, .inr ⟨by decide, by decide⟩, _, rfl, _, _, rfl, rfl, .inl ⟨by decide, by decide⟩, _, _, rfl, rfl, _, _, rfl, rfl, (show (0 : Int) < 1000000007 by decide), ?_⟩
      exact q _
theorem ok_shared (T : Bt mg) (D : Df K mg "_law_shared" s_l_shared ["_law_one", "_law_other"]) : Kn P w K mg base CX0 "_law_shared" 1 ["_law_one", "_law_other"] spShared := by
  obtain ⟨f, fd, F, hm, hb⟩ := D
  refine ⟨f, fd, F.ok sc_l_shared (fun vs H Q E h => ?_) (fun cdv A outer s H vs Q E hr h => ?_), hm, F.kp, hb⟩
  · obtain ⟨x, y, rfl, _⟩ := h
    rfl
  · obtain ⟨x, y, rfl, q⟩ := h
    refine ⟨_, (pss_cons (ps_while PassesOwn.never (pt_cmpR op_ne (pv 1) pe_int (nomark _)) (pss_one (ps_par (i := 0) (j := 1) (by rfl) sc_l_shared.nd rfl rfl (by decide) rfl rfl (pa_cons (pv 1) (pa_cons (pe_op op_modN (pv 0) (pv 1)) pa_nil)) (by rfl))))
      (pss_one (ps_ret (pe_callB call_abs (by rfl) T.n_abs (by decide +kernel) (pa_cons (pv 0) pa_nil))))), ?_⟩
    refine while_by (fun σ H' => H' = H ∧ ∃ u v : Int, σ = [some (.int u), some (.int v)] ∧ Int.gcd u v = Int.gcd x y) (fun σ _ => match σ with | [_, some (.int v)] => v.natAbs | _ => 0) ⟨rfl, x, y, rfl, rfl⟩ ?_ ?_
    · rintro σ H' ⟨rfl, u, v, rfl, e⟩
      refine ⟨_, rfl, rfl, _, rfl, ?_⟩
      refine ite2 (fun c => ?_) (fun c => ?_)
      · have hv : v ≠ 0 := by
          intro z
          rw [z] at c
          exact absurd c (by decide)
        refine ⟨_, rfl, _, rfl, _, rfl, _, _, rfl, rfl, hv, _, _, rfl, ⟨rfl, _, _, rfl, ?_⟩, ?_⟩
        · rw [gcd_fmod]
          exact e
        · show (u.fmod v).natAbs < v.natAbs
          exact natAbs_fmod_lt hv
      · have hv : v = 0 := by
          by_cases z : v = 0
          · exact z
          · exact absurd (by simp [z]) c
        subst hv
        refine ⟨_, rfl, _, rfl, ?_⟩
        have e2 : (if u < 0 then -u else u) = (Int.gcd x y : Int) := by
          rw [← e, Int.gcd_zero_right]
          omega
        rw [e2]
        exact q
    · intro σ H' Q1 Q2 hq h
      obtain ⟨v, h1, h2, k, h3, h4⟩ := h
      exact ⟨v, h1, h2, k, h3, hq _ _ h4⟩
theorem ok_take (T : Bt mg) (GM : Kn P w K mg base CX0 "_law_mixed" 1 ["_law_cell", "_law_k"] spMixed) (D : Df K mg "_law_take" s_l_take ["_law_box_here", "_law_size"]) :
    Kn P w K mg base CX0 "_law_take" 2 ["_law_box_here", "_law_size"] spTake := by
  obtain ⟨f, fd, F, hm, hb⟩ := D
  obtain ⟨f_l_mixed, fd_l_mixed, G_l_mixed, m_l_mixed, k_l_mixed, b_l_mixed⟩ := GM
  refine ⟨f, fd, F.ok sc_l_take (fun vs H Q E h => ?_) (fun cdv A outer s H vs Q E hr h => ?_), hm, F.kp, hb⟩
  · obtain ⟨b, g, c, n, size, rfl, _⟩ := h
    rfl
  · obtain ⟨b, g, c, n, size, rfl, ⟨gs, cs, cur, m, B, hmn⟩, hn, s0, sB, q⟩ := h
    refine ⟨_, (pss_cons (ps_asg (pe_op op_add (pe_ix ix_list (pv 0) pe_int (fun _ _ => rfl)) pe_int) (pg_sub (pv 0) pe_int set_list))
      (C8.pss_cut (ps_if (PW.pt (pw_and (pt_cmpR op_eq (pe_ix ix_list (pv 0) pe_int (fun _ _ => rfl)) pe_int (nomark _)) (pw_and1 (pt_cmpR op_gt (pe_callB call_len_seq (by rfl) T.n_len (by decide +kernel) (pa_cons (pe_ix ix_list (pv 0) pe_int (fun _ _ => rfl)) pa_nil)) pe_int (nomark _))))) (pss_one (ps_asg (pe_bm PySem.F.plainAttrs_list PySem.F.slot_list_pop PySem.F.type_list_pop mt_popAt (pe_ix ix_list (pv 0) pe_int (fun _ _ => rfl)) (pa_cons pe_int pa_nil)) (pg_sub (pv 0) pe_int set_list))) pss_nil)
      (pss_cons (ps_if (pt_cmpR op_gt (pe_ix ix_list (pv 0) pe_int (fun _ _ => rfl)) pe_int (nomark _)) (pss_cons (ps_set (i := 2) sc_l_take.nd rfl (Or.inl rfl) (pe_op op_mod (pe_ix ix_list (pv 0) pe_int (fun _ _ => rfl)) (pv 1)))
      (pss_cons (ps_asg (pe_op op_fdivW (pe_ix ix_list (pv 0) pe_int (fun _ _ => rfl)) (pv 1)) (pg_sub (pv 0) pe_int set_list))
      (pss_one (ps_ret (pv 2))))) pss_nil)
      (pss_cons (ps_set (i := 3) sc_l_take.nd rfl (Or.inl rfl) (pe_ix ix_list (pe_op op_cat (pe_ix ix_list (pv 0) pe_int (fun _ _ => rfl)) (pe_lst (pa_cons (pe_op op_mul pe_int (pe_ix ix_list (pv 0) pe_int (fun _ _ => rfl))) pa_nil))) (pe_op op_mod (pe_ix ix_list (pv 0) pe_int (fun _ _ => rfl)) (pe_callB (call_max2 rfl) (by rfl) T.n_max (by decide +kernel) (pa_cons pe_int (pa_cons (pe_callB call_len_seq (by rfl) T.n_len (by decide +kernel) (pa_cons (pe_ix ix_list (pv 0) pe_int (fun _ _ => rfl)) pa_nil)) pa_nil)))) (fun _ _ => rfl)))
      (pss_cons (ps_set (i := 2) sc_l_take.nd rfl (Or.inl rfl) pe_int)
      (pss_cons (ps_set (i := 4) sc_l_take.nd rfl (Or.inl rfl) pe_int)
      (pss_cons (ps_while PassesOwn.never (pt_cmpR op_lt (pv 4) (pv 1) (nomark _)) (pss_cons (ps_set (i := 2) sc_l_take.nd rfl (Or.inl rfl) (pe_op op_add (pe_op op_mul (pv 2) pe_int) (pe_call G_l_mixed (hr.mono (by omega)) rfl m_l_mixed k_l_mixed b_l_mixed .nil pass0 (pa_cons (pv 3) (pa_cons (pe_op op_add (pe_ix ix_list (pv 0) pe_int (fun _ _ => rfl)) (pe_op op_mul pe_int (pe_op op_mod (pv 2) pe_int))) pa_nil)))))
      (pss_one (ps_set (i := 4) sc_l_take.nd rfl (Or.inl rfl) (pe_op op_mul (pv 4) pe_int)))))
      (pss_one (ps_ret (pe_op op_mod (pv 2) (pv 1))))))))))), ?_⟩
    have m0 := B.m0
    -- box[3] = box[3] + 1
    refine ⟨_, rfl, b, _, _, .int m, rfl, rfl, SqL.of B.hb, rfl, _, _, rfl, rfl, _, rfl, b, _, _, 3, rfl, rfl, B.hb, rfl, ?_⟩
    have B1 : BoxIs (upd H b (.lst (bl g cur c (m + 1)))) b g c gs cs cur (m + 1) := B.updb (by omega)
    refine ⟨fun σ H2 => σ = start ["_law_box_here", "_law_size", "_law_found", "_law_cell", "_law_reach"] [.ref b, .int size] ∧ But b g H H2 ∧ ∃ gs2 cur2, BoxIs H2 b g c gs2 cs cur2 (m + 1), ?_, ?_⟩
    · -- if box[1] == 0 and len(box[0]) > 0: box[1] = box[0].pop(0)
      refine ⟨_, rfl, b, _, _, .int cur, rfl, rfl, SqL.of B1.hb, rfl, rfl, _, rfl, ?_⟩
      refine ite2 (fun h => ?_) (fun h => ?_)
      · refine ⟨_, rfl, b, _, _, .ref g, rfl, rfl, SqL.of B1.hb, rfl, g, _, rfl, .inl (SqL.of B1.hg), _, _, rfl, rfl, _, rfl, ?_⟩
        refine ite2 (fun h2 => ?_) (fun h2 => ?_)
        · have h3 : (0 : Int) < ((gs.map V.int).length : Nat) := of_decide_eq_true h2
          rw [List.length_map] at h3
          obtain ⟨z, gr, rfl⟩ : ∃ z gr, gs = z :: gr := by
            cases gs with
            | nil => exact absurd h3 (by decide)
            | cons z gr => exact ⟨z, gr, rfl⟩
          have lg := B.lg
          refine ⟨_, rfl, b, _, _, .ref g, rfl, rfl, SqL.of B1.hb, rfl, .inl ⟨rfl, _, SqL.of B1.hg⟩, g, _, 0, 0, .int z, rfl, rfl, B1.hg, by decide, by decide, seqIx0, rfl, ?_⟩
          have B2 : BoxIs (upd (upd H b (.lst (bl g cur c (m + 1)))) g (.lst (gr.map V.int))) b g c gr cs cur (m + 1) := B1.updg (by rw [List.length_cons] at lg; omega)
          refine ⟨_, rfl, b, _, _, 1, rfl, rfl, B2.hb, rfl, ?_⟩
          exact ⟨rfl, (But.updb.trans But.updg).trans But.updb, gr, z, B2.updb (by omega)⟩
        · exact ⟨rfl, But.updb, gs, cur, B1⟩
      · exact ⟨rfl, But.updb, gs, cur, B1⟩
    · rintro σ H2 ⟨rfl, hbut, gs2, cur2, B2⟩
      -- if box[1] > 0
      refine ⟨_, rfl, b, _, _, .int cur2, rfl, rfl, SqL.of B2.hb, rfl, _, _, rfl, rfl, _, rfl, ?_⟩
      refine ite2 (fun h => ?_) (fun h => ?_)
      · refine ⟨_, rfl, b, _, _, .int cur2, rfl, rfl, SqL.of B2.hb, rfl, _, rfl, _, _, rfl, rfl, s0, ?_⟩
        refine ⟨_, rfl, b, _, _, .int cur2, rfl, rfl, SqL.of B2.hb, rfl, _, rfl, _, _, rfl, rfl, wide_div s0 sB (by decide) (by decide), ?_⟩
        refine ⟨_, rfl, b, _, _, 1, rfl, rfl, B2.hb, rfl, ?_⟩
        refine ⟨_, rfl, ?_⟩
        exact q _ _ (Int.emod_nonneg _ (by omega)) (Int.emod_lt_of_pos _ s0) ⟨gs2, cs, _, _, B2.updb (by omega), by omega⟩ (hbut.trans But.updb)
      · -- cell = (box[2] + [7 * box[3]])[box[3] % max(1, len(box[2]))]
        refine ⟨_, rfl, b, _, _, .ref c, rfl, rfl, SqL.of B2.hb, rfl, _, rfl, b, _, _, .int (m + 1), rfl, rfl, SqL.of B2.hb, rfl, _, _, rfl, rfl, .inl ⟨by decide, by decide⟩, (by show 1 ≤ sizeLine; decide), fun p np => ?_⟩
        have s1 := same_new np (.lst [.int (7 * (m + 1))])
        have lc := B.lc
        refine ⟨c, p, _, _, rfl, rfl, s1 _ _ B2.hc, upd_same, (by rw [List.length_map]; show cs.length + 1 ≤ sizeLine; exact Nat.le_of_lt (small1000 (by omega))), fun p2 np2 => ?_⟩
        have s2 := s1.trans (same_new np2 (.lst (cs.map V.int ++ [.int (7 * (m + 1))])))
        refine ⟨_, rfl, b, _, _, .int (m + 1), rfl, rfl, SqL.of (s2 _ _ B2.hb), rfl, _, rfl, b, _, _, .ref c, rfl, rfl, SqL.of (s2 _ _ B2.hb), rfl, c, _, rfl, .inl (SqL.of (s2 _ _ B2.hc)), _, _, rfl, ?_⟩
        have hmx : ((cs.map V.int).length : Int) = cs.length := by rw [List.length_map]
        rw [hmx]
        generalize hM : (if (cs.length : Int) > 1 then (cs.length : Int) else 1) = M
        have M0 : 0 < M := by split at hM <;> omega
        have M1 : M ≤ cs.length + 1 := by split at hM <;> omega
        refine ⟨_, _, rfl, rfl, M0, ?_⟩
        have i0 := Int.emod_nonneg (m + 1) (show M ≠ 0 by omega)
        have i1 := Int.emod_lt_of_pos (m + 1) M0
        obtain ⟨v, hv⟩ : ∃ v : Int, atI (cs.map V.int ++ [.int (7 * (m + 1))]) ((m + 1) % M) = some (.int v) := by
          generalize (m + 1) % M = j at i0 i1
          obtain ⟨k, rfl⟩ : ∃ k : Nat, j = (k : Int) := ⟨j.toNat, by omega⟩
          by_cases hk : k < cs.length
          · exact ⟨cs[k], atI_nat (by rw [List.getElem?_append_left (by rw [List.length_map]; exact hk), List.getElem?_map, List.getElem?_eq_getElem hk]; rfl)⟩
          · have ek : k = cs.length := by omega
            subst ek
            exact ⟨7 * (m + 1), atI_nat (by rw [List.getElem?_append_right (by rw [List.length_map]; exact Nat.le_refl _), List.length_map, Nat.sub_self]; rfl)⟩
        refine ⟨p2, _, _, .int v, rfl, rfl, SqL.of upd_same, hv, ?_⟩
        generalize hH3 : upd (upd H2 p (.lst [.int (7 * (m + 1))])) p2 (.lst (cs.map V.int ++ [.int (7 * (m + 1))])) = H3
        rw [hH3] at s2
        have hb3 : H3 b = some (.lst (bl g cur2 c (m + 1))) := s2 _ _ B2.hb
        -- found = 0; reach = 1; while ..
        refine while_by (fun σ H' => H' = H3 ∧ ∃ u v' : Int, σ = [some (.ref b), some (.int size), some (.int u), some (.int v), some (.int v')] ∧ 1 ≤ v') (fun σ _ => match σ with | [_, _, _, _, some (.int v')] => (size - v').toNat | _ => 0) ⟨rfl, 0, 1, rfl, by decide⟩ ?_ ?_
        · rintro σ H' ⟨rfl, u, v', rfl, hv'⟩
          refine ⟨_, rfl, _, rfl, _, _, rfl, rfl, _, rfl, ?_⟩
          refine ite2 (fun c => ?_) (fun c => ?_)
          · have hlt : v' < size := of_decide_eq_true c
            refine ⟨_, rfl, _, _, rfl, rfl, .inr ⟨by decide, by decide⟩, _, rfl, _, rfl, b, _, _, .int (m + 1), rfl, rfl, SqL.of hb3, rfl, _, rfl, _, _, rfl, rfl, (show (0 : Int) < 89 by decide), _, _, rfl, rfl, .inl ⟨by decide, by decide⟩, _, _, rfl, rfl, ?_⟩
            have f0 := Int.emod_nonneg u (show (89 : Int) ≠ 0 by decide)
            have f1 := Int.emod_lt_of_pos u (show (0 : Int) < 89 by decide)
            refine ⟨_, _, rfl, by omega, by omega, fun r => ?_⟩
            refine ⟨_, _, rfl, rfl, ?_⟩
            refine ⟨_, rfl, _, _, rfl, rfl, .inr ⟨by decide, by decide⟩, ⟨rfl, _, _, rfl, by omega⟩, ?_⟩
            show (size - v' * 1000000007).toNat < (size - v').toNat
            omega
          · refine ⟨_, rfl, _, rfl, _, _, rfl, rfl, s0, ?_⟩
            exact q _ _ (Int.emod_nonneg _ (by omega)) (Int.emod_lt_of_pos _ s0) ⟨gs2, cs, cur2, m + 1, ⟨hb3, s2 _ _ B2.hg, s2 _ _ B2.hc, B2.bg, B2.bc, B2.gc, B2.m0, B2.lg, B2.lc⟩, by omega⟩ (hbut.trans (But.of s2))
        · intro σ H' Q1 Q2 hq h
          obtain ⟨v, h1, v2, h2, i, j, e1, e2, k, e3, h3⟩ := h
          exact ⟨v, h1, v2, h2, i, j, e1, e2, k, e3, hq _ _ h3⟩
end

/-! ### isinstance of a caught error whose own dict stands (or that has none) -/
open PySem.W PySem.Calls PyProof.Rows in
theorem class_of_err {prog : Program} {w : World} {A : Around} {Bad : Value → Shared → Prop} {s : Shared} {K : PySem.W.Frag} {e D : Addr} {oe : Obj} {own : Option Obj} {Want : Option Value → Shared → Prop} (cc : L2.ExcC K D)
    (KI : K.In s.heap) (J : InstAt s.heap e oe D own) (q : Want (some (.ref D)) { s with toks := s.toks + 1 }) : wpAny (model prog w) A (getAttr? (.ref e) "__class__") Want Bad s := by
  have found : findObj K D own "__class__" = some (.bind (.builtin "getset_descriptor.__get__") (.builtin "object.__class__")) := by
    obtain ⟨cd, e0, _⟩ := any_some cc.hd
    unfold findObj
    rw [e0, Option.bind_some, cc.ha, Option.bind_some]
    simp [cc.hn, cc.ht]
  obtain ⟨hp, gs, dr, tk, osx⟩ := s
  have k1 := J.type (M := model prog w)
  have k2 := looks_findIn (M := model prog w) KI cc.hg
  have k3 := looks_findIn (M := model prog w) KI cc.hk
  have k4 := looks_find (M := model prog w) KI J found
  have isB : Looks (model prog w) hp (isInstance (.ref e) (.type "BaseException")) true := k1.andThen (looks_subIn KI cc.hs)
  have n1 : (false && onTheHeap (Value.builtin "BaseException.__getattribute__")) = false := rfl
  have n2 : (onTheHeap (Value.ref D) && Value.builtin "BaseException.__getattribute__" == Value.builtin "object.__getattribute__") = false := by
    rw [show (Value.builtin "BaseException.__getattribute__" == Value.builtin "object.__getattribute__") = false by decide +kernel]
    rfl
  unfold getAttr? getAttrBy? getAttrBy
  refine wpAny_bind (wpAny_mkText (wpAny_bind (wpAny_attempt (wpAny_holding (wpAny_bind (k1.at (wpAny_bind (k2.at ?_))))))))
  show wpAny _ _ (if (onTheHeap (Value.ref D) && Value.builtin "BaseException.__getattribute__" == Value.builtin "object.__getattribute__") = true then _ else _) _ _ _
  rw [n2, if_neg Bool.false_ne_true]
  unfold getAttrByItsOwn hookBefore
  refine wpAny_bind ?_
  rw [if_pos (show onTheHeap (Value.ref D) = true from rfl)]
  refine k3.at (wpAny_bind (wpAny_attempt (wpAny_holding ?_)))
  unfold callGetattribute
  rw [n1, if_neg Bool.false_ne_true]
  unfold boundAndCalled
  rw [PySem.F.excAttr_ValueError.ga.bind (.ref e)]
  refine wpAny_bind (wpAny_pure ?_)
  show wpAny _ _ (call (.builtin "BaseException.__getattribute__") [.ref e, .str "__class__" tk]) _ _ _
  refine wpAny_call (codeAny_call_builtin PySem.F.excAttr_ValueError.ga.plain PySem.F.entry_bexc_ga ?_)
  refine @check_slot (model prog w) _ _ ⟨hp, gs, dr, tk + 1, osx⟩ "BaseException.__getattribute__" "BaseException" "__getattribute__" (.ref e) [.str "__class__" tk] [] _ (by decide +kernel) (by decide +kernel) isB (PySem.F.args_bexc_ga (.ref e) (.str "__class__" tk)) ?_
  unfold Builtin.«object.__getattribute__»
  refine wpAny_bind (wpAny_of_eq (a := ((Value.ref e : Value), [Value.str "__class__" tk])) (by first | rfl | (simp only [slotArgs]; rfl)) ?_)
  refine wpAny_bind (wpAny_pure (wpAny_bind (k1.at (wpAny_bind (k4.at ?_)))))
  show wpAny _ _ (holding [Value.builtin "object.__class__"] (call (.builtin "getset_descriptor.__get__") [.builtin "object.__class__", .ref e, .ref D]) >>= ret) _ _ _
  refine wpAny_bind (wpAny_holding (wpAny_call (class_get (s := ⟨hp, gs, dr, tk + 1, osx⟩) (ox := oe) (od := own) KI J cc.hm ?_)))
  refine wpAny_pure ?_
  show wpAny _ _ (handedOut (.ref D)) _ _ _
  rw [handedOut_of (v := .ref D) rfl]
  first
    | exact wpAny_pure (wpAny_pure q)
    | exact wpAny_pure q
    | exact wpAny_pure (wpAny_bind (wpAny_pure (wpAny_pure q)))
open PySem.W in
theorem kit_err {K : PySem.W.Frag} {e D : Addr} {oe : Obj} {own : Option Obj} (cc : L2.ExcC K D) : KitX K (.ref e) (.ref D) (fun h => InstAt h e oe D own) where
  ty := fun _ _ _ J => J.type
  it := fun _ _ KI _ => by
    obtain ⟨cd, e0, _⟩ := any_some cc.hd
    unfold clsIn at e0
    split at e0
    · rename_i _ _ _ _ at0
      intro _ _ _ _ kk qq
      unfold isType loadHead
      exact wpAny_bind (wpAny_loadPart (kk _ _ (KI _ _ at0)) (wpAny_pure qq))
    · cases e0
  ne := fun h tp dd its n sl KI htp => by
    obtain ⟨cd, e0, _⟩ := any_some cc.hd
    refine Bool.eq_false_iff.mpr fun z => ?_
    have same : D = tp := Value.ref.inj (beq_iff_eq.mp z)
    subst same
    unfold clsIn at e0
    split at e0
    · rename_i _ _ _ _ at0
      have z2 := (KI _ _ at0).symm.trans htp
      cases z2
    · cases e0
  ca := fun KI J kk => class_of_err cc KI J kk
def rIsErr (K : PySem.W.Frag) (D a : Addr) (cls : Value) (d : Option Addr) : List V → Hp → VK → Prop := fun xs H Q => ∃ (c : V) (cv : Value) (b : Bool), xs = [.ref a, c] ∧ cls = .ref D ∧ ClsV c cv ∧ PySem.W.kitOne K (.ref D) cv = some b ∧
  (d = none ∨ ∃ dd fs, d = some dd ∧ H dd = some (.xd fs)) ∧ Q (.bl b) H
theorem call_isErr {X : Cx} {a D : Addr} {oe : Obj} {cls : Value} {d : Option Addr} {pn : List (Addr × Obj)} (cc : ExcC X.K D) (hz : Zc cls d oe) (hf : ∃ vs, oe.data = .fields vs) : CallR (X.suite a ((a, oe) :: pn)) (.builtin "isinstance") (rIsErr X.K D a cls d) := by
  intro pins s σ H xs us Q I r h
  obtain ⟨c, cv, b, rfl, rfl, hcv, e, hd, q⟩ := h
  obtain ⟨u1, u2, rfl, r1, r2⟩ := vals2 r
  cases (show u1 = Value.ref a from r1)
  have e2 := hcv.eq r2
  subst e2
  obtain ⟨at0, _⟩ := I.pin (a, oe) (List.mem_append.mpr (.inl List.mem_cons_self))
  obtain ⟨vs, hv⟩ := hf
  have J : ∃ own, PySem.W.InstAt s.heap a oe D own := by
    rcases hd with rfl | ⟨dd, fs, rfl, hx⟩
    · exact ⟨none, at0, hz.1, by unfold PySem.W.notCls; rw [hv] <;> rfl, by rw [hz.2]; exact True.intro⟩
    · have hx2 : ObjOk X.prog X.w H s.heap dd (.xd fs) := I.hok dd _ hx
      obtain ⟨mA, hns, hr⟩ := hx2
      obtain ⟨od, ho, hl⟩ := lookIn_ns hns
      exact ⟨some od, at0, hz.1, by unfold PySem.W.notCls; rw [hv] <;> rfl, by rw [hz.2]; exact ho⟩
  obtain ⟨own, J⟩ := J
  exact PySem.W.kia_one (kit_err cc) I.kIn J e (fun z => nomatch z) fun tk => ⟨.bl b, H, I.kept (t' := tk) fun _ _ z => z, rfl, q⟩

/-! ### data of any depth -/
def tyN : PyData → String
  | .none => "NoneType" | .bool _ => "bool" | .int _ => "int" | .str _ => "str" | .list _ => "list" | .tuple _ => "tuple" | .dict _ => "dict"
theorem dp_ty {K : PySem.W.Frag} {H : Hp} {v : V} {d : PyData} (h : Dp K H v d) : TyX K H v (.type (tyN d)) := by
  cases h with
  | non => exact .base .non
  | bl b => exact .base (.bl b)
  | int i => exact .base (.int i)
  | str x => exact .base (.str x)
  | lst hs _ =>
    rcases hs with (h | ⟨o, h⟩) | ⟨o, its, n, e, c, _⟩
    · exact .base (.lst h)
    · exact .base (.frz h)
    · exact .kList e c
  | tup hs _ =>
    rcases hs with (h | ⟨o, h⟩) | ⟨o, its, n, e, c, _⟩
    · exact .base (.tup h)
    · exact .fTuple h
    · exact .kTuple e c
theorem cr_isi {X : Cx} {K : PySem.W.Frag} (h : X.K = K) : CallR X (.builtin "isinstance") (rIsi K) := by
  subst h
  exact call_isi
theorem cr_isiT {X : Cx} {K : PySem.W.Frag} (h : X.K = K) : CallR X (.builtin "isinstance") (rIsiT K) := by
  subst h
  exact call_isiT
theorem pg_tupK {X : Cx} {K : PySem.W.Frag} {es : List Expr} {k n : Nat} {pos : Pos} {t : TGs} (hK : X.K = K) (hc : X.calm = true) (h : PGs X es t) (hn : (assignEach es X.env).length = n) (hst : (assignEach es X.env).findIdx? (·.1) = none) : PG X (.Tuple es k pos) (gTup K n t) := by
  subst hK
  exact pg_tup hc h hn hst
theorem walk_zipT {K : PySem.W.Frag} {a b : Addr} {xs ys : List V} {n : Nat} (ex : n = xs.length) (ey : n = ys.length) : Walk (RZ.ItzT K a b) n (fun H => SqT K H a xs ∧ SqT K H b ys) (YPair (fun i => xs[i]?) (fun i => ys[i]?)) where
  goes := fun i _ hi q => ⟨xs, ys, xs[i]'(by omega), ys[i]'(by omega), q.1, q.2, List.getElem?_eq_getElem _, List.getElem?_eq_getElem _⟩
  stops := fun _ q => ⟨xs, ys, q.1, q.2, by omega⟩
  yields := fun i H v H' _ q y => by
    obtain ⟨T, x, z, h1, h2, h3, h4, h5⟩ := y
    exact ⟨T, x, z, h1, h2, h3, h4 xs q.1, h5 ys q.2⟩
theorem isi_of {K : PySem.W.Frag} {H : Hp} {v : V} {d : PyData} {T : String} {r : Bool} {Q : VK} (h : Dp K H v d) (e : kitB (tyN d) T = some r) (q : Q (.bl r) H) : rIsi K [v, .ty T] H Q :=
  ⟨v, .ty T, _, _, r, rfl, .ty T, dp_ty h, kit_ty e, q⟩
def isInt : PyData → Bool | .int _ => true | .bool _ => true | _ => false
def isBool : PyData → Bool | .bool _ => true | _ => false
def isTup : PyData → Bool | .tuple _ => true | _ => false
def isLst : PyData → Bool | .list _ => true | _ => false
def isStr : PyData → Bool | .str _ => true | _ => false
theorem kb_int (d : PyData) : kitB (tyN d) "int" = some (isInt d) := by cases d <;> (dsimp only [tyN, isInt]; decide +kernel)
theorem kb_bool (d : PyData) : kitB (tyN d) "bool" = some (isBool d) := by cases d <;> (dsimp only [tyN, isBool]; decide +kernel)
theorem kb_tup (d : PyData) : kitB (tyN d) "tuple" = some (isTup d) := by cases d <;> (dsimp only [tyN, isTup]; decide +kernel)
theorem kb_lst (d : PyData) : kitB (tyN d) "list" = some (isLst d) := by cases d <;> (dsimp only [tyN, isLst]; decide +kernel)
theorem kb_str (d : PyData) : kitB (tyN d) "str" = some (isStr d) := by cases d <;> (dsimp only [tyN, isStr]; decide +kernel)
theorem same_seqT {K : PySem.W.Frag} {H H' : Hp} {a : Addr} {xs : List V} (e : Same H H') (h : SqT K H a xs) : SqT K H' a xs := by
  rcases h with (h | ⟨o, h⟩) | h
  · exact .inl (.inl (e _ _ h))
  · exact .inl (.inr ⟨o, e _ _ h⟩)
  · exact .inr h
mutual
theorem dp_same {K : PySem.W.Frag} {H H' : Hp} (s : Same H H') : ∀ (d : PyData) (v : V), Dp K H v d → Dp K H' v d
  | .none, _, h => by cases h; exact .non
  | .bool b, _, h => by cases h; exact .bl b
  | .int i, _, h => by cases h; exact .int i
  | .str x, _, h => by cases h; exact .str x
  | .list ds, _, h => by
    cases h with
    | lst hs ha => exact .lst (s.seq hs) (dps_same s ds _ ha)
  | .tuple ds, _, h => by
    cases h with
    | tup hs ha => exact .tup (same_seqT s hs) (dps_same s ds _ ha)
  | .dict _, _, h => by cases h
theorem dps_same {K : PySem.W.Frag} {H H' : Hp} (s : Same H H') : ∀ (ds : List PyData) (vs : List V), DpAll K H vs ds → DpAll K H' vs ds
  | [], _, h => by cases h; exact .nil
  | d :: ds, _, h => by
    cases h with
    | cons h1 h2 => exact .cons (dp_same s d _ h1) (dps_same s ds _ h2)
end
theorem dps_len {K : PySem.W.Frag} {H : Hp} : ∀ {vs : List V} {ds : List PyData}, DpAll K H vs ds → vs.length = ds.length
  | _, _, .nil => rfl
  | _, _, .cons _ t => congrArg (· + 1) (dps_len t)
theorem dps_get {K : PySem.W.Frag} {H : Hp} : ∀ {vs : List V} {ds : List PyData} {i : Nat} {v : V}, DpAll K H vs ds → vs[i]? = some v → ∃ d, ds[i]? = some d ∧ Dp K H v d
  | [], _, i, v, _, h => by simp at h
  | x :: vs, ds, 0, v, a, h => by
    cases a with
    | cons h1 t =>
      have e : x = v := Option.some.inj h
      rw [← e]
      exact ⟨_, rfl, h1⟩
  | x :: vs, ds, i + 1, v, a, h => by
    cases a with
    | cons h1 t => exact dps_get (i := i) t h
/-- the ratio that a value is; the number that it stands for -/
def intOf : PyData → Option Int | .int i => some i | _ => none
def rat2 : List PyData → Option (Int × Int)
  | [a, b] => (match intOf a with
    | some t => (match intOf b with
      | some m => if 1 ≤ m ∧ Int.gcd t m = 1 then some (t, m) else none
      | none => none)
    | none => none)
  | _ => none
def ratOf : PyData → Option (Int × Int)
  | .tuple ds => rat2 ds
  | _ => none
def numOf : PyData → Option (Int × Int)
  | .int i => some (i, 1)
  | d => ratOf d
def isRat (d : PyData) : Bool := (ratOf d).isSome
def wholeD : PyData → Bool | .int _ => true | _ => false
def rat (t m : Int) : PyData := .tuple [.int t, .int m]
theorem dp_rat {K : PySem.W.Frag} {H : Hp} {p : Addr} {t m : Int} (h : H p = some (.tup [.int t, .int m])) : Dp K H (.ref p) (rat t m) := .tup (SqT.of h) (.cons (.int t) (.cons (.int m) .nil))
def spD (K : PySem.W.Frag) (f : PyData → Bool) : Sp := fun vs H Q _ => ∃ (v : V) (d : PyData), vs = [v] ∧ Dp K H v d ∧ ∀ H', Same H H' → Q (.bl (f d)) H'
theorem Kn.mono {P : Program} {w : World} {K : PySem.W.Frag} {mg : Str → Option Value} {base : Heap} {cx : CXT} {x : Str} {j k : Nat} {ps : List Str} {sp : Sp} (h : Kn P w K mg base cx x j ps sp) (l : j ≤ k) : Kn P w K mg base cx x k ps sp := by
  obtain ⟨f, fd, F, a, b, c⟩ := h
  exact ⟨f, fd, F.mono l, a, b, c⟩

/-! ### the program's ratios -/
def CDivWN (_ j : Int) : Prop := j ≠ 0 ∧ j.natAbs.log2 < 9000
theorem op_fdivWN {X : Cx} : OpR X (binaryOp .FloorDiv) (rI CDivWN fun i j => .int (i.fdiv j)) := opI fun _ _ _ _ _ _ _ hc q => PyProof.Rows.floordiv_int hc.1 q (.inl (PyProof.noPylong_of_log2 hc.2))
/-- X() of an own exception class without __init__ -/
theorem pmk_own0 {X : Cx} {C : Addr} {bmB : List Value} {B newId initId : String} {x : Str} {p pos : Pos} (F : ExcBaseFacts B newId initId bmB) (xP : PySem.W.excIn X.K C bmB newId = true) (gP : X.mg x = some (.ref C))
    (kP : PySem.W.keepIn X.K (.ref C) = true) (rP : Raises X (.ref C)) (hg : Gl X x) (hdb : (x == ("__debug__" : Str)) = false := by decide) : PMk X (.Call (.Name x p) [] [] pos) (fun _ H Q => Q (.ref C) none H) := by
  intro pins s σ H Q I want
  refine wpAny_Call_Name_kw (ld_glob I hg gP ?_ hdb)
  refine PySem.W.callWith_K0 I.kIn kP ?_
  show wpAny _ _ (call (.ref C) []) _ _ _
  obtain ⟨bm, N, nm, qn, bs, hdct, sn, sub, ab, col, dd, k0, k1, k2, k3, k5, mN, at0, hN, hni, T⟩ := exc_obj I.kIn xP
  refine wpAny_call_exc_subT F T at0 hN hni (fun h' e made => ?_) (Nat.zero_le _)
  exact mk_of I made rP want (I.hok.gone made.new)
/-- an error class with one field: what is known of it -/
def spErrInit (C : Addr) (fld : Str) : Sp := fun vs H Q _ => ∃ (e : Addr) (v : V), vs = [.ref e, v] ∧ H e = some (exo e C none) ∧ ∀ dx, H dx = none → dx ≠ e → Q .non (upd (upd H dx (exd dx [(fld, v)])) e (exo e C (some dx)))
structure ErrF (P : Program) (w : World) (K : PySem.W.Frag) (mg : Str → Option Value) (base : Heap) (x fld : Str) (C : Addr) : Prop where
  gC : mg x = some (.ref C)
  ox : OexC K C
  xf : XfC K C
  no : PySem.W.findIn K (.ref C) fld = some none
  ec : ExcC K C
  ex : PySem.W.exmOne K (.ref C) (.ref C) = some true
  ini : ∃ fI fdI, PySem.W.findIn K (.ref C) "__init__" = some (some (.ref fI)) ∧ PySem.W.typeIn K (.ref fI) = some (.type "function") ∧ FnOk P w K mg base CX0 1 fI fdI ["self", fld] (spErrInit C fld) ∧ Binds K fdI ["self", fld] []
/-- an error class without fields -/
structure ErrZ (K : PySem.W.Frag) (mg : Str → Option Value) (x : Str) (C : Addr) : Prop where
  gP : mg x = some (.ref C)
  xP : PySem.W.excIn K C [.type "ValueError", .type "Exception", .type "BaseException", .type "object"] "ValueError.__new__" = true
  kP : PySem.W.keepIn K (.ref C) = true
  bP : PySem.W.subIn K (.ref C) (.type "BaseException") = some true
  tP : PySem.W.typeIn K (.ref C) = some (.type "type")
  ec : ExcC K C
  ex : PySem.W.exmOne K (.ref C) (.ref C) = some true
/-- a def with one default, 1 -/
def Df1 (K : PySem.W.Frag) (mg : Str → Option Value) (x : Str) (st : Stmt) (ps : List Str) : Prop :=
  ∃ f fd, FunD K x x (defArgs st) (defBody st) (defScope st) [.int 1] [] f fd ∧ mg x = some (.ref f) ∧ Binds K fd ps [] ∧ ∃ ds, Vals [.int 1] ds ∧ Binds K fd ps ds
def Kn1 (P : Program) (w : World) (K : PySem.W.Frag) (mg : Str → Option Value) (base : Heap) (cx : CXT) (x : Str) (k : Nat) (ps : List Str) (sp : Sp) : Prop :=
  ∃ f fd, FnOk P w K mg base cx k f fd ps sp ∧ mg x = some (.ref f) ∧ PySem.W.keepIn K (.ref f) = true ∧ Binds K fd ps [] ∧ ∃ ds, Vals [.int 1] ds ∧ Binds K fd ps ds
def spAsRatio (K : PySem.W.Frag) (C : Addr) : Sp := fun vs H Q E => ∃ (v : V) (d : PyData), vs = [v] ∧ Dp K H v d ∧ (∀ t m r H', numOf d = some (t, m) → Same H H' → Dp K H' r (rat t m) → Q r H') ∧
  (numOf d = none → ∀ dx H', Same H H' → H' dx = some (.xd [("value", v)]) → E (.ref C) (some dx) H')
/-- top / bottom in lowest terms -/
def nt (t m : Int) : Int := (if m < 0 then -t else t) / (Int.gcd t m : Int)
def nb (t m : Int) : Int := (m.natAbs : Int) / (Int.gcd t m : Int)
theorem gcd_pos {t m : Int} (h : m ≠ 0) : 0 < (Int.gcd t m : Int) := by
  have := Int.gcd_pos_of_ne_zero_right t h
  omega
theorem gcd_le {t m : Int} (h : m ≠ 0) : Int.gcd t m ≤ m.natAbs := Nat.le_of_dvd (by omega) (Nat.gcd_dvd_right t.natAbs m.natAbs)
theorem gcd_log {t m : Int} (h : m ≠ 0) (hB : m.natAbs < 2 ^ 8000) : (Int.gcd t m : Int).natAbs.log2 < 9000 :=
  Nat.lt_trans (PySem.Flt.log2_lt_of (by decide) (show (Int.gcd t m : Int).natAbs < 2 ^ 8000 from Nat.lt_of_le_of_lt (gcd_le h) hB)) (by decide)
theorem nt_pos {t m : Int} (h : ¬ m < 0) (g : 0 < (Int.gcd t m : Int)) : t.fdiv (Int.gcd t m : Int) = nt t m := by
  unfold nt
  rw [if_neg h, Int.fdiv_eq_ediv_of_nonneg _ (by omega)]
theorem nb_pos {t m : Int} (h : ¬ m < 0) (g : 0 < (Int.gcd t m : Int)) : m.fdiv (Int.gcd t m : Int) = nb t m := by
  unfold nb
  rw [Int.fdiv_eq_ediv_of_nonneg _ (by omega), show (m.natAbs : Int) = m by omega]
theorem nt_neg {t m : Int} (h : m < 0) (g : 0 < (Int.gcd t m : Int)) : t.fdiv (-(Int.gcd t m : Int)) = nt t m := by
  unfold nt
  rw [if_pos h, ← Int.fdiv_eq_ediv_of_nonneg _ (by omega), ← Int.neg_fdiv_neg, Int.neg_neg]
theorem nb_neg {t m : Int} (h : m < 0) (g : 0 < (Int.gcd t m : Int)) : m.fdiv (-(Int.gcd t m : Int)) = nb t m := by
  unfold nb
  rw [show (m.natAbs : Int) = -m by omega, ← Int.fdiv_eq_ediv_of_nonneg _ (by omega), ← Int.neg_fdiv_neg, Int.neg_neg]
def spRatio (C : Addr) : Sp := fun vs H Q E => ∃ t m : Int, vs = [.int t, .int m] ∧ (m ≠ 0 → (Int.gcd t m : Int).natAbs.log2 < 9000) ∧ (m ≠ 0 → ∀ p H', Same H H' → H' p = some (.tup [.int (nt t m), .int (nb t m)]) → Q (.ref p) H') ∧ (m = 0 → E (.ref C) none H)
theorem ratOf_is {d : PyData} {z : Int × Int} (h : ratOf d = some z) : d = rat z.1 z.2 := by
  unfold ratOf at h
  split at h
  · unfold rat2 at h
    split at h
    · rename_i a b
      cases a <;> first | cases h | skip
      cases b <;> first | cases h | skip
      rename_i x y
      simp only [intOf] at h
      split at h
      · cases h
        rfl
      · cases h
    · cases h
  · cases h
structure Gt (mg : Str → Option Value) : Prop where
  g_gcd : mg "gcd" = some (.builtin "math.gcd")
section
variable {P : Program} {w : World} {K : PySem.W.Frag} {mg : Str → Option Value} {base : Heap}
theorem ok_is_whole (T : Bt mg) (D : Df K mg "is_whole" s_is_whole ["value"]) : Kn P w K mg base CX0 "is_whole" 1 ["value"] (spD K wholeD) := by
  obtain ⟨f, fd, F, hm, hb⟩ := D
  refine ⟨f, fd, F.ok sc_is_whole (fun vs H Q E h => ?_) (fun cdv A outer s H vs Q E hr h => ?_), hm, F.kp, hb⟩
  · obtain ⟨v, d, rfl, _⟩ := h
    rfl
  · obtain ⟨v, d, rfl, hd, q⟩ := h
    refine ⟨_, (pss_one (ps_ret (pe_and (pe_callB (cr_isi (K := K) rfl) (by rfl) T.n_isinstance (by decide +kernel) (pa_cons (pv 0) (pa_cons (pe_bltn (v := .ty "int") (by rfl) T.n_int (by decide +kernel) rfl) pa_nil))) (pe_one (pe_not (pe_callB (cr_isi (K := K) rfl) (by rfl) T.n_isinstance (by decide +kernel) (pa_cons (pv 0) (pa_cons (pe_bltn (v := .ty "bool") (by rfl) T.n_bool (by decide +kernel) rfl) pa_nil)))))))), ?_⟩
    have q0 := q H (Same.refl H)
    refine ⟨_, rfl, _, _, _, _, _, rfl, .ty _, dp_ty hd, kit_ty (kb_int d), _, rfl, ?_⟩
    refine ite2 (fun c => ?_) (fun c => ?_)
    · refine ⟨_, rfl, _, _, _, _, _, rfl, .ty _, dp_ty hd, kit_ty (kb_bool d), _, rfl, ?_⟩
      have e : (!isBool d) = wholeD d := by cases d <;> first | rfl | cases c
      rw [e]
      exact q0
    · have e : false = wholeD d := by cases d <;> first | rfl | exact absurd rfl c
      rw [e]
      exact q0
theorem ok_is_ratio (T : Bt mg) (Tg : Gt mg) (GW : Kn P w K mg base CX0 "is_whole" 1 ["value"] (spD K wholeD)) (D : Df K mg "is_ratio" s_is_ratio ["value"]) : Kn P w K mg base CX0 "is_ratio" 2 ["value"] (spD K isRat) := by
  obtain ⟨f, fd, F, hm, hb⟩ := D
  obtain ⟨f_is_whole, fd_is_whole, G_is_whole, m_is_whole, k_is_whole, b_is_whole⟩ := GW
  refine ⟨f, fd, F.ok sc_is_ratio (fun vs H Q E h => ?_) (fun cdv A outer s H vs Q E hr h => ?_), hm, F.kp, hb⟩
  · obtain ⟨v, d, rfl, _⟩ := h
    rfl
  · obtain ⟨v, d, rfl, hd, q⟩ := h
    refine ⟨_, (pss_cons (ps_if (PW.pt (pw_or (pt_not (pt_val (pe_callB (cr_isi (K := K) rfl) (by rfl) T.n_isinstance (by decide +kernel) (pa_cons (pv 0) (pa_cons (pe_bltn (v := .ty "tuple") (by rfl) T.n_tuple (by decide +kernel) rfl) pa_nil))))) (pw_or1 (pt_cmpR op_ne (pe_callB call_len_seq (by rfl) T.n_len (by decide +kernel) (pa_cons (pv 0) pa_nil)) pe_int (nomark _))))) (pss_one (ps_ret pe_bl)) pss_nil)
      (pss_cons (ps_asg (pv 0) (pg_tup (by rfl) (pgs_cons (pg_name (i := 1) sc_is_ratio.nd rfl (Or.inl rfl)) (pgs_cons (pg_name (i := 2) sc_is_ratio.nd rfl (Or.inl rfl)) pgs_nil))))
      (pss_cons (ps_if (PW.pt (pw_or (pt_not (pt_val (pe_call G_is_whole (hr.mono (by omega)) rfl m_is_whole k_is_whole b_is_whole .nil pass0 (pa_cons (pv 1) pa_nil)))) (pw_or (pt_not (pt_val (pe_call G_is_whole (hr.mono (by omega)) rfl m_is_whole k_is_whole b_is_whole .nil pass0 (pa_cons (pv 2) pa_nil)))) (pw_or1 (pt_cmpR op_lt (pv 2) pe_int (nomark _)))))) (pss_one (ps_ret pe_bl)) pss_nil)
      (pss_one (ps_ret (pe_cmpR op_eq (pe_callBfun cr_gcd rfl Tg.g_gcd (pa_cons (pv 1) (pa_cons (pv 2) pa_nil))) pe_int (nomark _))))))), ?_⟩
    refine ⟨_, rfl, _, _, _, _, _, rfl, .ty _, dp_ty hd, kit_ty (kb_tup d), _, rfl, ?_⟩
    refine ite2 (fun c => ?_) (fun c => ?_)
    · have e : isRat d = false := by cases d <;> first | rfl | cases c
      have q0 := q H (Same.refl H)
      rw [e] at q0
      exact q0
    · obtain ⟨ds, rfl⟩ : ∃ ds, d = .tuple ds := by cases d <;> first | exact ⟨_, rfl⟩ | exact absurd rfl c
      cases hd with
      | @tup a xs _ hs ha =>
        have hl := dps_len ha
        refine ⟨_, rfl, a, _, rfl, .inr hs, rfl, _, rfl, ?_⟩
        refine ite2 (fun c2 => ?_) (fun c2 => ?_)
        · have e : isRat (.tuple ds) = false := by
            match ds, xs, hl, c2 with
            | [], _, _, _ => rfl
            | [_], _, _, _ => rfl
            | [_, _], xs, hl, c2 =>
              have hl2 : xs.length = 2 := hl
              rw [hl2] at c2
              exact absurd c2 (by decide)
            | _ :: _ :: _ :: _, _, _, _ => rfl
          have q0 := q H (Same.refl H)
          rw [e] at q0
          exact q0
        · have h2 : xs.length = 2 := by
            by_cases z : (xs.length : Int) = 2
            · omega
            · exact absurd (by simp [z]) c2
          obtain ⟨d1, d2, rfl⟩ : ∃ d1 d2, ds = [d1, d2] := by
            rw [h2] at hl
            match ds, hl with
            | [d1, d2], _ => exact ⟨d1, d2, rfl⟩
          cases ha with
          | @cons x1 _ _ _ h1 ha =>
            cases ha with
            | @cons x2 _ _ _ hx2 ha =>
              cases ha
              refine ⟨_, rfl, a, _, rfl, hs, rfl, x1, _, rfl, x2, _, rfl, rfl, ?_⟩
              refine ⟨_, rfl, x1, d1, rfl, h1, fun H1 s1 => ⟨_, rfl, ?_⟩⟩
              refine ite2 (fun c3 => ?_) (fun c3 => ?_)
              · have e : isRat (.tuple [d1, d2]) = false := by cases d1 <;> first | rfl | cases c3
                have q0 := q H1 s1
                rw [e] at q0
                exact q0
              · obtain ⟨t, rfl⟩ : ∃ t, d1 = .int t := by cases d1 <;> first | exact ⟨_, rfl⟩ | exact absurd rfl c3
                refine ⟨_, rfl, x2, d2, rfl, dp_same s1 _ _ hx2, fun H2 s2 => ⟨_, rfl, ?_⟩⟩
                refine ite2 (fun c4 => ?_) (fun c4 => ?_)
                · have e : isRat (.tuple [.int t, d2]) = false := by cases d2 <;> first | rfl | cases c4
                  have q0 := q H2 (s1.trans s2)
                  rw [e] at q0
                  exact q0
                · obtain ⟨m, rfl⟩ : ∃ m, d2 = .int m := by cases d2 <;> first | exact ⟨_, rfl⟩ | exact absurd rfl c4
                  cases h1
                  cases hx2
                  refine ⟨_, rfl, _, _, rfl, rfl, _, rfl, ?_⟩
                  refine ite2 (fun c5 => ?_) (fun c5 => ?_)
                  · have c6 : m < 1 := of_decide_eq_true c5
                    have e : isRat (.tuple [.int t, .int m]) = false := by
                      show (if 1 ≤ m ∧ Int.gcd t m = 1 then some (t, m) else none).isSome = false
                      rw [if_neg (by omega)]
                      rfl
                    have q0 := q H2 (s1.trans s2)
                    rw [e] at q0
                    exact q0
                  · have c6 : ¬ m < 1 := of_decide_eq_false (Bool.eq_false_iff.mpr c5)
                    refine ⟨_, rfl, _, rfl, _, _, rfl, rfl, ?_⟩
                    have e : isRat (.tuple [.int t, .int m]) = decide ((V.int ((Nat.gcd t.natAbs m.natAbs : Nat) : Int)) = V.int 1) := by
                      show (if 1 ≤ m ∧ Int.gcd t m = 1 then some (t, m) else none).isSome = _
                      have g : Int.gcd t m = Nat.gcd t.natAbs m.natAbs := rfl
                      rw [g]
                      by_cases z : Nat.gcd t.natAbs m.natAbs = 1
                      · rw [if_pos ⟨by omega, z⟩, z]
                        rfl
                      · rw [if_neg (fun y => z y.2)]
                        symm
                        apply decide_eq_false
                        intro y
                        injection y with y
                        omega
                    have q0 := q H2 (s1.trans s2)
                    rw [e] at q0
                    exact q0
theorem ok_errinit {x : Str} {C f : Addr} {fd : FuncData} (F : Fun K "__init__" x s_InvalidNumber_init f fd) (ox : OexC K C) (no : PySem.W.findIn K (.ref C) "value" = some none) : FnOk P w K mg base CX0 1 f fd ["self", "value"] (spErrInit C "value") := by
  refine F.ok sc_InvalidNumber_init (fun vs H Q E h => ?_) (fun cdv A outer s H vs Q E hr h => ?_)
  · obtain ⟨e, v, rfl, _⟩ := h
    rfl
  · obtain ⟨e, v, rfl, he, q⟩ := h
    refine ⟨_, pss_one (ps_ost (pv 0) (pv 1)), ?_⟩
    exact ⟨_, rfl, _, rfl, e, C, rfl, ox, no, .inl ⟨he, fun dx h1 h2 => q dx h1 h2⟩⟩
theorem ok_as_ratio {C : Addr} (T : Bt mg) (Ti : ErrF P w K mg base "InvalidNumber" "value" C) (GW : Kn P w K mg base CX0 "is_whole" 1 ["value"] (spD K wholeD)) (GR : Kn P w K mg base CX0 "is_ratio" 2 ["value"] (spD K isRat)) (D : Df K mg "as_ratio" s_as_ratio ["value"]) :
    Kn P w K mg base (L2.CX P w) "as_ratio" 3 ["value"] (spAsRatio K C) := by
  obtain ⟨f, fd, F, hm, hb⟩ := D
  obtain ⟨f_is_whole, fd_is_whole, G_is_whole, m_is_whole, k_is_whole, b_is_whole⟩ := GW
  obtain ⟨f_is_ratio, fd_is_ratio, G_is_ratio, m_is_ratio, k_is_ratio, b_is_ratio⟩ := GR
  obtain ⟨fI, fdI, iC, tI, F1, b1⟩ := Ti.ini
  refine ⟨f, fd, F.okX sc_as_ratio (fun vs H Q E h => ?_) (fun cdv A outer s H vs Q E hr h => ?_), hm, F.kp, hb⟩
  · obtain ⟨v, d, rfl, _⟩ := h
    rfl
  · obtain ⟨v, d, rfl, hd, q1, q2⟩ := h
    refine ⟨_, (pss_cons (ps_if (pt_val (pe_call G_is_whole (hr.mono (by omega)) rfl m_is_whole k_is_whole b_is_whole .nil pass0 (pa_cons (pv 0) pa_nil))) (pss_one (ps_ret (pe_tup (pa_cons (pv 0) (pa_cons pe_int pa_nil))))) pss_nil)
      (pss_cons (ps_if (pt_not (pt_val (pe_call G_is_ratio (hr.mono (by omega)) rfl m_is_ratio k_is_ratio b_is_ratio .nil pass0 (pa_cons (pv 0) pa_nil)))) (pss_one (ps_raise rfl (takes_of rfl rfl rfl rfl) (pmk_oex Ti.ox iC tI F1 (hr.mono (by omega)) b1 .nil pass0 rfl Ti.gC (pa_cons (pv 0) pa_nil)))) pss_nil)
      (pss_one (ps_ret (pv 0))))), ?_⟩
    refine ⟨_, rfl, v, d, rfl, hd, fun H1 s1 => ⟨_, rfl, ?_⟩⟩
    have hd1 := dp_same s1 _ _ hd
    refine ite2 (fun c => ?_) (fun c => ?_)
    · obtain ⟨t, rfl⟩ : ∃ t, d = .int t := by cases d <;> first | exact ⟨_, rfl⟩ | cases c
      cases hd
      refine ⟨_, rfl, (by show 2 ≤ sizeLine; decide), fun p np => ?_⟩
      exact q1 t 1 _ _ rfl (s1.trans (same_new np _)) (dp_rat upd_same)
    · refine ⟨_, rfl, v, d, rfl, hd1, fun H2 s2 => ⟨_, rfl, ?_⟩⟩
      refine ite2 (fun c2 => ?_) (fun c2 => ?_)
      · have e : numOf d = none := by
          cases hr : ratOf d with
          | some z =>
            unfold isRat at c2
            rw [hr] at c2
            cases c2
          | none =>
            cases d <;> first | exact hr | exact absurd rfl c
        refine ⟨_, rfl, (by show 1 ≤ 1000; decide), fun a na => ?_⟩
        refine ⟨a, v, rfl, upd_same, fun dx hdx nx => ⟨rfl, dx, [("value", v)], upd_same, ?_, ?_, ?_⟩⟩
        · rw [upd_ne nx, upd_same]
        · rw [upd_ne nx] at hdx
          exact hdx
        · rw [upd_ne nx] at hdx
          refine q2 e dx _ (s1.trans (s2.trans fun b o hbo => ?_)) upd_same
          have n1 : b ≠ a := ne_of_none hbo na
          have n2 : b ≠ dx := ne_of_none hbo hdx
          rw [upd_ne n2, del_ne n1, upd_ne n1, upd_ne n2, upd_ne n1]
          exact hbo
      · refine ⟨_, rfl, ?_⟩
        obtain ⟨t, m, hr, rfl⟩ : ∃ t m, ratOf d = some (t, m) ∧ d = rat t m := by
          cases hr : ratOf d with
          | none =>
            unfold isRat at c2
            rw [hr] at c2
            exact absurd rfl c2
          | some z => exact ⟨z.1, z.2, rfl, ratOf_is hr⟩
        exact q1 t m _ _ hr (s1.trans s2) (dp_same s2 _ _ hd1)
end

section
variable {P : Program} {w : World} {K : PySem.W.Frag} {mg : Str → Option Value} {base : Heap}
theorem ok_ratio {C : Addr} (T : Bt mg) (Tg : Gt mg) (Tz : ErrZ K mg "ZeroBottom" C) (D : Df1 K mg "ratio" s_ratio ["top", "bottom"]) : Kn1 P w K mg base (L2.CX P w) "ratio" 1 ["top", "bottom"] (spRatio C) := by
  obtain ⟨f, fd, F, hm, hb, hb1⟩ := D
  refine ⟨f, fd, F.ok sc_ratio (fun vs H Q E h => ?_) (fun cdv A outer s H vs Q E hr h => ?_), hm, F.kp, hb, hb1⟩
  · obtain ⟨t, m, rfl, _⟩ := h
    rfl
  · obtain ⟨t, m, rfl, hB, q1, q2⟩ := h
    refine ⟨_, (pss_cons (ps_if (pt_cmpR op_eq (pv 1) pe_int (nomark _)) (pss_one (ps_raise rfl (takes_of rfl rfl rfl rfl) (pmk_own0 PySem.F.excBase_ValueError Tz.xP Tz.gP Tz.kP (raises_own Tz.bP Tz.tP) rfl))) pss_nil)
      (pss_cons (ps_set (i := 2) sc_ratio.nd rfl (Or.inl rfl) (pe_callBfun cr_gcd rfl Tg.g_gcd (pa_cons (pv 0) (pa_cons (pv 1) pa_nil))))
      (pss_cons (ps_if (pt_cmpR op_lt (pv 1) pe_int (nomark _)) (pss_one (ps_set (i := 2) sc_ratio.nd rfl (Or.inl rfl) (pe_un un_neg (pv 2)))) pss_nil)
      (pss_one (ps_ret (pe_tup (pa_cons (pe_op op_fdivWN (pv 0) (pv 2)) (pa_cons (pe_op op_fdivWN (pv 1) (pv 2)) pa_nil)))))))), ?_⟩
    refine ⟨_, rfl, rfl, _, rfl, ?_⟩
    refine ite2 (fun c => ?_) (fun c => ?_)
    · have e : m = 0 := by
        have z := of_decide_eq_true c
        injection z
      exact q2 e
    · have e : m ≠ 0 := fun z => c (by rw [z]; rfl)
      refine ⟨_, rfl, _, rfl, _, _, rfl, ?_⟩
      have g0 : (Int.gcd t m : Int) = ((Nat.gcd t.natAbs m.natAbs : Nat) : Int) := rfl
      rw [← g0]
      have gp := gcd_pos (t := t) e
      have gl := hB e
      refine ⟨_, rfl, _, _, rfl, rfl, _, rfl, ?_⟩
      refine ite2 (fun c2 => ?_) (fun c2 => ?_)
      · have c3 : m < 0 := of_decide_eq_true c2
        refine ⟨_, rfl, _, rfl, ?_⟩
        refine ⟨_, rfl, _, rfl, _, _, rfl, rfl, ⟨by omega, by rw [Int.natAbs_neg]; exact gl⟩, _, rfl, _, rfl, _, _, rfl, rfl, ⟨by omega, by rw [Int.natAbs_neg]; exact gl⟩, (by show 2 ≤ sizeLine; decide), fun p np => ?_⟩
        refine q1 e p _ (same_new np _) ?_
        rw [upd_same, ← nt_neg c3 gp, ← nb_neg c3 gp]
      · have c3 : ¬ m < 0 := of_decide_eq_false (Bool.eq_false_iff.mpr c2)
        refine ⟨_, rfl, _, rfl, _, _, rfl, rfl, ⟨by omega, gl⟩, _, rfl, _, rfl, _, _, rfl, rfl, ⟨by omega, gl⟩, (by show 2 ≤ sizeLine; decide), fun p np => ?_⟩
        refine q1 e p _ (same_new np _) ?_
        rw [upd_same, ← nt_pos c3 gp, ← nb_pos c3 gp]
end

/-! ### the law's own draws and checks -/
theorem map_get {ns : List Int} {i : Nat} {x : V} (h : (ns.map V.int)[i]? = some x) : ∃ z, ns[i]? = some z ∧ x = V.int z := by
  rw [List.getElem?_map] at h
  cases e : ns[i]? with
  | none =>
    rw [e] at h
    cases h
  | some z =>
    rw [e] at h
    exact ⟨z, rfl, (Option.some.inj h).symm⟩
theorem take_more {α : Type} : ∀ {l : List α} {i : Nat} {x : α}, l[i]? = some x → l.take (i + 1) = l.take i ++ [x]
  | [], i, x, h => by simp at h
  | a :: l, 0, x, h => by
    have e := Option.some.inj h
    subst e
    rfl
  | a :: l, i + 1, x, h => congrArg (a :: ·) (take_more (l := l) (i := i) h)
theorem same_upd {H H1 : Hp} {D : Addr} {o : HO} (s : Same H H1) (h : H D = none) : Same H (upd H1 D o) := fun b u q => by
  rw [upd_ne (ne_of_none q h)]
  exact s _ _ q
theorem get_lt {α : Type} {l : List α} {i : Nat} {x : α} (h : l[i]? = some x) : i < l.length := (List.getElem?_eq_some_iff.mp h).1
/-- an item of a list at a drawn place -/
theorem at_lt {xs : List V} {r : Int} (h0 : 0 ≤ r) (h1 : r < xs.length) : ∃ v, v ∈ xs ∧ atI xs r = some v := by
  obtain ⟨k, rfl⟩ : ∃ k : Nat, r = (k : Int) := ⟨r.toNat, by omega⟩
  have hk : k < xs.length := by omega
  exact ⟨xs[k], List.getElem_mem hk, atI_nat (List.getElem?_eq_getElem hk)⟩
def mk (b g : Addr) (H : Hp) : Hp := fun a => if a = b ∨ a = g then none else H a
theorem mk_sub (b g : Addr) (H : Hp) : Same (mk b g H) H := fun a o h => by
  unfold mk at h
  split at h
  · cases h
  · exact h
theorem mk_but {b g : Addr} {H H' : Hp} (x : But b g H H') : Same (mk b g H) (mk b g H') := fun a o h => by
  unfold mk at h ⊢
  split at h
  · cases h
  · rename_i z
    rw [if_neg z]
    exact x a o h (fun y => z (.inl y)) (fun y => z (.inr y))
theorem mk_new {H : Hp} {b g c p : Addr} {n : Nat} {o : HO} (B : Box H b g c n) (np : H p = none) : mk b g (upd H p o) p = some o := by
  obtain ⟨gs, cs, cur, m, B, _⟩ := B
  unfold mk
  rw [if_neg (fun y => y.elim (fun e => by rw [e, B.hb] at np; cases np) (fun e => by rw [e, B.hg] at np; cases np)), upd_same]
theorem mk_tup {H : Hp} {b g c p : Addr} {n : Nat} {xs : List V} (B : Box H b g c n) (h : H p = some (.tup xs)) : mk b g H p = some (.tup xs) := by
  obtain ⟨gs, cs, cur, m, B, _⟩ := B
  unfold mk
  rw [if_neg (fun y => y.elim (fun e => by rw [e, B.hb] at h; cases h) (fun e => by rw [e, B.hg] at h; cases h)), h]
theorem But.tup {H H' : Hp} {b g c p : Addr} {n : Nat} {xs : List V} (x : But b g H H') (B : Box H b g c n) (h : H p = some (.tup xs)) : H' p = some (.tup xs) := by
  obtain ⟨gs, cs, cur, m, B, _⟩ := B
  exact x p _ h (fun e => by rw [e, B.hb] at h; cases h) (fun e => by rw [e, B.hg] at h; cases h)
def spLRatio : Sp := fun vs H Q _ => ∃ t m : Int, vs = [.int t, .int m] ∧ m ≠ 0 ∧ m.natAbs < 2 ^ 8000 ∧ ∀ p H', Same H H' → H' p = some (.tup [.int (nt t m), .int (nb t m)]) → Q (.ref p) H'
section
variable {P : Program} {w : World} {K : PySem.W.Frag} {mg : Str → Option Value} {base : Heap}
theorem ok_box (D : Df K mg "_law_box" s_l_box ["_law_script"]) : Kn P w K mg base CX0 "_law_box" 1 ["_law_script"] (spBox K) := by
  obtain ⟨f, fd, F, hm, hb⟩ := D
  refine ⟨f, fd, F.ok sc_l_box (fun vs H Q E h => ?_) (fun cdv A outer s H vs Q E hr h => ?_), hm, F.kp, hb⟩
  · obtain ⟨a, ns, rfl, _⟩ := h
    rfl
  · obtain ⟨a, ns, rfl, hS, hl, q⟩ := h
    refine ⟨_, (pss_cons (ps_setLc (i := 1) (own := [("_law_cell", 2)]) rfl sc_l_box.nd rfl rfl (sw_true rfl rfl rfl (by decide +kernel)) (pi_list (pv 0)) (blkOk_by (N := ["_law_script", "_law_great", "_law_cell"]) (sc := defScope s_l_box) (by decide +kernel)) (fun _ _ _ _ _ => (pg_name (i := 2) sc_l_box.nd rfl (Or.inl rfl))) (fun _ _ _ _ _ => (pts_one (pt_cmpR op_ge (pv 2) (pe_op op_powB pe_int pe_int) (nomark _)))) (fun _ _ _ _ _ => (pv 2)))
      (pss_one (ps_ret (pe_lst (pa_cons (pv 1) (pa_cons pe_int (pa_cons (pe_lc (own := [("_law_cell", 2)]) rfl sc_l_box.nd (pi_list (pv 0)) (blkOk_by (N := ["_law_script", "_law_great", "_law_cell"]) (sc := defScope s_l_box) (by decide +kernel)) (fun _ _ _ _ _ => (pg_name (i := 2) sc_l_box.nd rfl (Or.inl rfl))) (fun _ _ _ _ _ => (pts_one (pt_cmpR op_lt (pv 2) (pe_op op_powB pe_int pe_int) (nomark _)))) (fun _ _ _ _ _ => (pv 2))) (pa_cons pe_int pa_nil)))))))), ?_⟩
    refine ⟨_, rfl, a, rfl, ⟨_, hS⟩, fun D hD => ?_⟩
    refine lc_list (K := K) (a := a) (xs := ns.map V.int) (fun i H' => Same H H' ∧ ∃ acc : List Int, H' D = some (.lst (acc.map V.int)) ∧ acc.length ≤ i) ⟨same_new hD _, [], upd_same, Nat.le_refl _⟩ (fun i H' _ h => h.1.seq hS) ?_ ?_
    · rintro i x H1 hx ⟨s1, acc, hacc, hlen⟩
      obtain ⟨z, hz, rfl⟩ := map_get hx
      have hi := get_lt hz
      refine ⟨rfl, _, rfl, _, _, rfl, rfl, ⟨by decide, by decide +kernel⟩, _, _, rfl, rfl, _, rfl, ?_⟩
      refine ite2 (fun _ => ?_) (fun _ => ?_)
      · refine ⟨_, rfl, _, hacc, (by rw [List.length_map]; exact small1000 (by omega)), same_upd s1 hD, acc ++ [z], (by rw [upd_same, List.map_append]; rfl), by rw [List.length_append]; exact Nat.succ_le_succ hlen⟩
      · exact ⟨s1, acc, hacc, by omega⟩
    · rintro H1 ⟨s1, gs, hg, hgl⟩
      rw [List.length_map] at hgl
      refine ⟨_, rfl, _, rfl, a, rfl, ⟨_, s1.seq hS⟩, fun D2 hD2 => ?_⟩
      refine lc_list (K := K) (a := a) (xs := ns.map V.int) (fun i H' => Same H1 H' ∧ ∃ acc : List Int, H' D2 = some (.lst (acc.map V.int)) ∧ acc.length ≤ i) ⟨same_new hD2 _, [], upd_same, Nat.le_refl _⟩ (fun i H' _ h => (s1.trans h.1).seq hS) ?_ ?_
      · rintro i x H2 hx ⟨s2, acc, hacc, hlen⟩
        obtain ⟨z, hz, rfl⟩ := map_get hx
        have hi := get_lt hz
        refine ⟨rfl, _, rfl, _, _, rfl, rfl, ⟨by decide, by decide +kernel⟩, _, _, rfl, rfl, _, rfl, ?_⟩
        refine ite2 (fun _ => ?_) (fun _ => ?_)
        · refine ⟨_, rfl, _, hacc, (by rw [List.length_map]; exact small1000 (by omega)), same_upd s2 hD2, acc ++ [z], (by rw [upd_same, List.map_append]; rfl), by rw [List.length_append]; exact Nat.succ_le_succ hlen⟩
        · exact ⟨s2, acc, hacc, by omega⟩
      · rintro H2 ⟨s2, cs, hc, hcl⟩
        rw [List.length_map] at hcl
        refine ⟨(by show 4 ≤ sizeLine; decide), fun p np => ?_⟩
        have hg2 := s2 _ _ hg
        have n1 : p ≠ D := (ne_of_none hg2 np).symm
        have n2 : p ≠ D2 := (ne_of_none hc np).symm
        have n3 : D ≠ D2 := ne_of_none hg hD2
        refine q p D D2 _ ⟨gs, cs, 0, 0, ⟨upd_same, by rw [upd_ne n1.symm]; exact hg2, by rw [upd_ne n2.symm]; exact hc, n1, n2, n3, by decide, by omega, by omega⟩, by decide⟩ ((s1.trans s2).trans (same_new np _)) ((s1.trans s2).free np) hD (s1.free hD2)
theorem ok_lratio (GS : Kn P w K mg base CX0 "_law_shared" 1 ["_law_one", "_law_other"] spShared) (D : Df K mg "_law_ratio" s_l_ratio ["_law_top", "_law_bottom"]) : Kn P w K mg base CX0 "_law_ratio" 2 ["_law_top", "_law_bottom"] spLRatio := by
  obtain ⟨f, fd, F, hm, hb⟩ := D
  obtain ⟨f_l_shared, fd_l_shared, G_l_shared, m_l_shared, k_l_shared, b_l_shared⟩ := GS
  refine ⟨f, fd, F.ok sc_l_ratio (fun vs H Q E h => ?_) (fun cdv A outer s H vs Q E hr h => ?_), hm, F.kp, hb⟩
  · obtain ⟨t, m, rfl, _⟩ := h
    rfl
  · obtain ⟨t, m, rfl, h0, hB, q⟩ := h
    refine ⟨_, (C8.pss_cut (ps_if (pt_cmpR op_lt (pv 1) pe_int (nomark _)) (pss_one (ps_par (i := 0) (j := 1) (by rfl) sc_l_ratio.nd rfl rfl (by decide) rfl rfl (pa_cons (pe_op op_sub pe_int (pv 0)) (pa_cons (pe_op op_sub pe_int (pv 1)) pa_nil)) (by rfl))) pss_nil)
      (pss_cons (ps_set (i := 2) sc_l_ratio.nd rfl (Or.inl rfl) (pe_call G_l_shared (hr.mono (by omega)) rfl m_l_shared k_l_shared b_l_shared .nil pass0 (pa_cons (pv 0) (pa_cons (pv 1) pa_nil))))
      (pss_one (ps_ret (pe_tup (pa_cons (pe_op op_fdivW (pv 0) (pv 2)) (pa_cons (pe_op op_fdivW (pv 1) (pv 2)) pa_nil))))))), ?_⟩
    refine ⟨fun σ H' => H' = H ∧ σ = [some (.int (if m < 0 then -t else t)), some (.int (m.natAbs : Int)), none], ?_, ?_⟩
    · refine ⟨_, rfl, _, _, rfl, rfl, _, rfl, ?_⟩
      refine ite2 (fun c => ?_) (fun c => ?_)
      · have c3 : m < 0 := of_decide_eq_true c
        refine ⟨_, rfl, _, _, rfl, rfl, _, rfl, _, _, rfl, rfl, _, _, rfl, rfl, ?_⟩
        rw [if_pos c3, show -t = 0 - t by omega, show (m.natAbs : Int) = 0 - m by omega]
        rfl
      · have c3 : ¬ m < 0 := of_decide_eq_false (Bool.eq_false_iff.mpr c)
        refine ⟨rfl, ?_⟩
        rw [if_neg c3, show (m.natAbs : Int) = m by omega]
        rfl
    · rintro σ H' ⟨rfl, rfl⟩
      have e : (Int.gcd (if m < 0 then -t else t) (m.natAbs : Int) : Int) = (Int.gcd t m : Int) := by
        unfold Int.gcd
        split <;> simp
      refine ⟨_, rfl, _, rfl, _, _, rfl, ?_⟩
      rw [e]
      have gp := gcd_pos (t := t) h0
      have gB : (Int.gcd t m : Int).natAbs < 2 ^ 8000 := Nat.lt_of_le_of_lt (gcd_le h0) hB
      refine ⟨_, rfl, _, rfl, _, _, rfl, rfl, wide_div gp gB (by decide) (by decide), _, rfl, _, rfl, _, _, rfl, rfl, wide_div gp gB (by decide) (by decide), (by show 2 ≤ sizeLine; decide), fun p np => ?_⟩
      exact q p _ (same_new np _) upd_same
end

/-! ### ratios in lowest terms -/
structure Red (z : Int × Int) : Prop where
  pos : 0 < z.2
  co : Int.gcd z.1 z.2 = 1
def nrm (t m : Int) : Int × Int := (nt t m, nb t m)
theorem gcd_abs (t m : Int) : Int.gcd (if m < 0 then -t else t) (m.natAbs : Int) = Int.gcd t m := by
  unfold Int.gcd
  split <;> simp
theorem nrm_red {t m : Int} (h : m ≠ 0) : Red (nrm t m) := by
  have gp := gcd_pos (t := t) h
  have e := gcd_abs t m
  refine ⟨?_, ?_⟩
  · show 0 < (m.natAbs : Int) / (Int.gcd t m : Int)
    have d : (Int.gcd t m : Int) ∣ (m.natAbs : Int) := Int.natAbs_dvd_natAbs.mp (by simp [Int.gcd]; exact Nat.gcd_dvd_right _ _)
    have c := Int.ediv_mul_cancel d
    have z : (m.natAbs : Int) / (Int.gcd t m : Int) ≠ 0 := fun q => by
      rw [q] at c
      omega
    have z2 : 0 ≤ (m.natAbs : Int) / (Int.gcd t m : Int) := Int.ediv_nonneg (by omega) (by omega)
    omega
  · show Int.gcd ((if m < 0 then -t else t) / (Int.gcd t m : Int)) ((m.natAbs : Int) / (Int.gcd t m : Int)) = 1
    rw [← e]
    exact Int.gcd_ediv_gcd_ediv_gcd (by rw [e]; omega)
theorem nrm_cross {t m : Int} (h : m ≠ 0) : (nrm t m).1 * m = t * (nrm t m).2 := by
  have d1 : (Int.gcd t m : Int) ∣ t := Int.gcd_dvd_left ..
  have d2 : (Int.gcd t m : Int) ∣ m := Int.gcd_dvd_right ..
  obtain ⟨a, ha⟩ := d1
  obtain ⟨b, hb⟩ := d2
  have gp := gcd_pos (t := t) h
  have e1 : (nrm t m).1 = (if m < 0 then -a else a) := by
    show (if m < 0 then -t else t) / (Int.gcd t m : Int) = _
    generalize (Int.gcd t m : Int) = g at *
    subst ha
    split
    · rw [show -(g * a) = g * (-a) by grind, Int.mul_ediv_cancel_left _ (by omega)]
    · rw [Int.mul_ediv_cancel_left _ (by omega)]
  have e2 : (nrm t m).2 = (if m < 0 then -b else b) := by
    show (m.natAbs : Int) / (Int.gcd t m : Int) = _
    have z : (m.natAbs : Int) = if m < 0 then -m else m := by split <;> omega
    rw [z]
    clear z
    generalize (Int.gcd t m : Int) = g at *
    clear ha e1
    split
    · rw [hb, show -(g * b) = g * (-b) by grind, Int.mul_ediv_cancel_left _ (by omega)]
    · rw [hb, Int.mul_ediv_cancel_left _ (by omega)]
  rw [e1, e2]
  generalize (Int.gcd t m : Int) = g at *
  split <;> (rename_i w; clear e1 e2 w h gp; subst ha; subst hb; grind)
theorem red_uniq {a b : Int × Int} (ha : Red a) (hb : Red b) (e : a.1 * b.2 = b.1 * a.2) : a = b := by
  have pa := ha.pos
  have pb := hb.pos
  have e' : a.1.natAbs * b.2.natAbs = b.1.natAbs * a.2.natAbs := by rw [← Int.natAbs_mul, ← Int.natAbs_mul, e]
  have c1 : Nat.Coprime a.2.natAbs a.1.natAbs := Nat.Coprime.symm ha.co
  have c2 : Nat.Coprime b.2.natAbs b.1.natAbs := Nat.Coprime.symm hb.co
  have d1 : a.2.natAbs ∣ b.2.natAbs := c1.dvd_of_dvd_mul_left ⟨b.1.natAbs, by rw [e', Nat.mul_comm]⟩
  have d2 : b.2.natAbs ∣ a.2.natAbs := c2.dvd_of_dvd_mul_left ⟨a.1.natAbs, by rw [← e', Nat.mul_comm]⟩
  have e2 : a.2 = b.2 := by
    have z := Nat.dvd_antisymm d1 d2
    omega
  have e1 : a.1 = b.1 := Int.eq_of_mul_eq_mul_right (a := b.2) (by omega) (by rw [e, e2])
  exact Prod.ext e1 e2
theorem nrm_eq {t m t' m' : Int} (h : m ≠ 0) (h' : m' ≠ 0) (e : t * m' = t' * m) : nrm t m = nrm t' m' := by
  have x := nrm_cross (t := t) h
  have y := nrm_cross (t := t') h'
  refine red_uniq (nrm_red h) (nrm_red h') ?_
  refine Int.eq_of_mul_eq_mul_right (a := m * m') (Int.mul_ne_zero h h') ?_
  generalize (nrm t m).1 = a at *
  generalize (nrm t m).2 = b at *
  generalize (nrm t' m').1 = c at *
  generalize (nrm t' m').2 = d at *
  clear h h'
  grind
theorem nrm_of {z : Int × Int} (h : Red z) : nrm z.1 z.2 = z := by
  have p := h.pos
  have x := nrm_cross (t := z.1) (m := z.2) (by omega)
  exact red_uniq (nrm_red (by omega)) h x
theorem nrm_is {t m : Int} {z : Int × Int} (h : m ≠ 0) (hz : Red z) (e : t * z.2 = z.1 * m) : nrm t m = z := by
  have p := hz.pos
  rw [← nrm_of hz]
  exact nrm_eq h (by omega) e
theorem nt_le (t m : Int) : (nrm t m).1.natAbs ≤ t.natAbs := by
  show ((if m < 0 then -t else t) / (Int.gcd t m : Int)).natAbs ≤ t.natAbs
  refine Nat.le_trans (Int.natAbs_ediv_le_natAbs _ _) ?_
  split <;> omega
theorem nb_le (t m : Int) : (nrm t m).2.natAbs ≤ m.natAbs := by
  show ((m.natAbs : Int) / (Int.gcd t m : Int)).natAbs ≤ m.natAbs
  exact Nat.le_trans (Int.natAbs_ediv_le_natAbs _ _) (by omega)
/-- both parts are below 2 ^ k -/
def Sz (k : Nat) (z : Int × Int) : Prop := z.1.natAbs < 2 ^ k ∧ z.2.natAbs < 2 ^ k
theorem Sz.mono {j k : Nat} {z : Int × Int} (h : Sz j z) (l : j ≤ k) : Sz k z :=
  ⟨Nat.lt_of_lt_of_le h.1 (Nat.pow_le_pow_right (by decide) l), Nat.lt_of_lt_of_le h.2 (Nat.pow_le_pow_right (by decide) l)⟩
theorem sz_nrm {t m : Int} {k : Nat} (h1 : t.natAbs < 2 ^ k) (h2 : m.natAbs < 2 ^ k) : Sz k (nrm t m) := ⟨Nat.lt_of_le_of_lt (nt_le t m) h1, Nat.lt_of_le_of_lt (nb_le t m) h2⟩
theorem lt_mul {x y : Int} {j k : Nat} (h1 : x.natAbs < 2 ^ j) (h2 : y.natAbs < 2 ^ k) : (x * y).natAbs < 2 ^ (j + k) := wide_lt h1 h2
theorem lt_add {x y : Int} {k : Nat} (h1 : x.natAbs < 2 ^ k) (h2 : y.natAbs < 2 ^ k) : (x + y).natAbs < 2 ^ (k + 1) := by
  have := Int.natAbs_add_le x y
  rw [Nat.pow_succ]
  omega
def addz (a b : Int × Int) : Int × Int := nrm (a.1 * b.2 + b.1 * a.2) (a.2 * b.2)
def mulz (a b : Int × Int) : Int × Int := nrm (a.1 * b.1) (a.2 * b.2)
def negz (a : Int × Int) : Int × Int := (-a.1, a.2)
def divz (a b : Int × Int) : Int × Int := nrm (a.1 * b.2) (a.2 * b.1)
theorem mne {a b : Int × Int} (ha : Red a) (hb : Red b) : a.2 * b.2 ≠ 0 := by
  have := ha.pos
  have := hb.pos
  exact Int.mul_ne_zero (by omega) (by omega)
theorem add_red {a b : Int × Int} (ha : Red a) (hb : Red b) : Red (addz a b) := nrm_red (mne ha hb)
theorem mul_red {a b : Int × Int} (ha : Red a) (hb : Red b) : Red (mulz a b) := nrm_red (mne ha hb)
theorem neg_red {a : Int × Int} (ha : Red a) : Red (negz a) := ⟨ha.pos, by show Int.gcd (-a.1) a.2 = 1; rw [Int.neg_gcd]; exact ha.co⟩
theorem add_sz {a b : Int × Int} {j k : Nat} (ha : Sz j a) (hb : Sz k b) : Sz (j + k + 1) (addz a b) := by
  refine sz_nrm (lt_add (lt_mul ha.1 hb.2) ?_) (Nat.lt_of_lt_of_le (lt_mul ha.2 hb.2) (Nat.pow_le_pow_right (by decide) (by omega)))
  rw [Int.mul_comm]
  exact lt_mul ha.2 hb.1
theorem mul_sz {a b : Int × Int} {j k : Nat} (ha : Sz j a) (hb : Sz k b) : Sz (j + k) (mulz a b) := sz_nrm (lt_mul ha.1 hb.1) (lt_mul ha.2 hb.2)
theorem neg_sz {a : Int × Int} {j : Nat} (ha : Sz j a) : Sz j (negz a) := ⟨by show (-a.1).natAbs < _; rw [Int.natAbs_neg]; exact ha.1, ha.2⟩
theorem add_cross {a b : Int × Int} (ha : Red a) (hb : Red b) : (addz a b).1 * (a.2 * b.2) = (a.1 * b.2 + b.1 * a.2) * (addz a b).2 := nrm_cross (mne ha hb)
theorem mul_cross {a b : Int × Int} (ha : Red a) (hb : Red b) : (mulz a b).1 * (a.2 * b.2) = (a.1 * b.1) * (mulz a b).2 := nrm_cross (mne ha hb)
theorem cancel {x y k : Int} (h : k ≠ 0) (e : x * k = y * k) : x = y := Int.eq_of_mul_eq_mul_right h e
theorem add_comm' (a b : Int × Int) : addz a b = addz b a := by
  unfold addz
  rw [Int.add_comm, Int.mul_comm a.2]
theorem mul_comm' (a b : Int × Int) : mulz a b = mulz b a := by
  unfold mulz
  rw [Int.mul_comm a.1, Int.mul_comm a.2]
theorem add_assoc' {a b c : Int × Int} (ha : Red a) (hb : Red b) (hc : Red c) : addz (addz a b) c = addz a (addz b c) := by
  have x := add_cross ha hb
  have y := add_cross hb hc
  have na := mne ha hb
  have nc := mne hb hc
  have rab := add_red ha hb
  have rbc := add_red hb hc
  refine nrm_eq (mne rab hc) (mne ha rbc) ?_
  refine cancel (k := (a.2 * b.2) * (b.2 * c.2)) (Int.mul_ne_zero na nc) ?_
  generalize addz a b = u at *
  generalize addz b c = v at *
  clear na nc rab rbc ha hb hc
  grind
theorem mul_assoc' {a b c : Int × Int} (ha : Red a) (hb : Red b) (hc : Red c) : mulz (mulz a b) c = mulz a (mulz b c) := by
  have x := mul_cross ha hb
  have y := mul_cross hb hc
  have na := mne ha hb
  have nc := mne hb hc
  have rab := mul_red ha hb
  have rbc := mul_red hb hc
  refine nrm_eq (mne rab hc) (mne ha rbc) ?_
  refine cancel (k := (a.2 * b.2) * (b.2 * c.2)) (Int.mul_ne_zero na nc) ?_
  generalize mulz a b = u at *
  generalize mulz b c = v at *
  clear na nc rab rbc ha hb hc
  grind
theorem mul_add' {a b c : Int × Int} (ha : Red a) (hb : Red b) (hc : Red c) : mulz (addz a b) c = addz (mulz a c) (mulz b c) := by
  have x := add_cross ha hb
  have y := mul_cross ha hc
  have z := mul_cross hb hc
  have n1 := mne ha hb
  have n2 := mne ha hc
  have n3 := mne hb hc
  refine nrm_eq (mne (add_red ha hb) hc) (mne (mul_red ha hc) (mul_red hb hc)) ?_
  refine cancel (k := (a.2 * b.2) * ((a.2 * c.2) * (b.2 * c.2))) (Int.mul_ne_zero n1 (Int.mul_ne_zero n2 n3)) ?_
  generalize addz a b = u at *
  generalize mulz a c = v at *
  generalize mulz b c = w at *
  clear n1 n2 n3 ha hb hc
  grind
theorem add_sub' {a b : Int × Int} (ha : Red a) (hb : Red b) : addz (addz a b) (negz b) = a := by
  have x := add_cross ha hb
  have n1 := mne ha hb
  refine nrm_is (mne (add_red ha hb) (neg_red hb)) ha ?_
  refine cancel (k := a.2 * b.2) n1 ?_
  show ((addz a b).1 * b.2 + (-b.1) * (addz a b).2) * a.2 * (a.2 * b.2) = a.1 * ((addz a b).2 * b.2) * (a.2 * b.2)
  generalize addz a b = u at *
  clear n1 ha hb
  grind
theorem mul_div' {a b : Int × Int} (ha : Red a) (hb : Red b) (h0 : b.1 ≠ 0) : divz (mulz a b) b = a := by
  have x := mul_cross ha hb
  have n1 := mne ha hb
  have r := mul_red ha hb
  have p := r.pos
  refine nrm_is (Int.mul_ne_zero (by omega) h0) ha ?_
  refine cancel (k := a.2 * b.2) n1 ?_
  generalize mulz a b = u at *
  clear n1 ha hb r p h0
  grind
/-- the sign of a difference -/
def sgn (x : Int) : Int := if x < 0 then -1 else if x > 0 then 1 else 0
theorem sgn_nrm {t m : Int} (h : 0 < m) : sgn (nrm t m).1 = sgn t := by
  have x := nrm_cross (t := t) (m := m) (by omega)
  have r := (nrm_red (t := t) (m := m) (by omega)).pos
  generalize (nrm t m).1 = a at *
  generalize (nrm t m).2 = b at *
  unfold sgn
  rcases Int.lt_trichotomy t 0 with h1 | h1 | h1
  · have z : a < 0 := by
      rcases Int.lt_or_le a 0 with q | q
      · exact q
      · have := Int.mul_nonneg q (Int.le_of_lt h)
        have := Int.mul_neg_of_neg_of_pos h1 r
        omega
    rw [if_pos z, if_pos h1]
  · subst h1
    rw [Int.zero_mul] at x
    have z : a = 0 := by
      rcases Int.mul_eq_zero.mp x with q | q
      · exact q
      · omega
    rw [z]
  · have z : 0 < a := by
      rcases Int.lt_or_le 0 a with q | q
      · exact q
      · have := Int.mul_pos h1 r
        have := Int.mul_nonpos_of_nonpos_of_nonneg q (Int.le_of_lt h)
        omega
    rw [if_neg (by omega), if_pos z, if_neg (by omega), if_pos h1]
def cmpz (a b : Int × Int) : Int := sgn (a.1 * b.2 - b.1 * a.2)
theorem cmp_sub {a b : Int × Int} (ha : Red a) (hb : Red b) : sgn (addz a (negz b)).1 = cmpz a b := by
  have p1 := ha.pos
  have p2 := hb.pos
  unfold cmpz
  have e : a.1 * b.2 - b.1 * a.2 = a.1 * (negz b).2 + (negz b).1 * a.2 := by show a.1 * b.2 - b.1 * a.2 = a.1 * b.2 + (-b.1) * a.2; grind
  rw [e]
  exact sgn_nrm (m := a.2 * (negz b).2) (Int.mul_pos p1 p2)
theorem sgn_neg (x : Int) : sgn x = 0 - sgn (-x) := by
  unfold sgn
  split <;> split <;> (try split) <;> (try split) <;> omega
theorem cmp_neg (a b : Int × Int) : cmpz a b = 0 - cmpz b a := by
  unfold cmpz
  rw [sgn_neg, show -(a.1 * b.2 - b.1 * a.2) = b.1 * a.2 - a.1 * b.2 by grind]
theorem cmp_same (a : Int × Int) : cmpz a a = 0 := by
  unfold cmpz
  rw [Int.sub_self]
  rfl
theorem cmp_up {a : Int × Int} {s : Int} (ha : Red a) (hs : Red (1, s)) : cmpz a (addz a (1, s)) = -1 := by
  have x := add_cross ha hs
  have r := (add_red ha hs).pos
  have p1 := ha.pos
  have p2 : 0 < s := hs.pos
  unfold cmpz
  have x' : (addz a (1, s)).1 * (a.2 * s) = (a.1 * s + 1 * a.2) * (addz a (1, s)).2 := x
  generalize addz a (1, s) = u at *
  have key : (a.1 * u.2 - u.1 * a.2) * s = - (a.2 * u.2) := by
    refine cancel (k := 1) (by decide) ?_
    clear x hs ha
    grind
  have neg : a.1 * u.2 - u.1 * a.2 < 0 := by
    rcases Int.lt_or_le (a.1 * u.2 - u.1 * a.2) 0 with q | q
    · exact q
    · have z1 := Int.mul_nonneg q (Int.le_of_lt p2)
      have z2 := Int.mul_pos p1 r
      omega
  unfold sgn
  rw [if_pos neg]


/-- a number: an int or a ratio -/
def Nv (K : PySem.W.Frag) (H : Hp) (v : V) (z : Int × Int) : Prop := ∃ d, Dp K H v d ∧ numOf d = some z
theorem Nv.same {K : PySem.W.Frag} {H H' : Hp} {v : V} {z : Int × Int} (h : Nv K H v z) (s : Same H H') : Nv K H' v z := by
  obtain ⟨d, hd, e⟩ := h
  exact ⟨d, dp_same s _ _ hd, e⟩
theorem Nv.int {K : PySem.W.Frag} {H : Hp} (i : Int) : Nv K H (.int i) (i, 1) := ⟨.int i, .int i, rfl⟩
theorem numOf_rat {z : Int × Int} (h : Red z) : numOf (rat z.1 z.2) = some z := by
  show (if 1 ≤ z.2 ∧ Int.gcd z.1 z.2 = 1 then some (z.1, z.2) else none) = some z
  have := h.pos
  rw [if_pos ⟨by omega, h.co⟩]
theorem Nv.rat {K : PySem.W.Frag} {H : Hp} {p : Addr} {z : Int × Int} (h : H p = some (.tup [.int z.1, .int z.2])) (r : Red z) : Nv K H (.ref p) z := ⟨_, dp_rat h, numOf_rat r⟩
theorem numOf_red {d : PyData} {z : Int × Int} (h : numOf d = some z) : Red z := by
  have key : ∀ d', ratOf d' = some z → Red z := fun d' h' => by
    have e := ratOf_is h'
    rw [e] at h'
    have h2 : (if 1 ≤ z.2 ∧ Int.gcd z.1 z.2 = 1 then some (z.1, z.2) else none) = some z := h'
    split at h2
    · rename_i w
      exact ⟨by omega, w.2⟩
    · cases h2
  cases d with
  | int i =>
    have e : (i, (1 : Int)) = z := Option.some.inj h
    rw [← e]
    exact ⟨by show (0 : Int) < 1; decide, by show Int.gcd i 1 = 1; exact Int.gcd_one_right i⟩
  | none => exact key .none h
  | bool b => exact key (.bool b) h
  | str b => exact key (.str b) h
  | list b => exact key (.list b) h
  | tuple b => exact key (.tuple b) h
  | dict b => exact key (.dict b) h
theorem Nv.red {K : PySem.W.Frag} {H : Hp} {v : V} {z : Int × Int} (h : Nv K H v z) : Red z := by
  obtain ⟨d, _, e⟩ := h
  exact numOf_red e
theorem dp_rat_inv {K : PySem.W.Frag} {H : Hp} {v : V} {t m : Int} (h : Dp K H v (rat t m)) : ∃ a, v = .ref a ∧ SqT K H a [.int t, .int m] := by
  cases h with
  | tup hs ha =>
    cases ha with
    | cons h1 h2 =>
      cases h2 with
      | cons h2 h3 =>
        cases h3
        cases h1
        cases h2
        exact ⟨_, rfl, hs⟩
def spBin (K : PySem.W.Frag) (f : Int × Int → Int × Int → Int × Int) : Sp := fun vs H Q _ => ∃ (x y : V) (a b : Int × Int) (j k : Nat), vs = [x, y] ∧ Nv K H x a ∧ Nv K H y b ∧ Sz j a ∧ Sz k b ∧ j + k + 1 ≤ 7000 ∧
  ∀ p H', Same H H' → H' p = some (.tup [.int (f a b).1, .int (f a b).2]) → Q (.ref p) H'
def spDiv (K : PySem.W.Frag) (C : Addr) : Sp := fun vs H Q E => ∃ (x y : V) (a b : Int × Int) (j k : Nat), vs = [x, y] ∧ Nv K H x a ∧ Nv K H y b ∧ Sz j a ∧ Sz k b ∧ j + k + 1 ≤ 7000 ∧
  (b.1 ≠ 0 → ∀ p H', Same H H' → H' p = some (.tup [.int (divz a b).1, .int (divz a b).2]) → Q (.ref p) H') ∧ (b.1 = 0 → ∀ H', Same H H' → E (.ref C) none H')
def spSub (K : PySem.W.Frag) : Sp := fun vs H Q _ => ∃ (x y : V) (a b : Int × Int) (j k : Nat), vs = [x, y] ∧ Nv K H x a ∧ Nv K H y b ∧ Sz j a ∧ Sz k b ∧ j + k + 2 ≤ 7000 ∧
  ∀ p H', Same H H' → H' p = some (.tup [.int (addz a (negz b)).1, .int (addz a (negz b)).2]) → Q (.ref p) H'
def spCmp (K : PySem.W.Frag) : Sp := fun vs H Q _ => ∃ (x y : V) (a b : Int × Int) (j k : Nat), vs = [x, y] ∧ Nv K H x a ∧ Nv K H y b ∧ Sz j a ∧ Sz k b ∧ j + k + 2 ≤ 7000 ∧ ∀ H', Same H H' → Q (.int (cmpz a b)) H'
theorem p2pos (k : Nat) (h : 0 < k) {x : Int} (hx : x.natAbs < 2 ^ k) : x.natAbs < 2 ^ k := hx
theorem Sz.pos {k : Nat} {z : Int × Int} (h : Sz k z) (r : Red z) : 0 < k := by
  have p := r.pos
  have q := h.2
  cases k with
  | zero => simp at q; omega
  | succ n => exact Nat.succ_pos _
theorem mulW_of {x y : Int} {j k : Nat} (hx : x.natAbs < 2 ^ j) (hy : y.natAbs < 2 ^ k) (j0 : 0 < j) (k0 : 0 < k) (l : j + k + 1 ≤ 7000) : CMulW x y := wide_mul hx hy j0 k0 (by omega)
theorem to8000 {x : Int} {k : Nat} (h : x.natAbs < 2 ^ k) (l : k ≤ 7999) : x.natAbs < 2 ^ 8000 := Nat.lt_of_lt_of_le h (Nat.pow_le_pow_right (by decide) (by omega))

/-! ### digits -/
open NumText in
theorem dv_app (a b : List Nat) : digitsVal (a ++ b) = digitsVal a * 10 ^ b.length + digitsVal b := by
  have key : ∀ (b : List Nat) (x : Nat), b.foldl (fun acc c => acc * 10 + (c - 48)) x = x * 10 ^ b.length + b.foldl (fun acc c => acc * 10 + (c - 48)) 0 := by
    intro b
    induction b with
    | nil => intro x; simp
    | cons c r ih =>
      intro x
      rw [List.foldl_cons, List.foldl_cons, ih, ih (0 * 10 + (c - 48)), List.length_cons, Nat.pow_succ]
      generalize r.foldl (fun acc c => acc * 10 + (c - 48)) 0 = y
      generalize 10 ^ r.length = z
      grind
  unfold digitsVal
  rw [List.foldl_append, key]
theorem dv_one (c : Nat) : NumText.digitsVal [c] = c - 48 := by
  unfold NumText.digitsVal
  simp
theorem dv_lt : ∀ l : List Nat, NumText.AllDigits l → NumText.digitsVal l < 10 ^ l.length := by
  intro l
  induction l with
  | nil => intro _; decide
  | cons c r ih =>
    intro h
    have e := dv_app [c] r
    rw [List.singleton_append] at e
    rw [e, dv_one, List.length_cons, Nat.pow_succ]
    have h1 := h.head
    have h2 := ih h.tail
    generalize 10 ^ r.length = z at *
    have h3 : (c - 48) * z ≤ 9 * z := Nat.mul_le_mul_right z (by omega)
    omega
theorem ad_app {a b : List Nat} : NumText.AllDigits (a ++ b) ↔ NumText.AllDigits a ∧ NumText.AllDigits b := by
  constructor
  · intro h
    exact ⟨fun c hc => h c (List.mem_append_left _ hc), fun c hc => h c (List.mem_append_right _ hc)⟩
  · rintro ⟨h1, h2⟩ c hc
    rcases List.mem_append.mp hc with h | h
    · exact h1 c h
    · exact h2 c h
theorem ad_take {l : List Nat} (n : Nat) (h : NumText.AllDigits l) : NumText.AllDigits (l.take n) := fun c hc => h c (List.mem_of_mem_take hc)
theorem ad_drop {l : List Nat} (n : Nat) (h : NumText.AllDigits l) : NumText.AllDigits (l.drop n) := fun c hc => h c (List.mem_of_mem_drop hc)
/-- k digits of m, zeros ahead -/
def padL : Nat → Nat → List Nat
  | 0, _ => []
  | k + 1, m => padL k (m / 10) ++ [48 + m % 10]
theorem padL_len : ∀ k m : Nat, (padL k m).length = k
  | 0, _ => rfl
  | k + 1, m => by
    show (padL k (m / 10) ++ [48 + m % 10]).length = k + 1
    rw [List.length_append, padL_len k]
    rfl
theorem padL_digits : ∀ k m : Nat, NumText.AllDigits (padL k m)
  | 0, _ => fun c hc => by cases hc
  | k + 1, m => ad_app.mpr ⟨padL_digits k _, fun c hc => by
      rw [List.mem_singleton.mp hc]
      have := Nat.mod_lt m (show 0 < 10 by decide)
      omega⟩
theorem numL_split : ∀ (k n : Nat), 10 ^ k ≤ n → TL.numL n = TL.numL (n / 10 ^ k) ++ padL k (n % 10 ^ k)
  | 0, n, _ => by
    show TL.numL n = TL.numL (n / 1) ++ []
    rw [Nat.div_one, List.append_nil]
  | k + 1, n, h => by
    have p : 0 < 10 ^ k := Nat.pow_pos (by decide)
    have e : (10 : Nat) ^ (k + 1) = 10 ^ k * 10 := Nat.pow_succ ..
    have h10 : 10 ≤ n := by
      have : 1 * 10 ≤ 10 ^ k * 10 := Nat.mul_le_mul_right _ p
      omega
    have hd : 10 ^ k ≤ n / 10 := by
      rw [Nat.le_div_iff_mul_le (by decide)]
      omega
    rw [TL.numL_step h10, numL_split k (n / 10) hd]
    show _ = _ ++ (padL k (n % 10 ^ (k + 1) / 10) ++ [48 + n % 10 ^ (k + 1) % 10])
    have e1 : n / 10 / 10 ^ k = n / 10 ^ (k + 1) := by rw [Nat.div_div_eq_div_mul, e, Nat.mul_comm]
    have e2 : n % 10 ^ (k + 1) / 10 = n / 10 % 10 ^ k := by
      rw [e, Nat.mul_comm (10 ^ k) 10, Nat.mod_mul_right_div_self]
    have e3 : n % 10 ^ (k + 1) % 10 = n % 10 := by
      rw [e, Nat.mod_mul_left_mod]
    rw [e1, e2, e3, List.append_assoc]
theorem padL_zero : ∀ k : Nat, padL k 0 = List.replicate k 48
  | 0 => rfl
  | k + 1 => by
    show padL k (0 / 10) ++ [48 + 0 % 10] = _
    rw [Nat.zero_div, padL_zero k, List.replicate_succ']
theorem padL_num : ∀ (k m : Nat), m < 10 ^ k → 0 < k → padL k m = List.replicate (k - (TL.numL m).length) 48 ++ TL.numL m
  | 0, _, _, h => absurd h (by decide)
  | k + 1, m, h, _ => by
    show padL k (m / 10) ++ [48 + m % 10] = _
    by_cases hm : m < 10
    · have e : m / 10 = 0 := Nat.div_eq_of_lt hm
      have e2 : m % 10 = m := Nat.mod_eq_of_lt hm
      rw [e, e2, padL_zero, TL.numL_lt hm]
      rfl
    · have h10 : 10 ≤ m := by omega
      have hk : 0 < k := by
        cases k with
        | zero =>
          have : m < 10 := h
          omega
        | succ k => exact Nat.succ_pos _
      have hlt : m / 10 < 10 ^ k := by
        rw [Nat.div_lt_iff_lt_mul (by decide)]
        rw [Nat.pow_succ] at h
        exact h
      rw [padL_num k (m / 10) hlt hk, TL.numL_step h10, List.length_append, List.append_assoc]
      show List.replicate (k - (TL.numL (m / 10)).length) 48 ++ _ = List.replicate (k + 1 - ((TL.numL (m / 10)).length + 1)) 48 ++ _
      rw [Nat.add_sub_add_right]
theorem padL_val : ∀ (k m : Nat), m < 10 ^ k → NumText.digitsVal (padL k m) = m
  | 0, m, h => by
    have : m < 1 := h
    have e : m = 0 := by omega
    rw [e]
    rfl
  | k + 1, m, h => by
    have hlt : m / 10 < 10 ^ k := by
      rw [Nat.div_lt_iff_lt_mul (by decide)]
      rw [Nat.pow_succ] at h
      exact h
    show NumText.digitsVal (padL k (m / 10) ++ [48 + m % 10]) = m
    rw [dv_app, padL_val k _ hlt, dv_one]
    show m / 10 * 10 ^ 1 + (48 + m % 10 - 48) = m
    omega
/-! ### texts as lists of signs -/
abbrev tx (l : List Nat) : V := .str (SX.S l)
theorem isDig : ∀ c : Nat, c < 128 → Unicode.isDigit c = (decide (48 ≤ c) && decide (c ≤ 57)) := by decide +kernel
def allDig (l : List Nat) : Bool := l.all fun c => decide (48 ≤ c) && decide (c ≤ 57)
theorem allDig_iff {l : List Nat} : allDig l = true ↔ NumText.AllDigits l := by
  unfold allDig NumText.AllDigits
  rw [List.all_eq_true]
  constructor
  · intro h c hc
    have := h c hc
    simp at this
    exact this
  · intro h c hc
    have := h c hc
    simp
    exact this
theorem asciiS (l : List Nat) : Txt.isascii (SX.S l) = l.all (· < 128) := by
  unfold Txt.isascii
  simp [SX.S]
theorem digitS (l : List Nat) : Txt.isdigit (SX.S l) = (decide (0 < l.length) && l.all Unicode.isDigit) := by
  unfold Txt.isdigit
  simp [SX.S, Str.length]
theorem both_dig (l : List Nat) : (if l.all (· < 128) = true then (decide (0 < l.length) && l.all Unicode.isDigit) else false) = (decide (l ≠ []) && allDig l) := by
  by_cases h : l.all (· < 128) = true
  · rw [if_pos h]
    have e : l.all Unicode.isDigit = allDig l := by
      unfold allDig
      rw [Bool.eq_iff_iff, List.all_eq_true, List.all_eq_true]
      rw [List.all_eq_true] at h
      constructor
      · intro z c hc
        rw [← isDig c (by have := h c hc; simpa using this)]
        exact z c hc
      · intro z c hc
        rw [isDig c (by have := h c hc; simpa using this)]
        exact z c hc
    rw [e]
    cases l <;> simp
  · rw [if_neg h]
    have e : allDig l = false := by
      rw [Bool.eq_false_iff]
      intro z
      apply h
      rw [List.all_eq_true]
      intro c hc
      have := allDig_iff.mp z c hc
      simp
      omega
    rw [e, Bool.and_false]
theorem intS {l : List Nat} (h : NumText.AllDigits l) (hne : l ≠ []) (hl : l.length ≤ 640) : intText? (SX.S l) = some ((NumText.digitsVal l : Nat) : Int) := SX.int_S (allDig_iff.mpr h) hne (by omega)
theorem zfillS (l : List Nat) (k : Nat) (h : NumText.AllDigits l) (hne : l ≠ []) : Txt.zfill (SX.S l) (k : Int) = SX.S (List.replicate (k - l.length) 48 ++ l) := by
  unfold Txt.zfill
  rw [SX.S_len]
  split
  · rename_i z
    have e : k - l.length = 0 := by omega
    rw [e]
    rfl
  · rename_i z
    obtain ⟨c, r, rfl⟩ : ∃ c r, l = c :: r := by
      cases l with
      | nil => exact absurd rfl hne
      | cons c r => exact ⟨c, r, rfl⟩
    have hc := h.head
    unfold PySem.zfilled
    have e0 : (SX.S (c :: r)).cps[0]? = some c := by simp [SX.S]
    rw [e0]
    have e1 : c ≠ 43 := by omega
    have e2 : c ≠ 45 := by omega
    split
    · rename_i w; exact absurd (Option.some.inj w) e1
    · rename_i w; exact absurd (Option.some.inj w) e2
    · apply TL.ext_tl
      simp [Builtin.Str.padded, TL.tl, SX.S]
theorem sliceFromTo {a : List Nat} {i j : Nat} (h : i ≤ j) (hj : j ≤ a.length) : Txt.slice (SX.S a) (some (i : Int)) (some (j : Int)) = SX.S ((a.drop i).take (j - i)) := by
  rw [← C8.cutS_slice, ← L2.sliceText_cut, StrLaws.sliceText_nat (SX.S a) h (by rw [SX.S_len]; exact hj)]

/-! ### a text read as a number -/
def isD (c : Nat) : Bool := decide (48 ≤ c) && decide (c ≤ 57)
def digs (l : List Nat) : Bool := decide (l ≠ []) && allDig l
def unsg : List Nat → List Nat | 45 :: r => r | l => l
def neg1 (l : List Nat) : Bool := decide (l.head? = some 45)
def sgnd (l : List Nat) (n : Nat) : Int := if neg1 l = true then -(n : Int) else (n : Int)
def markOf (l a b : List Nat) (c : Nat) : Option (Int × Int) :=
  if c = 46 then some (nrm (sgnd l (NumText.digitsVal (a ++ b))) ((10 ^ b.length : Nat) : Int))
  else if c = 47 then (if NumText.digitsVal b = 0 then none else some (nrm (sgnd l (NumText.digitsVal a)) (NumText.digitsVal b : Nat))) else none
def readU (l u : List Nat) : Option (Int × Int) :=
  if digs u = true then some (nrm (sgnd l (NumText.digitsVal u)) 1) else
    match u.dropWhile isD with
    | c :: b => if digs (u.takeWhile isD) = true ∧ digs b = true then markOf l (u.takeWhile isD) b c else none
    | [] => none
def readL (l : List Nat) : Option (Int × Int) := readU l (unsg l)
theorem digs_iff {l : List Nat} : digs l = true ↔ l ≠ [] ∧ NumText.AllDigits l := by
  unfold digs
  rw [Bool.and_eq_true, decide_eq_true_eq, allDig_iff]
theorem isD_iff {c : Nat} : isD c = true ↔ 48 ≤ c ∧ c ≤ 57 := by
  unfold isD
  rw [Bool.and_eq_true, decide_eq_true_eq, decide_eq_true_eq]
theorem ad_isD {l : List Nat} (h : NumText.AllDigits l) {c : Nat} (hc : c ∈ l) : isD c = true := isD_iff.mpr (h c hc)
theorem tw_app : ∀ {a : List Nat} {c : Nat} {b : List Nat}, NumText.AllDigits a → isD c = false → (a ++ c :: b).takeWhile isD = a ∧ (a ++ c :: b).dropWhile isD = c :: b
  | [], c, b, _, hc => by
    rw [List.nil_append, List.takeWhile_cons, List.dropWhile_cons, hc]
    exact ⟨rfl, rfl⟩
  | x :: a, c, b, h, hc => by
    have i := tw_app (b := b) (NumText.AllDigits.tail h) hc
    have hx : isD x = true := ad_isD h (List.mem_cons_self ..)
    rw [List.cons_append, List.takeWhile_cons, List.dropWhile_cons, hx]
    exact ⟨congrArg (x :: ·) i.1, i.2⟩
theorem not_digs_mem {u : List Nat} {c : Nat} (hc : c ∈ u) (hn : isD c = false) : digs u = false := by
  rw [Bool.eq_false_iff]
  intro h
  have := ad_isD (digs_iff.mp h).2 hc
  rw [hn] at this
  cases this
theorem readU_digs {l u : List Nat} (h : digs u = true) : readU l u = some (nrm (sgnd l (NumText.digitsVal u)) 1) := by
  unfold readU
  rw [if_pos h]
theorem readU_mark {l u a b : List Nat} {c : Nat} (e : u = a ++ c :: b) (ha : NumText.AllDigits a) (hc : isD c = false) : readU l u = if digs a = true ∧ digs b = true then markOf l a b c else none := by
  have hm : c ∈ u := by rw [e]; exact List.mem_append_right _ (List.mem_cons_self ..)
  unfold readU
  rw [if_neg (by rw [not_digs_mem hm hc]; exact Bool.false_ne_true)]
  have t := tw_app (b := b) ha hc
  rw [e, t.1, t.2]
theorem span_eq : ∀ u : List Nat, u = u.takeWhile isD ++ u.dropWhile isD := fun u => List.takeWhile_append_dropWhile.symm
theorem tw_digits (u : List Nat) : NumText.AllDigits (u.takeWhile isD) := fun c hc => by
  have := List.all_takeWhile (p := isD) (l := u)
  rw [List.all_eq_true] at this
  exact isD_iff.mp (this c hc)
theorem readU_some {l u : List Nat} {z : Int × Int} (h : readU l u = some z) : digs u = true ∨ ∃ a b c, u = a ++ c :: b ∧ digs a = true ∧ digs b = true ∧ (c = 46 ∨ c = 47) := by
  unfold readU at h
  split at h
  · rename_i w
    exact .inl w
  · split at h
    · rename_i c b e
      split at h
      · rename_i w
        refine .inr ⟨u.takeWhile isD, b, c, ?_, w.1, w.2, ?_⟩
        · rw [← e]
          exact span_eq u
        · unfold markOf at h
          split at h
          · rename_i w1; exact .inl w1
          · split at h
            · rename_i w1; exact .inr w1
            · cases h
      · cases h
    · cases h
theorem split_uniq {c : Nat} : ∀ {a a' b b' : List Nat}, a ++ c :: b = a' ++ c :: b' → c ∉ a → c ∉ a' → a = a' ∧ b = b'
  | [], [], b, b', h, _, _ => ⟨rfl, (List.cons.inj h).2⟩
  | [], x :: a', b, b', h, _, h2 => absurd (by rw [(List.cons.inj h).1]; exact List.mem_cons_self ..) h2
  | x :: a, [], b, b', h, h1, _ => absurd (by rw [← (List.cons.inj h).1]; exact List.mem_cons_self ..) h1
  | x :: a, y :: a', b, b', h, h1, h2 => by
    obtain ⟨e1, e2⟩ := List.cons.inj h
    obtain ⟨r1, r2⟩ := split_uniq e2 (fun z => h1 (List.mem_cons_of_mem _ z)) (fun z => h2 (List.mem_cons_of_mem _ z))
    exact ⟨by rw [e1, r1], r2⟩
theorem not_mem_digs {a : List Nat} {c : Nat} (h : digs a = true) (hc : isD c = false) : c ∉ a := fun z => by
  have := ad_isD (digs_iff.mp h).2 z
  rw [hc] at this
  cases this
/-- another split by a mark: no reading -/
theorem readU_bad {l u a b : List Nat} {c : Nat} (e : u = a ++ c :: b) (hca : c ∉ a) (hc : c = 46 ∨ c = 47) (hb : ¬ (digs a = true ∧ digs b = true)) : readU l u = none := by
  have hcd : isD c = false := by rcases hc with rfl | rfl <;> rfl
  cases h : readU l u with
  | none => rfl
  | some z =>
    have hm : c ∈ u := by rw [e]; exact List.mem_append_right _ (List.mem_cons_self ..)
    rcases readU_some h with w | ⟨a', b', c', e', ha', hb', hc'⟩
    · rw [not_digs_mem hm hcd] at w
      cases w
    · have hcc : c = c' := by
        rw [e'] at hm
        rcases List.mem_append.mp hm with m | m
        · exact absurd m (not_mem_digs ha' hcd)
        · rcases List.mem_cons.mp m with m | m
          · exact m
          · exact absurd m (not_mem_digs hb' hcd)
      subst hcc
      obtain ⟨r1, r2⟩ := split_uniq (e.symm.trans e') hca (not_mem_digs ha' hcd)
      subst r1
      subst r2
      exact absurd ⟨ha', hb'⟩ hb
theorem readU_nomark {l u : List Nat} (h46 : 46 ∉ u) (h47 : 47 ∉ u) (hd : digs u = false) : readU l u = none := by
  cases h : readU l u with
  | none => rfl
  | some z =>
    rcases readU_some h with w | ⟨a', b', c', e', ha', hb', hc'⟩
    · rw [hd] at w
      cases w
    · have hm : c' ∈ u := by rw [e']; exact List.mem_append_right _ (List.mem_cons_self ..)
      rcases hc' with rfl | rfl
      · exact absurd hm h46
      · exact absurd hm h47
theorem startsS (l : List Nat) : Txt.startswith (SX.S l) (Str.ofString "-") = neg1 l := by
  rw [show Str.ofString "-" = SX.S [45] by decide +kernel]
  cases l with
  | nil => rfl
  | cons c r =>
    unfold Txt.startswith neg1 Builtin.Str.subAt
    rw [SX.S_len, SX.S_len]
    simp [SX.S]
    rfl
theorem prefixS (l : List Nat) : Txt.removeprefix (SX.S l) (Str.ofString "-") = SX.S (unsg l) := by
  rw [show Str.ofString "-" = SX.S [45] by decide +kernel, StrLaws.removeprefix_eq]
  cases l with
  | nil => rfl
  | cons c r =>
    have e : (decide (0 + (SX.S [45]).length ≤ (SX.S (c :: r)).length) && Builtin.Str.subAt (SX.S (c :: r)) (SX.S [45]) 0) = decide (c = 45) := by
      unfold Builtin.Str.subAt
      rw [SX.S_len, SX.S_len]
      simp [SX.S]
      rfl
    rw [e]
    by_cases h : c = 45
    · rw [if_pos (decide_eq_true h), h]
      show _ = SX.S r
      rw [SX.S_len, SX.S_len]
      simp [SX.S]
    · rw [if_neg (by simpa using h)]
      have : unsg (c :: r) = c :: r := by
        unfold unsg
        split
        · rename_i w
          exact absurd (List.cons.inj w).1 h
        · rfl
      rw [this]

structure Ut (mg : Str → Option Value) : Prop where
  n_divmod : mg "divmod" = none
  n_str : mg "str" = none
  g_unit : ∃ t, mg "GROUP_UNIT" = some (.int (10 ^ 64) t)
  g_digits : ∃ t, mg "GROUP_DIGITS" = some (.int 64 t)
/-- the decimal text of an integer -/
def intL (n : Int) : List Nat := if n < 0 then 45 :: TL.numL n.natAbs else TL.numL n.natAbs
def spIntText : Sp := fun vs H Q _ => ∃ n : Int, vs = [.int n] ∧ n.natAbs < 10 ^ 5000 ∧ ∀ H', Same H H' → Q (tx (intL n)) H'
def spAreDigits : Sp := fun vs H Q _ => ∃ l : List Nat, vs = [tx l] ∧ Q (.bl (decide (l ≠ []) && allDig l)) H
def spReadDigits : Sp := fun vs H Q _ => ∃ l : List Nat, vs = [tx l] ∧ NumText.AllDigits l ∧ l.length ≤ 5000 ∧ Q (.int (NumText.digitsVal l : Nat)) H
theorem numL_len5000 {n : Nat} (h : n < 10 ^ 5000) : (TL.numL n).length ≤ 5000 := TL.numL_len (by decide) h
theorem pow5000 : (10 : Nat) ^ 5000 < 2 ^ 17000 := by decide +kernel
/-- the groups that are written so far, the last one first -/
theorem join_nil : ∀ ys : List (List Nat), TL.joinL [] ys = ys.flatten
  | [] => rfl
  | [y] => by show y = y ++ []; rw [List.append_nil]
  | y :: z :: r => by
    show y ++ ([] ++ TL.joinL [] (z :: r)) = y ++ (z :: r).flatten
    rw [join_nil (z :: r), List.nil_append]
theorem str_neg {n : Int} (h : n < 0) : Str.ofString "-" ++ SX.S (TL.numL n.natAbs) = SX.S (intL n) := by
  rw [show Str.ofString "-" = SX.S [45] by decide +kernel, SX.S_cat]
  unfold intL
  rw [if_pos h]
  rfl
theorem str_pos {n : Int} (h : ¬ n < 0) : Str.ofString "" ++ SX.S (TL.numL n.natAbs) = SX.S (intL n) := by
  rw [show Str.ofString "" = SX.S [] by decide +kernel, SX.S_cat]
  unfold intL
  rw [if_neg h]
  rfl
theorem log_group {n : Nat} (h : n < 10 ^ 64) : ((n : Nat) : Int).natAbs.log2 < 1920 :=
  PySem.Flt.log2_lt_of (by decide) (show ((n : Nat) : Int).natAbs < 2 ^ 1920 from by rw [Int.natAbs_natCast]; exact Nat.lt_trans h (by decide +kernel))
theorem intL_len {n : Int} (h : n.natAbs < 10 ^ 5000) : (intL n).length ≤ 5001 := by
  have := numL_len5000 h
  unfold intL
  split
  · rw [List.length_cons]
    omega
  · omega
theorem zero_S : (Str.ofString "0") = SX.S [48] := by decide +kernel
theorem rgc64 {first n : Nat} (h : first + 64 * n ≤ 5000) : RgC (first : Int) ((first + 64 * n : Nat) : Int) 64 n := by
  have e : Builtin.Range.rangeSize (first : Int) ((first + 64 * n : Nat) : Int) 64 = (n : Int) := by
    unfold Builtin.Range.rangeSize
    rw [if_pos (by decide)]
    split <;> omega
  refine ⟨by decide, by decide, ?_, e⟩
  unfold Builtin.Range.small
  rw [e]
  have f : ∀ z : Int, 0 ≤ z → z ≤ 6000 → Builtin.Range.rangeFitsLong z = true := fun z h1 h2 => by
    unfold Builtin.Range.rangeFitsLong
    rw [Bool.and_eq_true, decide_eq_true_eq, decide_eq_true_eq]
    have : (6000 : Int) < 2 ^ 63 := by decide
    omega
  rw [f _ (by omega) (by omega), f _ (by omega) (by omega), f 64 (by decide) (by decide), f n (by omega) (by omega)]
  rw [if_pos (show (64 : Int) > 0 by decide)]
  rw [f _ (by omega) (by omega)]
  simp
section
variable {P : Program} {w : World} {K : PySem.W.Frag} {mg : Str → Option Value} {base : Heap}
theorem ok_are_digits (D : Df K mg "are_digits" s_are_digits ["text"]) : Kn P w K mg base CX0 "are_digits" 1 ["text"] spAreDigits := by
  obtain ⟨f, fd, F, hm, hb⟩ := D
  refine ⟨f, fd, F.ok sc_are_digits (fun vs H Q E h => ?_) (fun cdv A outer s H vs Q E hr h => ?_), hm, F.kp, hb⟩
  · obtain ⟨l, rfl, _⟩ := h
    rfl
  · obtain ⟨l, rfl, q⟩ := h
    refine ⟨_, (pss_one (ps_ret (pe_and (pe_bm0 PySem.F.plainAttrs_str PySem.F.slot_str_isascii PySem.F.type_str_isascii mt_isascii (pv 0)) (pe_one (pe_bm0 PySem.F.plainAttrs_str PySem.F.slot_str_isdigit PySem.F.type_str_isdigit mt_isdigit (pv 0)))))), ?_⟩
    rw [← both_dig] at q
    refine ⟨_, rfl, rfl, _, rfl, rfl, trivial, _, rfl, ?_⟩
    rw [asciiS]
    refine ite2 (fun c => ?_) (fun c => ?_)
    · rw [if_pos c] at q
      refine ⟨_, rfl, rfl, _, rfl, rfl, trivial, ?_⟩
      rw [digitS]
      exact q
    · rw [if_neg c] at q
      exact q
theorem ok_read_digits (T : Bt mg) (Tt : Ut mg) (D : Df K mg "read_digits" s_read_digits ["digits"]) : Kn P w K mg base CX0 "read_digits" 1 ["digits"] spReadDigits := by
  obtain ⟨t1, hunit⟩ := Tt.g_unit
  obtain ⟨t2, hdig⟩ := Tt.g_digits
  obtain ⟨f, fd, F, hm, hb⟩ := D
  refine ⟨f, fd, F.ok sc_read_digits (fun vs H Q E h => ?_) (fun cdv A outer s H vs Q E hr h => ?_), hm, F.kp, hb⟩
  · obtain ⟨l, rfl, _⟩ := h
    rfl
  · obtain ⟨l, rfl, had, hlen, q⟩ := h
    refine ⟨_, (pss_cons (ps_set (i := 1) sc_read_digits.nd rfl (Or.inl rfl) (pe_op op_mod (pe_callB call_len_str (by rfl) T.n_len (by decide +kernel) (pa_cons (pv 0) pa_nil)) (pe_glob (v := .int 64) rfl hdig ⟨_, rfl⟩)))
      (pss_cons (ps_set (i := 2) sc_read_digits.nd rfl (Or.inl rfl) (pe_callTy call_int_str (by rfl) T.n_int (by decide +kernel) (pa_cons (pe_op op_add_str pe_str (pe_slice C8.sl_txt (pv 0) po_none (po_some (pv 1)))) pa_nil)))
      (pss_cons (ps_for PassesOwn.never rfl (pi_range3 rfl T.n_range (pa_cons (pv 1) (pa_cons (pe_callB call_len_str (by rfl) T.n_len (by decide +kernel) (pa_cons (pv 0) pa_nil)) (pa_cons (pe_glob (v := .int 64) rfl hdig ⟨_, rfl⟩) pa_nil)))) (pg_name (i := 3) sc_read_digits.nd rfl (Or.inl rfl))
        (pss_one (ps_set (i := 2) sc_read_digits.nd rfl (Or.inl rfl) (pe_op op_add (pe_op op_mulW (pv 2) (pe_glob (v := .int (10 ^ 64)) rfl hunit ⟨_, rfl⟩)) (pe_callTy call_int_str (by rfl) T.n_int (by decide +kernel) (pa_cons (pe_slice C8.sl_txt (pv 0) (po_some (pv 3)) (po_some (pe_op op_add (pv 3) (pe_glob (v := .int 64) rfl hdig ⟨_, rfl⟩)))) pa_nil))))))
      (pss_one (ps_ret (pv 2)))))), ?_⟩
    have hsl : (SX.S l).length ≤ sizeLine := by rw [SX.S_len]; exact Nat.le_trans hlen (by decide)
    refine ⟨_, rfl, _, rfl, hsl, _, _, rfl, rfl, (show (0 : Int) < 64 by decide), ?_⟩
    have e0 : ∀ first : Nat, l.length % 64 = first → ((SX.S l).length : Int) % 64 = (first : Int) := fun first h => by rw [SX.S_len]; omega
    obtain ⟨first, hf⟩ : ∃ first, l.length % 64 = first := ⟨_, rfl⟩
    have e00 := e0 first hf
    have hf64 : first < 64 := by rw [← hf]; exact Nat.mod_lt _ (by decide)
    have hfl : first ≤ l.length := by rw [← hf]; exact Nat.mod_le _ _
    -- number = int('0' + digits[:first])
    have e1 : Txt.slice (SX.S l) none (some (((SX.S l).length : Int) % 64)) = SX.S (l.take first) := by rw [e00, SX.slice_to (by omega)]; rfl
    have hz : (Str.ofString "0" ++ Txt.slice (SX.S l) none (some (((SX.S l).length : Int) % 64))) = SX.S (48 :: l.take first) := by
      rw [e1, zero_S]
      exact SX.S_cat _ _
    have htl : (l.take first).length = first := by rw [List.length_take]; omega
    have hl1 : (Str.ofString "0").length + (Txt.slice (SX.S l) none (some (((SX.S l).length : Int) % 64))).length ≤ sizeLine := by
      rw [e1, zero_S, SX.S_len, SX.S_len, htl]
      exact Nat.le_trans (show [48].length + first ≤ 1000 by show 1 + first ≤ 1000; omega) (by decide)
    have had1 : NumText.AllDigits (48 :: l.take first) := fun c hc => by
      rcases List.mem_cons.mp hc with rfl | hc
      · decide
      · exact ad_take first had c hc
    have hv1 : NumText.digitsVal (48 :: l.take first) = NumText.digitsVal (l.take first) := by
      have e := dv_app [48] (l.take first)
      rw [List.singleton_append] at e
      rw [e, dv_one, Nat.sub_self, Nat.zero_mul, Nat.zero_add]
    refine ⟨_, rfl, _, rfl, _, rfl, _, rfl, hsl, _, _, rfl, rfl, hl1, _, (NumText.digitsVal (l.take first) : Int), rfl,
      (by rw [hz, intS had1 (List.cons_ne_nil _ _) (by rw [List.length_cons, htl]; omega), hv1]), (by rw [hz, SX.S_len, List.length_cons, htl]; omega), ?_⟩
    -- the groups
    obtain ⟨n, hn⟩ : ∃ n, l.length = first + 64 * n := ⟨l.length / 64, by omega⟩
    refine ⟨_, rfl, _, rfl, _, rfl, hsl, _, _, _, n, rfl, (by rw [e00, SX.S_len, hn]; exact rgc64 (by omega)), ?_⟩
    refine for_rangeC (lo := ((SX.S l).length : Int) % 64) (c := 64) (n := n) (fun i σ H' => H' = H ∧ ∃ x y, σ = [some (tx l), some x, some (.int (NumText.digitsVal (l.take (first + 64 * i)) : Nat)), y]) ⟨rfl, _, _, rfl⟩ ?_ ?_
    · rintro i σ H' hi ⟨rfl, x, y, rfl⟩
      have hi2 : first + 64 * i + 64 ≤ l.length := by omega
      have eat : ((SX.S l).length : Int) % 64 + (i : Nat) * 64 = ((first + 64 * i : Nat) : Int) := by rw [e00]; omega
      have eat2 : ((SX.S l).length : Int) % 64 + (i : Nat) * 64 + 64 = ((first + 64 * i + 64 : Nat) : Int) := by rw [eat]; omega
      have es : Txt.slice (SX.S l) (some (((SX.S l).length : Int) % 64 + (i : Nat) * 64)) (some (((SX.S l).length : Int) % 64 + (i : Nat) * 64 + 64)) = SX.S ((l.drop (first + 64 * i)).take 64) := by
        rw [eat2, eat, sliceFromTo (by omega) hi2, Nat.add_sub_cancel_left]
      have hgl : ((l.drop (first + 64 * i)).take 64).length = 64 := by
        rw [List.length_take, List.length_drop]
        omega
      have hgd : NumText.AllDigits ((l.drop (first + 64 * i)).take 64) := ad_take 64 (ad_drop _ had)
      have hne : (l.drop (first + 64 * i)).take 64 ≠ [] := fun z => by
        rw [z] at hgl
        cases hgl
      have hnow : NumText.digitsVal (l.take (first + 64 * i)) < 10 ^ 5000 := by
        refine Nat.lt_of_lt_of_le (dv_lt _ (ad_take _ had)) (Nat.pow_le_pow_right (by decide) ?_)
        rw [List.length_take]
        omega
      refine ⟨_, rfl, _, _, rfl, rfl, wide_mul (a := 17000) (b := 220) (by rw [Int.natAbs_natCast]; exact Nat.lt_trans hnow pow5000) (by decide) (by decide) (by decide) (by decide), ?_⟩
      refine ⟨_, rfl, _, rfl, _, rfl, _, rfl, _, _, rfl, rfl, _, rfl, _, rfl, hsl, _, (NumText.digitsVal ((l.drop (first + 64 * i)).take 64) : Int), rfl, (by rw [es]; exact intS hgd hne (by rw [hgl]; decide)), (by rw [es, SX.S_len, hgl]; decide), _, _, rfl, rfl, rfl, ?_⟩
      refine ⟨_, _, congrArg (fun z => [some (tx l), some _, some (V.int z), some _]) ?_⟩
      have et : l.take (first + 64 * (i + 1)) = l.take (first + 64 * i) ++ (l.drop (first + 64 * i)).take 64 := by
        rw [show first + 64 * (i + 1) = (first + 64 * i) + 64 by omega, List.take_add]
      rw [et, dv_app, hgl]
      rw [Int.natCast_add, Int.natCast_mul]
      rfl
    · rintro σ H' ⟨rfl, x, y, rfl⟩
      refine ⟨_, rfl, ?_⟩
      rw [← hn, List.take_length]
      exact q

theorem ok_integer_text (T : Bt mg) (Tt : Ut mg) (D : Df K mg "integer_text" s_integer_text ["number"]) : Kn P w K mg base CX0 "integer_text" 1 ["number"] spIntText := by
  obtain ⟨t1, hunit⟩ := Tt.g_unit
  obtain ⟨t2, hdig⟩ := Tt.g_digits
  obtain ⟨f, fd, F, hm, hb⟩ := D
  refine ⟨f, fd, F.ok sc_integer_text (fun vs H Q E h => ?_) (fun cdv A outer s H vs Q E hr h => ?_), hm, F.kp, hb⟩
  · obtain ⟨n, rfl, _⟩ := h
    rfl
  · obtain ⟨n, rfl, hn, q⟩ := h
    refine ⟨_, (pss_cons (ps_set (i := 1) sc_integer_text.nd rfl (Or.inl rfl) (pe_callB call_abs (by rfl) T.n_abs (by decide +kernel) (pa_cons (pv 0) pa_nil)))
      (pss_cons (ps_set (i := 2) sc_integer_text.nd rfl (Or.inl rfl) (pe_lst pa_nil))
      (pss_cons (ps_while PassesOwn.never (pt_cmpR op_ge (pv 1) (pe_glob (v := .int (10 ^ 64)) rfl hunit ⟨_, rfl⟩) (nomark _)) (pss_cons (ps_asg (pe_callB call_divmodW (by rfl) Tt.n_divmod (by decide +kernel) (pa_cons (pv 1) (pa_cons (pe_glob (v := .int (10 ^ 64)) rfl hunit ⟨_, rfl⟩) pa_nil))) (pg_tup (by rfl) (pgs_cons (pg_name (i := 1) sc_integer_text.nd rfl (Or.inl rfl)) (pgs_cons (pg_name (i := 3) sc_integer_text.nd rfl (Or.inl rfl)) pgs_nil))))
      (pss_one (ps_expr (pe_bm PySem.F.plainAttrs_list PySem.F.slot_list_append PySem.F.type_list_append mt_append (pv 2) (pa_cons (pe_bm PySem.F.plainAttrs_str PySem.F.slot_str_zfill PySem.F.type_str_zfill mt_zfill (pe_callTy call_str_int (by rfl) Tt.n_str (by decide +kernel) (pa_cons (pv 3) pa_nil)) (pa_cons (pe_glob (v := .int 64) rfl hdig ⟨_, rfl⟩) pa_nil)) pa_nil))))))
      (pss_cons (ps_expr (pe_bm PySem.F.plainAttrs_list PySem.F.slot_list_append PySem.F.type_list_append mt_append (pv 2) (pa_cons (pe_callTy call_str_int (by rfl) Tt.n_str (by decide +kernel) (pa_cons (pv 1) pa_nil)) pa_nil)))
      (pss_cons (ps_expr (pe_bm0 PySem.F.plainAttrs_list PySem.F.slot_list_reverse PySem.F.type_list_reverse mt_reverse (pv 2)))
      (C8.pss_cut (ps_set (i := 4) sc_integer_text.nd rfl (Or.inl rfl) (pe_ifExp (pt_cmpR op_lt (pv 0) pe_int (nomark _)) pe_str pe_str))
      (pss_one (ps_ret (pe_op op_add_str (pv 4) (pe_bm PySem.F.plainAttrs_str PySem.F.slot_str_join PySem.F.type_str_join mt_join pe_str (pa_cons (pv 2) pa_nil))))))))))), ?_⟩
    have eabs : (if n < 0 then -n else n) = ((n.natAbs : Nat) : Int) := by omega
    have hN5 : n.natAbs < 10 ^ 5000 := hn
    have hNl := numL_len5000 hN5
    refine ⟨_, rfl, _, rfl, (by show 0 ≤ sizeLine; decide), fun l nl => ?_⟩
    refine while_by (fun σ H2 => ∃ (r : Nat) (gs : List (List Nat)) (z : Option V), σ = [some (.int n), some (.int (r : Int)), some (.ref l), z, none] ∧ H2 l = some (.lst ((gs.map SX.S).map V.str)) ∧ Same H H2 ∧
      TL.numL n.natAbs = TL.numL r ++ gs.reverse.flatten ∧ (∀ g ∈ gs, g.length = 64)) (fun σ _ => match σ with | [_, some (.int r), _, _, _] => r.natAbs | _ => 0)
      ⟨n.natAbs, [], none, (by rw [← eabs]; rfl), upd_same, same_new nl _, (by rw [List.reverse_nil, List.flatten_nil, List.append_nil]), fun g hg => by cases hg⟩ ?_ ?_
    · rintro σ H2 ⟨r, gs, z, rfl, hl, sm, hv, hgs⟩
      have hgl : 64 * gs.length = gs.reverse.flatten.length := by
        rw [List.length_flatten, List.map_reverse, List.sum_reverse]
        clear hv hl
        induction gs with
        | nil => rfl
        | cons g gs ih =>
          rw [List.map_cons, List.sum_cons, hgs g (List.mem_cons_self ..), ← ih (fun g hg => hgs g (List.mem_cons_of_mem _ hg)), List.length_cons]
          omega
      have hlen : (TL.numL r).length + 64 * gs.length ≤ 5000 := by
        rw [hgl, ← List.length_append, ← hv]
        exact hNl
      refine ⟨_, rfl, _, _, rfl, rfl, _, rfl, ?_⟩
      refine ite2 (fun c => ?_) (fun c => ?_)
      · have hr64 : 10 ^ 64 ≤ r := by
          have := of_decide_eq_true c
          omega
        refine ⟨_, rfl, _, _, rfl, ⟨by decide, PyProof.noPylong_of_log2 (by decide +kernel)⟩, fun p np => ?_⟩
        refine ⟨_, _, rfl, SqT.of upd_same, rfl, ?_⟩
        have hlp : l ≠ p := fun e => by
          rw [e, np] at hl
          cases hl
        have hl2 : upd H2 p (.tup [.int ((r : Int) / (10 ^ 64 : Int)), .int ((r : Int) % (10 ^ 64 : Int))]) l = some (.lst ((gs.map SX.S).map V.str)) := by
          rw [upd_ne hlp]
          exact hl
        have s2 := sm.trans (same_new np (.tup [.int ((r : Int) / (10 ^ 64 : Int)), .int ((r : Int) % (10 ^ 64 : Int))]))
        have eq1 : (r : Int) / (10 ^ 64 : Int) = ((r / 10 ^ 64 : Nat) : Int) := by omega
        have eq2 : (r : Int) % (10 ^ 64 : Int) = ((r % 10 ^ 64 : Nat) : Int) := by omega
        have hm64 : r % 10 ^ 64 < 10 ^ 64 := Nat.mod_lt _ (by decide)
        have ez : Txt.zfill (Str.ofString (toString ((r : Int) % (10 ^ 64 : Int)))) 64 = SX.S (padL 64 (r % 10 ^ 64)) := by
          rw [eq2, SX.num_S]
          rw [show (64 : Int) = ((64 : Nat) : Int) from rfl, zfillS _ _ (TL.numL_digits _) (TL.numL_ne _), ← padL_num 64 _ hm64 (by decide)]
        refine ⟨_, _, rfl, _, _, rfl, rfl, ?_⟩
        refine ⟨_, rfl, .inl ⟨rfl, _, SqL.of hl2⟩, _, rfl, _, rfl, (by rw [eq2]; exact log_group hm64), rfl, _, _, rfl, rfl, (by decide +kernel), _, _, _, rfl, rfl, hl2, ?_, ?_⟩
        · rw [List.length_map, List.length_map]
          exact small1000 (by omega)
        · refine ⟨⟨r / 10 ^ 64, gs ++ [padL 64 (r % 10 ^ 64)], _, (by rw [← eq1]; rfl), ?_, ?_, ?_, ?_⟩, ?_⟩
          · rw [upd_same, ez, List.map_append, List.map_append]
            rfl
          · intro b u e
            rw [upd_ne (ne_of_none e nl)]
            exact s2 b u e
          · rw [hv, numL_split 64 r hr64, List.reverse_append, List.reverse_singleton, List.singleton_append, List.flatten_cons, List.append_assoc]
          · intro g hg
            rcases List.mem_append.mp hg with h | h
            · exact hgs g h
            · rw [List.mem_singleton.mp h, padL_len]
          · show ((r : Int) / (10 ^ 64 : Int)).natAbs < ((r : Nat) : Int).natAbs
            omega
      · have hr64 : r < 10 ^ 64 := by
          have : ¬ _ := fun z => c (decide_eq_true z)
          omega
        have hlog := log_group hr64
        have hf1 : (gs.map SX.S).map V.str ++ [V.str (Str.ofString (toString (r : Int)))] = ((gs ++ [TL.numL r]).map SX.S).map V.str := by
          rw [SX.num_S, List.map_append, List.map_append]
          rfl
        have hf2 : ((gs.map SX.S).map V.str ++ [V.str (Str.ofString (toString (r : Int)))]).reverse = ((gs ++ [TL.numL r]).reverse.map SX.S).map V.str := by
          rw [hf1, List.map_reverse, List.map_reverse]
        have hfl : (gs ++ [TL.numL r]).reverse.flatten = TL.numL n.natAbs := by
          rw [List.reverse_append, List.reverse_singleton, List.singleton_append, List.flatten_cons, hv]
        have hj : Txt.join (Str.ofString "") ((gs ++ [TL.numL r]).reverse.map SX.S) = SX.S (TL.numL n.natAbs) := by
          rw [show Str.ofString "" = SX.S [] by decide +kernel, SX.join_S, join_nil, hfl]
        have hsz : (((gs ++ [TL.numL r]).reverse.map SX.S).map (·.length)).sum + ((gs ++ [TL.numL r]).reverse.map SX.S).length * (Str.ofString "").length ≤ 16777216 := by
          rw [SX.lens, ← List.length_flatten, hfl, show (Str.ofString "").length = 0 by decide +kernel, Nat.mul_zero, Nat.add_zero]
          omega
        refine ⟨_, rfl, .inl ⟨rfl, _, SqL.of hl⟩, _, rfl, _, rfl, hlog, _, _, _, rfl, rfl, hl, (by rw [List.length_map, List.length_map]; exact small1000 (by omega)), ?_⟩
        refine ⟨_, rfl, .inl ⟨rfl, _, SqL.of upd_same⟩, _, _, rfl, rfl, upd_same, ?_⟩
        have s3 : ∀ (o1 o2 : HO), Same H (upd (upd H2 l o1) l o2) := fun o1 o2 b u e => by
          rw [upd_ne (ne_of_none e nl), upd_ne (ne_of_none e nl)]
          exact sm b u e
        have s4 := s3 (.lst ((gs.map SX.S).map V.str ++ [V.str (Str.ofString (toString (r : Int)))])) (.lst ((gs.map SX.S).map V.str ++ [V.str (Str.ofString (toString (r : Int)))]).reverse)
        have hl5 : upd (upd H2 l (.lst ((gs.map SX.S).map V.str ++ [V.str (Str.ofString (toString (r : Int)))]))) l (.lst ((gs.map SX.S).map V.str ++ [V.str (Str.ofString (toString (r : Int)))]).reverse) l = some (.lst (((gs ++ [TL.numL r]).reverse.map SX.S).map V.str)) := by
          rw [upd_same, hf2]
        generalize upd (upd H2 l (.lst ((gs.map SX.S).map V.str ++ [V.str (Str.ofString (toString (r : Int)))]))) l (.lst ((gs.map SX.S).map V.str ++ [V.str (Str.ofString (toString (r : Int)))]).reverse) = H5 at s4 hl5
        refine ⟨fun σ H6 => H6 = H5 ∧ ∃ sg : Str, σ = [some (.int n), some (.int (r : Int)), some (.ref l), z, some (.str sg)] ∧ sg ++ SX.S (TL.numL n.natAbs) = SX.S (intL n) ∧ sg.length ≤ 1, ?_, ?_⟩
        · refine ⟨_, rfl, _, _, rfl, rfl, _, rfl, ?_⟩
          refine ite2 (fun c => ?_) (fun c => ?_)
          · exact ⟨rfl, _, rfl, str_neg (of_decide_eq_true c), (by decide +kernel)⟩
          · exact ⟨rfl, _, rfl, str_pos (of_decide_eq_false (by simpa using c)), (by decide +kernel)⟩
        · rintro σ H6 ⟨rfl, sg, rfl, hsg, hsl⟩
          refine ⟨_, rfl, rfl, _, rfl, _, _, _, rfl, rfl, .inl (SqL.of hl5), hsz, ?_⟩
          refine ⟨_, _, rfl, rfl, ?_, ?_⟩
          · rw [hj, SX.S_len]
            exact Nat.le_trans (show sg.length + (TL.numL n.natAbs).length ≤ 6000 by omega) (by decide)
          · rw [hj, hsg]
            exact q _ s4
    · intro σ H' Q1 Q2 hq h
      obtain ⟨v, h1, i, j, e1, e2, k, e3, h3⟩ := h
      exact ⟨v, h1, i, j, e1, e2, k, e3, hq _ _ h3⟩
end

/-- a text, n times -/
def repL (n : Nat) (a : List Nat) : List Nat := (List.replicate n a).flatten
theorem fold_cat : ∀ (n : Nat) (a : List Nat) (z : Array Nat), ((List.replicate n (SX.S a).cps).foldl (· ++ ·) z).toList = z.toList ++ repL n a
  | 0, a, z => by
    show z.toList = z.toList ++ []
    rw [List.append_nil]
  | n + 1, a, z => by
    show ((List.replicate n (SX.S a).cps).foldl (· ++ ·) (z ++ (SX.S a).cps)).toList = _
    rw [fold_cat n a, Array.toList_append]
    show z.toList ++ a ++ repL n a = z.toList ++ (a ++ repL n a)
    rw [List.append_assoc]
theorem mulS (a : List Nat) (n : Nat) : Txt.mul (SX.S a) (n : Int) = SX.S (repL n a) := by
  unfold Txt.mul
  split
  · rename_i h
    have : n = 0 := by omega
    subst this
    rfl
  · split
    · rename_i h h2
      rw [Bool.or_eq_true, beq_iff_eq, beq_iff_eq, SX.S_len] at h2
      rcases h2 with h2 | h2
      · have : n = 1 := by omega
        subst this
        show SX.S a = SX.S (a ++ [])
        rw [List.append_nil]
      · have : a = [] := List.length_eq_zero_iff.mp h2
        subst this
        have : repL n [] = [] := by
          unfold repL
          induction n with
          | zero => rfl
          | succ n ih =>
            rw [List.replicate_succ, List.flatten_cons, List.nil_append]
            cases n with
            | zero => rfl
            | succ n => exact ih (by omega)
        rw [this]
    · apply TL.ext_tl
      show ((List.replicate ((n : Int)).toNat (SX.S a).cps).foldl (· ++ ·) #[]).toList = repL n a
      rw [Int.toNat_natCast, fold_cat]
      rfl
theorem op_mul_strI {X : Cx} : OpR X (binaryOp .Mult) (fun x y H Q => ∃ (a : List Nat) (n : Nat), x = tx a ∧ y = .int (n : Int) ∧ n ≤ 10000 ∧ a.length ≤ 1000 ∧ Q (tx (repL n a)) H) := by
  intro pins s σ H x y v u Q I rx ry h
  obtain ⟨a, n, rfl, rfl, h1, h2, q⟩ := h
  obtain ⟨t, rfl⟩ := rx
  obtain ⟨t', rfl⟩ := ry
  have p63 : (2 : Int) ^ 63 = 9223372036854775808 := by decide
  refine PySem.SB.mul ⟨?_, fun h3 _ => ?_, fun _ _ => ?_⟩ fun t' k => ?_
  · rw [p63, decide_eq_false (by omega), decide_eq_false (by omega)]
    rfl
  · rw [SX.S_len, p63]
    have h4 : (9223372036854775808 - 1) / (n : Int) ≥ 922337203685477 := by
      rw [ge_iff_le, Int.le_ediv_iff_mul_le (by omega)]
      omega
    omega
  · rw [SX.S_len, Int.toNat_natCast]
    unfold Builtin.Str.tooLong
    rw [decide_eq_false]
    have : a.length * n ≤ 1000 * 10000 := Nat.mul_le_mul h2 h1
    exact Nat.not_lt.mpr (Nat.le_trans this (by decide))
  · rw [mulS]
    exact ⟨.str _, H, I.tok _, ⟨_, rfl⟩, q⟩
theorem rep_zero (n : Nat) (c : Nat) : repL n [c] = List.replicate n c := by
  unfold repL
  induction n with
  | zero => rfl
  | succ n ih => rw [List.replicate_succ, List.flatten_cons, ih, List.replicate_succ]; rfl
theorem dv_zeros : ∀ n : Nat, NumText.digitsVal (List.replicate n 48) = 0
  | 0 => rfl
  | n + 1 => by
    have e := dv_app [48] (List.replicate n 48)
    rw [List.singleton_append] at e
    rw [List.replicate_succ, e, dv_zeros n, dv_one]
    simp
theorem dv_pow (n : Nat) : NumText.digitsVal (49 :: repL n [48]) = 10 ^ n := by
  have e := dv_app [49] (repL n [48])
  rw [List.singleton_append] at e
  rw [e, dv_one, rep_zero, dv_zeros, List.length_replicate]
  omega
theorem pow10_2000 {k : Nat} (h : k ≤ 2000) : 10 ^ k < 2 ^ 8000 := Nat.lt_of_le_of_lt (Nat.pow_le_pow_right (by decide) h) (by decide +kernel)
theorem log_gcd {t m : Nat} (h : m ≠ 0) (hB : m < 2 ^ 8000) : (Nat.gcd t m).log2 < 9000 := by
  have h1 : Nat.gcd t m ≤ m := Nat.le_of_dvd (by omega) (Nat.gcd_dvd_right t m)
  have h2 := PySem.Flt.log2_lt_of (n := Nat.gcd t m) (by decide) (show Nat.gcd t m < 2 ^ 8000 from Nat.lt_of_le_of_lt h1 hB)
  exact Nat.lt_trans h2 (by decide)
/-- a product, a quotient that needs no common divisor -/
def spMulW (K : PySem.W.Frag) : Sp := fun vs H Q _ => ∃ (x y : V) (a b : Int × Int), vs = [x, y] ∧ Nv K H x a ∧ Nv K H y b ∧ CMulW a.1 b.1 ∧ CMulW a.2 b.2 ∧ Int.gcd (a.1 * b.1) (a.2 * b.2) = 1 ∧
  ∀ p H', Same H H' → H' p = some (.tup [.int (a.1 * b.1), .int (a.2 * b.2)]) → Q (.ref p) H'
def spMulRW (K : PySem.W.Frag) : Sp := fun vs H Q _ => ∃ (x y : V) (a b : Int × Int), vs = [x, y] ∧ Dp K H x (rat a.1 a.2) ∧ Dp K H y (rat b.1 b.2) ∧ Red a ∧ Red b ∧ CMulW a.1 b.1 ∧ CMulW a.2 b.2 ∧ Int.gcd (a.1 * b.1) (a.2 * b.2) = 1 ∧
  ∀ p H', Same H H' → H' p = some (.tup [.int (a.1 * b.1), .int (a.2 * b.2)]) → Q (.ref p) H'
def spDivW (K : PySem.W.Frag) : Sp := fun vs H Q _ => ∃ (x y : V) (a b : Int × Int), vs = [x, y] ∧ Nv K H x a ∧ Nv K H y b ∧ 0 < b.1 ∧ CMulW a.1 b.2 ∧ CMulW a.2 b.1 ∧ Int.gcd (a.1 * b.2) (a.2 * b.1) = 1 ∧
  ∀ p H', Same H H' → H' p = some (.tup [.int (a.1 * b.2), .int (a.2 * b.1)]) → Q (.ref p) H'
theorem nt_one {t m : Int} (h : 0 < m) (g : Int.gcd t m = 1) : nt t m = t := by
  unfold nt
  rw [if_neg (by omega), g]
  exact Int.ediv_one t
theorem nb_one {t m : Int} (h : 0 < m) (g : Int.gcd t m = 1) : nb t m = m := by
  unfold nb
  rw [g]
  show (m.natAbs : Int) / 1 = m
  rw [Int.ediv_one]
  omega
def ratL (z : Int × Int) : List Nat := if z.2 = 1 then intL z.1 else intL z.1 ++ 47 :: intL z.2
def spRatText (K : PySem.W.Frag) : Sp := fun vs H Q _ => ∃ (x : V) (z : Int × Int), vs = [x] ∧ Nv K H x z ∧ z.1.natAbs < 10 ^ 5000 ∧ z.2.natAbs < 10 ^ 5000 ∧ ∀ H', Same H H' → Q (tx (ratL z)) H'
/-- what is asked of a text, so that its number is read: few digits, or no great common divisor -/
def Rok (l : List Nat) : Prop := l.length ≤ 4990 ∧ ∀ a b : List Nat, NumText.AllDigits a → NumText.AllDigits b → (unsg l = a ++ 47 :: b → NumText.digitsVal b ≠ 0 → (Nat.gcd (NumText.digitsVal a) (NumText.digitsVal b)).log2 < 9000) ∧ (unsg l = a ++ 46 :: b → b.length ≤ 2000)
def spReadRat (C : Addr) : Sp := fun vs H Q E => ∃ l : List Nat, vs = [tx l] ∧ Rok l ∧ (∀ z p H', readL l = some z → Same H H' → H' p = some (.tup [.int z.1, .int z.2]) → Q (.ref p) H') ∧
  (readL l = none → ∀ dx H', Same H H' → H' dx = some (.xd [("text", tx l)]) → E (.ref C) (some dx) H')
section
variable {P : Program} {w : World} {K : PySem.W.Frag} {mg : Str → Option Value} {base : Heap}
theorem ok_multiply_ratiosW {Cz : Addr} (GR : Kn1 P w K mg base (L2.CX P w) "ratio" 1 ["top", "bottom"] (spRatio Cz)) (D : Df K mg "multiply_ratios" s_multiply_ratios ["one", "other"]) :
    Kn P w K mg base CX0 "multiply_ratios" 2 ["one", "other"] (spMulRW K) := by
  obtain ⟨f, fd, F, hm, hb⟩ := D
  obtain ⟨f_ratio, fd_ratio, G_ratio, m_ratio, k_ratio, b_ratio, _⟩ := GR
  refine ⟨f, fd, F.ok sc_multiply_ratios (fun vs H Q E h => ?_) (fun cdv A outer s H vs Q E hr h => ?_), hm, F.kp, hb⟩
  · obtain ⟨x, y, a, b, rfl, _⟩ := h
    rfl
  · obtain ⟨x, y, a, b, rfl, hx, hy, ra, rb, w1, w2, hg, q⟩ := h
    have pm : 0 < a.2 * b.2 := Int.mul_pos ra.pos rb.pos
    refine ⟨_, (pss_cons (ps_asg (pv 0) (pg_tup (by rfl) (pgs_cons (pg_name (i := 2) sc_multiply_ratios.nd rfl (Or.inl rfl)) (pgs_cons (pg_name (i := 3) sc_multiply_ratios.nd rfl (Or.inl rfl)) pgs_nil))))
      (pss_cons (ps_asg (pv 1) (pg_tup (by rfl) (pgs_cons (pg_name (i := 4) sc_multiply_ratios.nd rfl (Or.inl rfl)) (pgs_cons (pg_name (i := 5) sc_multiply_ratios.nd rfl (Or.inl rfl)) pgs_nil))))
      (pss_one (ps_ret (pe_call G_ratio (hr.mono (by omega)) rfl m_ratio k_ratio b_ratio .nil passL (pa_cons (pe_op op_mulW (pv 2) (pv 4)) (pa_cons (pe_op op_mulW (pv 3) (pv 5)) pa_nil))))))), ?_⟩
    obtain ⟨p1, rfl, hp1⟩ := dp_rat_inv hx
    obtain ⟨p2, rfl, hp2⟩ := dp_rat_inv hy
    refine ⟨_, rfl, p1, _, rfl, hp1, rfl, .int _, _, rfl, .int _, _, rfl, rfl, ?_⟩
    refine ⟨_, rfl, p2, _, rfl, hp2, rfl, .int _, _, rfl, .int _, _, rfl, rfl, ?_⟩
    refine ⟨_, rfl, _, rfl, _, _, rfl, rfl, w1, _, rfl, _, rfl, _, _, rfl, rfl, w2, ?_⟩
    refine ⟨_, _, rfl, fun h => by rw [hg]; decide, fun _ p H3 s3 h3 => q p H3 s3 (by rw [h3, nt_one pm hg, nb_one pm hg]), fun z => absurd z (mne ra rb)⟩
theorem ok_multiplyW {C : Addr} (GA : Kn P w K mg base (L2.CX P w) "as_ratio" 3 ["value"] (spAsRatio K C)) (GR : Kn P w K mg base CX0 "multiply_ratios" 2 ["one", "other"] (spMulRW K)) (D : Df K mg "multiply" s_multiply ["one", "other"]) :
    Kn P w K mg base CX0 "multiply" 4 ["one", "other"] (spMulW K) := by
  obtain ⟨f, fd, F, hm, hb⟩ := D
  obtain ⟨f_as_ratio, fd_as_ratio, G_as_ratio, m_as_ratio, k_as_ratio, b_as_ratio⟩ := GA
  obtain ⟨f_multiply_ratios, fd_multiply_ratios, G_multiply_ratios, m_multiply_ratios, k_multiply_ratios, b_multiply_ratios⟩ := GR
  refine ⟨f, fd, F.ok sc_multiply (fun vs H Q E h => ?_) (fun cdv A outer s H vs Q E hr h => ?_), hm, F.kp, hb⟩
  · obtain ⟨x, y, a, b, rfl, _⟩ := h
    rfl
  · obtain ⟨x, y, a, b, rfl, hx, hy, w1, w2, hg, q⟩ := h
    have ra := hx.red
    have rb := hy.red
    refine ⟨_, (pss_one (ps_ret (pe_call G_multiply_ratios (hr.mono (by omega)) rfl m_multiply_ratios k_multiply_ratios b_multiply_ratios .nil pass0 (pa_cons (pe_call G_as_ratio (hr.mono (by omega)) rfl m_as_ratio k_as_ratio b_as_ratio .nil passL (pa_cons (pv 0) pa_nil)) (pa_cons (pe_call G_as_ratio (hr.mono (by omega)) rfl m_as_ratio k_as_ratio b_as_ratio .nil passL (pa_cons (pv 1) pa_nil)) pa_nil))))), ?_⟩
    obtain ⟨d1, hd1, e1⟩ := hx
    obtain ⟨d2, hd2, e2⟩ := hy
    refine ⟨_, rfl, x, d1, rfl, hd1, fun t m r H1 e s1 hr1 => ?_, fun e => by rw [e1] at e; cases e⟩
    obtain rfl : a = (t, m) := Option.some.inj (e1.symm.trans e)
    refine ⟨_, rfl, y, d2, rfl, dp_same s1 _ _ hd2, fun t2 m2 r2 H2 e s2 hr2 => ?_, fun e => by rw [e2] at e; cases e⟩
    obtain rfl : b = (t2, m2) := Option.some.inj (e2.symm.trans e)
    exact ⟨r, r2, _, _, rfl, dp_same s2 _ _ hr1, hr2, ra, rb, w1, w2, hg, fun p H3 s3 h3 => q p H3 (s1.trans (s2.trans s3)) h3⟩
theorem ok_divideW {C Cz : Addr} (GA : Kn P w K mg base (L2.CX P w) "as_ratio" 3 ["value"] (spAsRatio K C)) (GR : Kn1 P w K mg base (L2.CX P w) "ratio" 1 ["top", "bottom"] (spRatio Cz)) (D : Df K mg "divide" s_divide ["one", "other"]) :
    Kn P w K mg base (L2.CX P w) "divide" 4 ["one", "other"] (spDivW K) := by
  obtain ⟨f, fd, F, hm, hb⟩ := D
  obtain ⟨f_as_ratio, fd_as_ratio, G_as_ratio, m_as_ratio, k_as_ratio, b_as_ratio⟩ := GA
  obtain ⟨f_ratio, fd_ratio, G_ratio, m_ratio, k_ratio, b_ratio, _⟩ := GR
  refine ⟨f, fd, F.okX sc_divide (fun vs H Q E h => ?_) (fun cdv A outer s H vs Q E hr h => ?_), hm, F.kp, hb⟩
  · obtain ⟨x, y, a, b, rfl, _⟩ := h
    rfl
  · obtain ⟨x, y, a, b, rfl, hx, hy, b0, w1, w2, hg, q⟩ := h
    have ra := hx.red
    have rb := hy.red
    have pm : 0 < a.2 * b.1 := Int.mul_pos ra.pos b0
    refine ⟨_, (pss_cons (ps_asg (pe_call G_as_ratio (hr.mono (by omega)) rfl m_as_ratio k_as_ratio b_as_ratio .nil passL (pa_cons (pv 0) pa_nil)) (pg_tup (by rfl) (pgs_cons (pg_name (i := 2) sc_divide.nd rfl (Or.inl rfl)) (pgs_cons (pg_name (i := 3) sc_divide.nd rfl (Or.inl rfl)) pgs_nil))))
      (pss_cons (ps_asg (pe_call G_as_ratio (hr.mono (by omega)) rfl m_as_ratio k_as_ratio b_as_ratio .nil passL (pa_cons (pv 1) pa_nil)) (pg_tup (by rfl) (pgs_cons (pg_name (i := 4) sc_divide.nd rfl (Or.inl rfl)) (pgs_cons (pg_name (i := 5) sc_divide.nd rfl (Or.inl rfl)) pgs_nil))))
      (pss_one (ps_ret (pe_call G_ratio (hr.mono (by omega)) rfl m_ratio k_ratio b_ratio .nil (passes_call (takes_of rfl rfl rfl rfl) (fun _ _ _ _ h => h)) (pa_cons (pe_op op_mulW (pv 2) (pv 5)) (pa_cons (pe_op op_mulW (pv 3) (pv 4)) pa_nil))))))), ?_⟩
    obtain ⟨d1, hd1, e1⟩ := hx
    obtain ⟨d2, hd2, e2⟩ := hy
    refine ⟨_, rfl, x, d1, rfl, hd1, fun t m r H1 e s1 hr1 => ?_, fun e => by rw [e1] at e; cases e⟩
    obtain rfl : a = (t, m) := Option.some.inj (e1.symm.trans e)
    obtain ⟨p1, rfl, hp1⟩ := dp_rat_inv hr1
    refine ⟨p1, _, rfl, hp1, rfl, .int t, _, rfl, .int m, _, rfl, rfl, ?_⟩
    refine ⟨_, rfl, y, d2, rfl, dp_same s1 _ _ hd2, fun t2 m2 r H2 e s2 hr2 => ?_, fun e => by rw [e2] at e; cases e⟩
    obtain rfl : b = (t2, m2) := Option.some.inj (e2.symm.trans e)
    obtain ⟨p2, rfl, hp2⟩ := dp_rat_inv hr2
    refine ⟨p2, _, rfl, hp2, rfl, .int t2, _, rfl, .int m2, _, rfl, rfl, ?_⟩
    refine ⟨_, rfl, _, rfl, _, _, rfl, rfl, w1, _, rfl, _, rfl, _, _, rfl, rfl, w2, ?_⟩
    refine ⟨_, _, rfl, fun h => by rw [hg]; decide, fun _ p H3 s3 h3 => q p H3 (s1.trans (s2.trans s3)) (by rw [h3, nt_one pm hg, nb_one pm hg]), fun z => absurd z (Int.ne_of_gt pm)⟩
theorem ok_ratio_text {C : Addr} (GA : Kn P w K mg base (L2.CX P w) "as_ratio" 3 ["value"] (spAsRatio K C)) (GI : Kn P w K mg base CX0 "integer_text" 1 ["number"] spIntText) (D : Df K mg "ratio_text" s_ratio_text ["number"]) :
    Kn P w K mg base CX0 "ratio_text" 4 ["number"] (spRatText K) := by
  obtain ⟨f, fd, F, hm, hb⟩ := D
  obtain ⟨f_as_ratio, fd_as_ratio, G_as_ratio, m_as_ratio, k_as_ratio, b_as_ratio⟩ := GA
  obtain ⟨f_integer_text, fd_integer_text, G_integer_text, m_integer_text, k_integer_text, b_integer_text⟩ := GI
  refine ⟨f, fd, F.ok sc_ratio_text (fun vs H Q E h => ?_) (fun cdv A outer s H vs Q E hr h => ?_), hm, F.kp, hb⟩
  · obtain ⟨x, z, rfl, _⟩ := h
    rfl
  · obtain ⟨x, z, rfl, hx, z1, z2, q⟩ := h
    have rz := hx.red
    refine ⟨_, (pss_cons (ps_asg (pe_call G_as_ratio (hr.mono (by omega)) rfl m_as_ratio k_as_ratio b_as_ratio .nil passL (pa_cons (pv 0) pa_nil)) (pg_tup (by rfl) (pgs_cons (pg_name (i := 1) sc_ratio_text.nd rfl (Or.inl rfl)) (pgs_cons (pg_name (i := 2) sc_ratio_text.nd rfl (Or.inl rfl)) pgs_nil))))
      (pss_cons (ps_if (pt_cmpR op_eq (pv 2) pe_int (nomark _)) (pss_one (ps_ret (pe_call G_integer_text (hr.mono (by omega)) rfl m_integer_text k_integer_text b_integer_text .nil pass0 (pa_cons (pv 1) pa_nil)))) pss_nil)
      (pss_one (ps_ret (pe_op op_add_str (pe_op op_add_str (pe_call G_integer_text (hr.mono (by omega)) rfl m_integer_text k_integer_text b_integer_text .nil pass0 (pa_cons (pv 1) pa_nil)) pe_str) (pe_call G_integer_text (hr.mono (by omega)) rfl m_integer_text k_integer_text b_integer_text .nil pass0 (pa_cons (pv 2) pa_nil))))))), ?_⟩
    obtain ⟨d1, hd1, e1⟩ := hx
    refine ⟨_, rfl, x, d1, rfl, hd1, fun t m r H1 e s1 hr1 => ?_, fun e => by rw [e1] at e; cases e⟩
    obtain rfl : z = (t, m) := Option.some.inj (e1.symm.trans e)
    obtain ⟨p1, rfl, hp1⟩ := dp_rat_inv hr1
    refine ⟨p1, _, rfl, hp1, rfl, .int t, _, rfl, .int m, _, rfl, rfl, ?_⟩
    refine ⟨_, rfl, rfl, _, rfl, ?_⟩
    refine ite2 (fun c => ?_) (fun c => ?_)
    · have e : m = 1 := by
        have z := of_decide_eq_true c
        injection z
      refine ⟨_, rfl, t, rfl, z1, fun H2 s2 => ?_⟩
      have e2 : ratL (t, m) = intL t := if_pos e
      rw [← e2]
      exact q H2 (s1.trans s2)
    · have e : m ≠ 1 := fun z => c (by rw [z]; rfl)
      refine ⟨_, rfl, t, rfl, z1, fun H2 s2 => ?_⟩
      have lt1 : (intL t).length ≤ 5001 := intL_len z1
      have lt2 : (intL m).length ≤ 5001 := intL_len z2
      have es : SX.S (intL t) ++ Str.ofString "/" = SX.S (intL t ++ [47]) := by rw [show Str.ofString "/" = SX.S [47] by decide +kernel, SX.S_cat]
      refine ⟨_, _, rfl, rfl, ?_, _, rfl, m, rfl, z2, fun H3 s3 => ⟨_, _, rfl, rfl, ?_, ?_⟩⟩
      · rw [SX.S_len, show (Str.ofString "/").length = 1 by decide +kernel]
        exact Nat.le_trans (show (intL t).length + 1 ≤ 6000 by omega) (by decide)
      · rw [es, SX.S_len, SX.S_len, List.length_append]
        exact Nat.le_trans (show (intL t).length + 1 + (intL m).length ≤ 12000 by omega) (by decide)
      · have e2 : SX.S (intL t) ++ Str.ofString "/" ++ SX.S (intL m) = SX.S (ratL (t, m)) := by
          rw [es, SX.S_cat]
          show _ = SX.S (if m = 1 then intL t else intL t ++ 47 :: intL m)
          rw [if_neg e, List.append_assoc]
          rfl
        rw [e2]
        exact q H3 (s1.trans (s2.trans s3))
theorem ok_errinitT {x : Str} {C f : Addr} {fd : FuncData} (F : Fun K "__init__" x s_InvalidText_init f fd) (ox : OexC K C) (no : PySem.W.findIn K (.ref C) "text" = some none) : FnOk P w K mg base CX0 1 f fd ["self", "text"] (spErrInit C "text") := by
  refine F.ok sc_InvalidText_init (fun vs H Q E h => ?_) (fun cdv A outer s H vs Q E hr h => ?_)
  · obtain ⟨e, v, rfl, _⟩ := h
    rfl
  · obtain ⟨e, v, rfl, he, q⟩ := h
    refine ⟨_, pss_one (ps_ost (pv 0) (pv 1)), ?_⟩
    exact ⟨_, rfl, _, rfl, e, C, rfl, ox, no, .inl ⟨he, fun dx h1 h2 => q dx h1 h2⟩⟩
theorem ok_read_ratio {C Cz : Addr} (T : Bt mg) (Ti : ErrF P w K mg base "InvalidText" "text" C) (GD : Kn P w K mg base CX0 "are_digits" 1 ["text"] spAreDigits) (GN : Kn P w K mg base CX0 "read_digits" 1 ["digits"] spReadDigits)
    (GR : Kn1 P w K mg base (L2.CX P w) "ratio" 1 ["top", "bottom"] (spRatio Cz)) (D : Df K mg "read_ratio" s_read_ratio ["text"]) :
    Kn P w K mg base (L2.CX P w) "read_ratio" 3 ["text"] (spReadRat C) := by
  obtain ⟨f, fd, F, hm, hb⟩ := D
  obtain ⟨f_are_digits, fd_are_digits, G_are_digits, m_are_digits, k_are_digits, b_are_digits⟩ := GD
  obtain ⟨f_read_digits, fd_read_digits, G_read_digits, m_read_digits, k_read_digits, b_read_digits⟩ := GN
  obtain ⟨f_ratio, fd_ratio, G_ratio, m_ratio, k_ratio, b_ratio, _⟩ := GR
  obtain ⟨fI, fdI, iC, tI, F1, b1⟩ := Ti.ini
  refine ⟨f, fd, F.okX sc_read_ratio (fun vs H Q E h => ?_) (fun cdv A outer s H vs Q E hr h => ?_), hm, F.kp, hb⟩
  · obtain ⟨l, rfl, _⟩ := h
    rfl
  · obtain ⟨l, rfl, ⟨hlen, hg⟩, q, qe⟩ := h
    refine ⟨_, (pss_cons (ps_set (i := 1) sc_read_ratio.nd rfl (Or.inl rfl) (pe_bm PySem.F.plainAttrs_str PySem.F.slot_str_removeprefix PySem.F.type_str_removeprefix mt_removeprefix (pv 0) (pa_cons pe_str pa_nil)))
      (C8.pss_cut (ps_set (i := 2) sc_read_ratio.nd rfl (Or.inl rfl) (pe_ifExp (pt_cmpR op_in_str pe_str (pv 1) (by rfl)) pe_str pe_str))
      (pss_cons (ps_asg (pe_bm PySem.F.plainAttrs_str PySem.F.slot_str_partition PySem.F.type_str_partition mt_partition (pv 1) (pa_cons (pv 2) pa_nil)) (pg_tup (by rfl) (pgs_cons (pg_name (i := 3) sc_read_ratio.nd rfl (Or.inl rfl)) (pgs_cons (pg_name (i := 4) sc_read_ratio.nd rfl (Or.inl rfl)) (pgs_cons (pg_name (i := 5) sc_read_ratio.nd rfl (Or.inl rfl)) pgs_nil)))))
      (pss_cons (ps_if (PW.pt (pw_or (pt_not (pt_val (pe_call G_are_digits (hr.mono (by omega)) rfl m_are_digits k_are_digits b_are_digits .nil pass0 (pa_cons (pv 3) pa_nil)))) (pw_or1 (PW.pt (pw_and (pt_cmpR op_ne (pv 4) pe_str (nomark _)) (pw_and1 (pt_not (pt_val (pe_call G_are_digits (hr.mono (by omega)) rfl m_are_digits k_are_digits b_are_digits .nil pass0 (pa_cons (pv 5) pa_nil)))))))))) (pss_one (ps_raise rfl (takes_of rfl rfl rfl rfl) (pmk_oex Ti.ox iC tI F1 (hr.mono (by omega)) b1 .nil pass0 rfl Ti.gC (pa_cons (pv 0) pa_nil)))) pss_nil)
      (C8.pss_cut (ps_if (pt_cmpR op_eq (pv 4) pe_str (nomark _)) (pss_one (ps_par (i := 6) (j := 7) (by rfl) sc_read_ratio.nd rfl rfl (by decide) rfl rfl (pa_cons (pe_call G_read_digits (hr.mono (by omega)) rfl m_read_digits k_read_digits b_read_digits .nil pass0 (pa_cons (pv 3) pa_nil)) (pa_cons (pe_call G_read_digits (hr.mono (by omega)) rfl m_read_digits k_read_digits b_read_digits .nil pass0 (pa_cons (pv 5) pa_nil)) pa_nil)) (by rfl))) (pss_one (ps_par (i := 6) (j := 7) (by rfl) sc_read_ratio.nd rfl rfl (by decide) rfl rfl (pa_cons (pe_call G_read_digits (hr.mono (by omega)) rfl m_read_digits k_read_digits b_read_digits .nil pass0 (pa_cons (pe_op op_add_str (pv 3) (pv 5)) pa_nil)) (pa_cons (pe_call G_read_digits (hr.mono (by omega)) rfl m_read_digits k_read_digits b_read_digits .nil pass0 (pa_cons (pe_op op_add_str pe_str (pe_op op_mul_strI pe_str (pe_callB call_len_str (by rfl) T.n_len (by decide +kernel) (pa_cons (pv 5) pa_nil)))) pa_nil)) pa_nil)) (by rfl))))
      (pss_cons (ps_if (pt_cmpR op_eq (pv 7) pe_int (nomark _)) (pss_one (ps_raise rfl (takes_of rfl rfl rfl rfl) (pmk_oex Ti.ox iC tI F1 (hr.mono (by omega)) b1 .nil pass0 rfl Ti.gC (pa_cons (pv 0) pa_nil)))) pss_nil)
      (pss_one (ps_ret (pe_call G_ratio (hr.mono (by omega)) rfl m_ratio k_ratio b_ratio .nil (passes_call (takes_of rfl rfl rfl rfl) (fun _ _ _ _ h => h)) (pa_cons (pe_ifExp (pt_val (pe_bm PySem.F.plainAttrs_str PySem.F.slot_str_startswith PySem.F.type_str_startswith mt_startswith (pv 0) (pa_cons pe_str pa_nil))) (pe_un un_neg (pv 6)) (pv 6)) (pa_cons (pv 7) pa_nil))))))))))), ?_⟩
    have hul : (unsg l).length ≤ l.length := by
      unfold unsg
      split
      · exact Nat.le_succ _
      · exact Nat.le_refl _
    have fit : ∀ {n : Nat}, n ≤ 5000 → n ≤ sizeLine := fun h => Nat.le_trans h (by decide)
    refine ⟨_, rfl, rfl, _, _, rfl, rfl, (by rw [SX.S_len]; exact fit (by omega)), ?_⟩
    have slash : Str.ofString "/" = SX.S [47] := by decide +kernel
    have dot : Str.ofString "." = SX.S [46] := by decide +kernel
    have emp : Str.ofString "" = SX.S [] := by decide +kernel
    obtain ⟨u, hu⟩ : ∃ u, unsg l = u := ⟨_, rfl⟩
    have hpre : Txt.removeprefix (SX.S l) (Str.ofString "-") = SX.S u := by rw [← hu]; exact prefixS l
    rw [hu] at hul
    have hread : readL l = readU l u := by unfold readL; rw [hu]
    refine ⟨fun σ H2 => H = H2 ∧ ∃ (us ms : Str) (c : Nat), σ = [some (tx l), some (.str us), some (.str ms), none, none, none, none, none] ∧ us = SX.S u ∧ ms = SX.S [c] ∧ ((c = 47 ∧ 47 ∈ u) ∨ (c = 46 ∧ 47 ∉ u)), ?_, ?_⟩
    · refine ⟨_, rfl, _, _, rfl, rfl, _, rfl, ?_⟩
      have ein : (!(Builtin.Str.occurrences (Txt.removeprefix (SX.S l) (Str.ofString "-")) (Str.ofString "/") 0 (Txt.removeprefix (SX.S l) (Str.ofString "-")).length 1).isEmpty) = decide (47 ∈ u) := by
        rw [hpre, slash]
        exact SX.in_one u 47
      refine ite2 (fun c => ?_) (fun c => ?_)
      · have c1 := ein.symm.trans c
        exact ⟨rfl, _, _, 47, rfl, hpre, slash, .inl ⟨rfl, of_decide_eq_true c1⟩⟩
      · have c1 := ein.symm.trans (Bool.eq_false_iff.mpr c)
        exact ⟨rfl, _, _, 46, rfl, hpre, dot, .inr ⟨rfl, of_decide_eq_false c1⟩⟩
    · rintro σ H2 ⟨rfl, us, ms, c, rfl, rfl, rfl, hc⟩
      have c46 : c = 46 ∨ c = 47 := by rcases hc with h | h; exact .inr h.1; exact .inl h.1
      have cD : isD c = false := by rcases c46 with rfl | rfl <;> rfl
      have hpart : ∃ a fo b, Txt.partition (SX.S u) (SX.S [c]) = (SX.S a, SX.S fo, SX.S b) ∧ ((fo = [c] ∧ u = a ++ c :: b ∧ c ∉ a) ∨ (fo = [] ∧ a = u ∧ b = [] ∧ c ∉ u)) := by
        by_cases hm : c ∈ u
        · obtain ⟨a, b, e, hn⟩ := List.eq_append_cons_of_mem hm
          refine ⟨a, [c], b, SX.partition_some (List.cons_ne_nil _ _) ?_, .inl ⟨rfl, e, hn⟩⟩
          rw [e]
          exact SX.par_head (sep := []) b hn
        · exact ⟨u, [], [], SX.partition_none (List.cons_ne_nil _ _) (SX.par_head_none (sep := []) hm), .inr ⟨rfl, rfl, rfl, hm⟩⟩
      obtain ⟨a, fo, b, hP, hcase⟩ := hpart
      refine ⟨_, rfl, rfl, _, rfl, _, _, rfl, rfl, (by rw [SX.S_len]; rfl), (by rw [SX.S_len]; exact fit (by omega)), ?_⟩
      rw [hP]
      intro p np
      have s1 := same_new np (.tup [V.str (SX.S a), V.str (SX.S fo), V.str (SX.S b)])
      refine ⟨_, _, rfl, SqT.of upd_same, rfl, ?_⟩
      refine ⟨_, _, rfl, _, _, rfl, _, _, rfl, rfl, ?_⟩
      refine ⟨_, rfl, a, rfl, _, rfl, ?_⟩
      have hal : a.length ≤ u.length := by
        rcases hcase with ⟨_, e, _⟩ | ⟨_, e, _⟩
        · rw [e, List.length_append]; omega
        · rw [e]; exact Nat.le_refl _
      have hbl : a.length + b.length ≤ u.length := by
        rcases hcase with ⟨_, e, _⟩ | ⟨_, e, e2, _⟩
        · rw [e, List.length_append, List.length_cons]; omega
        · rw [e, e2]; exact Nat.le_refl _
      refine ite2 (fun c1 => ?_) (fun c1 => ?_)
      · have hna : digs a = false := by
          have z : (!digs a) = true := c1
          rw [Bool.not_eq_true'] at z
          exact z
        have hno : readL l = none := by
          rw [hread]
          rcases hcase with ⟨_, e, hn⟩ | ⟨_, e, _, hn⟩
          · exact readU_bad e hn c46 (fun z => by rw [hna] at z; exact absurd z.1 Bool.false_ne_true)
          · rw [e] at hna
            have h47 : 47 ∉ u := by rcases hc with h | h; rw [h.1] at hn; exact hn; exact h.2
            have h46 : 46 ∉ u := by rcases hc with h | h; rw [h.1] at hn; exact absurd h.2 hn; rw [h.1] at hn; exact hn
            exact readU_nomark h46 h47 hna
        refine ⟨_, rfl, (by show 1 ≤ 1000; decide), fun ea na => ?_⟩
        refine ⟨ea, _, rfl, upd_same, fun dx hdx nx => ⟨rfl, dx, [("text", tx l)], upd_same, ?_, ?_, ?_⟩⟩
        · rw [upd_ne nx, upd_same]
        · rw [upd_ne nx] at hdx
          exact hdx
        · rw [upd_ne nx] at hdx
          refine qe hno dx _ (s1.trans fun b o hbo => ?_) upd_same
          have n1 : b ≠ ea := ne_of_none hbo na
          have n2 : b ≠ dx := ne_of_none hbo hdx
          rw [upd_ne n2, del_ne n1, upd_ne n1, upd_ne n2, upd_ne n1]
          exact hbo
      · have hda : digs a = true := by
          cases z : digs a with
          | true => rfl
          | false => exact absurd (show (!digs a) = true by rw [z]; rfl) c1
        have ada := (digs_iff.mp hda).2
        have one : Str.ofString "1" = SX.S [49] := by decide +kernel
        have la : a.length ≤ 5000 := by omega
        have lb : b.length ≤ 5000 := by omega
        have elseP : ∀ (db : NumText.AllDigits b) (lb2 : b.length ≤ 4000), NumText.AllDigits (a ++ b) ∧ (a ++ b).length ≤ 5000 ∧ NumText.AllDigits (49 :: repL b.length [48]) ∧ (49 :: repL b.length [48]).length ≤ 5000 := fun db lb2 => by
          refine ⟨ad_app.mpr ⟨ada, db⟩, by rw [List.length_append]; omega, ?_, ?_⟩
          · intro x hx
            rcases List.mem_cons.mp hx with rfl | hx
            · decide
            · rw [rep_zero] at hx
              rw [(List.mem_replicate.mp hx).2]
              decide
          · rw [List.length_cons, rep_zero, List.length_replicate]
            omega
        rcases hcase with ⟨rfl, e, hn⟩ | ⟨rfl, e, rfl, hn⟩
        · refine ⟨_, rfl, rfl, _, rfl, ?_⟩
          refine ite2 (fun c2 => ?_) (fun c2 => ?_)
          · refine ⟨_, rfl, b, rfl, _, rfl, ?_⟩
            refine ite2 (fun c3 => ?_) (fun c3 => ?_)
            · have hnb : digs b = false := by
                have z : (!digs b) = true := c3
                rw [Bool.not_eq_true'] at z
                exact z
              have hno : readL l = none := by
                rw [hread]
                exact readU_bad e hn c46 (fun z => by rw [hnb] at z; exact absurd z.2 Bool.false_ne_true)
              refine ⟨_, rfl, (by show 1 ≤ 1000; decide), fun ea na => ?_⟩
              refine ⟨ea, _, rfl, upd_same, fun dx hdx nx => ⟨rfl, dx, [("text", tx l)], upd_same, ?_, ?_, ?_⟩⟩
              · rw [upd_ne nx, upd_same]
              · rw [upd_ne nx] at hdx
                exact hdx
              · rw [upd_ne nx] at hdx
                refine qe hno dx _ (s1.trans fun b o hbo => ?_) upd_same
                have n1 : b ≠ ea := ne_of_none hbo na
                have n2 : b ≠ dx := ne_of_none hbo hdx
                rw [upd_ne n2, del_ne n1, upd_ne n1, upd_ne n2, upd_ne n1]
                exact hbo
            · have hdb : digs b = true := by
                cases z : digs b with
                | true => rfl
                | false => exact absurd (show (!digs b) = true by rw [z]; rfl) c3
              have adb := (digs_iff.mp hdb).2
              have hrd := readU_mark (l := l) e ada cD
              rw [if_pos ⟨hda, hdb⟩] at hrd
              refine ⟨fun σ H2 => H2 = upd H p (.tup [V.str (SX.S a), V.str (SX.S [c]), V.str (SX.S b)]) ∧ ∃ (x1 x2 x3 x4 x5 : Option V) (t m : Nat), σ = [some (tx l), x1, x2, x3, x4, x5, some (.int (t : Int)), some (.int (m : Int))] ∧ readL l = (if m = 0 then none else some (nrm (sgnd l t) (m : Int))) ∧ (m ≠ 0 → (Nat.gcd t m).log2 < 9000), ?_, ?_⟩
              · refine ⟨_, rfl, rfl, _, rfl, ?_⟩
                refine ite2 (fun c4 => ?_) (fun c4 => ?_)
                · have ec : c = 47 := by
                    have z := of_decide_eq_true c4
                    injection z with z
                    rw [slash] at z
                    exact (List.cons.inj (SX.S_inj z)).1
                  subst ec
                  refine ⟨_, rfl, a, rfl, ada, la, _, rfl, b, rfl, adb, lb, _, _, rfl, rfl, _, _, _, _, _, _, _, rfl, ?_, fun hm => (hg a b ada adb).1 (hu.trans e) hm⟩
                  rw [hread, hrd]
                  rfl
                · have ec : c = 46 := by
                    rcases c46 with h | h
                    · exact h
                    · rw [h, slash] at c4
                      exact absurd (decide_eq_true rfl) c4
                  subst ec
                  have lb2 := (hg a b ada adb).2 (hu.trans e)
                  obtain ⟨g1, g2, g3, g4⟩ := elseP adb (by omega)
                  refine ⟨_, rfl, _, rfl, _, _, rfl, rfl, (by rw [SX.S_len, SX.S_len]; exact fit (by omega)), a ++ b, (by rw [SX.S_cat]; rfl), g1, g2, _, rfl, _, rfl, (by rw [SX.S_len]; exact fit (by omega)), [48], List.length b, (congrArg V.str zero_S), (by rw [SX.S_len]), (by omega), (by decide), _, _, rfl, rfl, ?_, 49 :: repL (List.length b) [48], (by rw [one, SX.S_cat]; rfl), g3, g4, _, _, rfl, rfl, _, _, _, _, _, _, _, rfl, ?_, fun hm => ?_⟩
                  · rw [one, SX.S_len, SX.S_len, rep_zero, List.length_replicate]
                    exact fit (show 1 + _ ≤ 5000 by omega)
                  · rw [dv_pow, if_neg (Nat.ne_of_gt (Nat.pow_pos (by decide))), hread, hrd]
                    rfl
                  · rw [dv_pow] at hm ⊢
                    exact log_gcd hm (pow10_2000 lb2)
              · rintro σ H2 ⟨rfl, x1, x2, x3, x4, x5, t, m, rfl, hrl, hgm⟩
                refine ⟨_, rfl, rfl, _, rfl, ?_⟩
                refine ite2 (fun c5 => ?_) (fun c5 => ?_)
                · have m0 : m = 0 := by
                    have z := of_decide_eq_true c5
                    injection z with z
                    omega
                  have hno : readL l = none := by rw [hrl, if_pos m0]
                  refine ⟨_, rfl, (by show 1 ≤ 1000; decide), fun ea na => ?_⟩
                  refine ⟨ea, _, rfl, upd_same, fun dx hdx nx => ⟨rfl, dx, [("text", tx l)], upd_same, ?_, ?_, ?_⟩⟩
                  · rw [upd_ne nx, upd_same]
                  · rw [upd_ne nx] at hdx
                    exact hdx
                  · rw [upd_ne nx] at hdx
                    refine qe hno dx _ (s1.trans fun b o hbo => ?_) upd_same
                    have n1 : b ≠ ea := ne_of_none hbo na
                    have n2 : b ≠ dx := ne_of_none hbo hdx
                    rw [upd_ne n2, del_ne n1, upd_ne n1, upd_ne n2, upd_ne n1]
                    exact hbo
                · have m0 : m ≠ 0 := fun z => c5 (by rw [z]; rfl)
                  rw [if_neg m0] at hrl
                  have g0 := hgm m0
                  refine ⟨_, rfl, rfl, _, _, rfl, rfl, _, rfl, ?_⟩
                  have es := startsS l
                  refine ite2 (fun c6 => ?_) (fun c6 => ?_)
                  · have en : sgnd l t = -(t : Int) := if_pos (es.symm.trans c6)
                    rw [en] at hrl
                    refine ⟨_, rfl, _, rfl, _, rfl, _, _, rfl, fun _ => ?_, fun _ p2 H3 s3 h3 => ?_, fun z => absurd z (by omega)⟩
                    · show (Nat.gcd (-(t : Int)).natAbs (m : Int).natAbs).log2 < 9000
                      rw [Int.natAbs_neg, Int.natAbs_natCast, Int.natAbs_natCast]
                      exact g0
                    · exact q _ p2 H3 hrl (s1.trans s3) h3
                  · have en : sgnd l t = (t : Int) := if_neg (fun z => c6 (es.trans z))
                    rw [en] at hrl
                    refine ⟨_, rfl, _, rfl, _, _, rfl, fun _ => ?_, fun _ p2 H3 s3 h3 => ?_, fun z => absurd z (by omega)⟩
                    · show (Nat.gcd (t : Int).natAbs (m : Int).natAbs).log2 < 9000
                      rw [Int.natAbs_natCast, Int.natAbs_natCast]
                      exact g0
                    · exact q _ p2 H3 hrl (s1.trans s3) h3
          · exfalso
            refine c2 ?_
            rw [Bool.not_eq_true', decide_eq_false_iff_not, emp]
            intro z
            injection z with z
            exact absurd (SX.S_inj z) (List.cons_ne_nil _ _)
        · refine ⟨_, rfl, rfl, _, rfl, ?_⟩
          refine ite2 (fun c2 => ?_) (fun _ => ?_)
          · exfalso
            rw [Bool.not_eq_true', decide_eq_false_iff_not, emp] at c2
            exact c2 rfl
          · have hdu : digs u = true := by rw [← e]; exact hda
            refine ⟨fun σ H2 => H2 = upd H p (.tup [V.str (SX.S a), V.str (SX.S []), V.str (SX.S [])]) ∧ ∃ (x1 x2 x3 x4 x5 : Option V) (t m : Nat), σ = [some (tx l), x1, x2, x3, x4, x5, some (.int (t : Int)), some (.int (m : Int))] ∧ readL l = (if m = 0 then none else some (nrm (sgnd l t) (m : Int))) ∧ (m ≠ 0 → (Nat.gcd t m).log2 < 9000), ?_, ?_⟩
            · refine ⟨_, rfl, rfl, _, rfl, ?_⟩
              refine ite2 (fun c4 => ?_) (fun c4 => ?_)
              · exfalso
                have z := of_decide_eq_true c4
                injection z with z
                rw [slash] at z
                exact absurd (SX.S_inj z).symm (List.cons_ne_nil _ _)
              · have lb2 : ([] : List Nat).length ≤ 2000 := Nat.zero_le _
                have adb : NumText.AllDigits [] := fun x hx => by cases hx
                obtain ⟨g1, g2, g3, g4⟩ := elseP adb (by omega)
                refine ⟨_, rfl, _, rfl, _, _, rfl, rfl, (by rw [SX.S_len, SX.S_len]; exact fit (by omega)), a ++ ([] : List Nat), (by rw [SX.S_cat]; rfl), g1, g2, _, rfl, _, rfl, (by rw [SX.S_len]; exact fit (by omega)), [48], List.length ([] : List Nat), (congrArg V.str zero_S), (by rw [SX.S_len]), (by omega), (by decide), _, _, rfl, rfl, ?_, 49 :: repL (List.length ([] : List Nat)) [48], (by rw [one, SX.S_cat]; rfl), g3, g4, _, _, rfl, rfl, _, _, _, _, _, _, _, rfl, ?_, fun hm => ?_⟩
                · rw [one, SX.S_len, SX.S_len, rep_zero, List.length_replicate]
                  exact fit (show 1 + _ ≤ 5000 by omega)
                · rw [dv_pow, if_neg (Nat.ne_of_gt (Nat.pow_pos (by decide))), hread, readU_digs hdu, List.append_nil, e]
                  rfl
                · rw [dv_pow] at hm ⊢
                  exact log_gcd hm (pow10_2000 lb2)
            · rintro σ H2 ⟨rfl, x1, x2, x3, x4, x5, t, m, rfl, hrl, hgm⟩
              refine ⟨_, rfl, rfl, _, rfl, ?_⟩
              refine ite2 (fun c5 => ?_) (fun c5 => ?_)
              · have m0 : m = 0 := by
                  have z := of_decide_eq_true c5
                  injection z with z
                  omega
                have hno : readL l = none := by rw [hrl, if_pos m0]
                refine ⟨_, rfl, (by show 1 ≤ 1000; decide), fun ea na => ?_⟩
                refine ⟨ea, _, rfl, upd_same, fun dx hdx nx => ⟨rfl, dx, [("text", tx l)], upd_same, ?_, ?_, ?_⟩⟩
                · rw [upd_ne nx, upd_same]
                · rw [upd_ne nx] at hdx
                  exact hdx
                · rw [upd_ne nx] at hdx
                  refine qe hno dx _ (s1.trans fun b o hbo => ?_) upd_same
                  have n1 : b ≠ ea := ne_of_none hbo na
                  have n2 : b ≠ dx := ne_of_none hbo hdx
                  rw [upd_ne n2, del_ne n1, upd_ne n1, upd_ne n2, upd_ne n1]
                  exact hbo
              · have m0 : m ≠ 0 := fun z => c5 (by rw [z]; rfl)
                rw [if_neg m0] at hrl
                have g0 := hgm m0
                refine ⟨_, rfl, rfl, _, _, rfl, rfl, _, rfl, ?_⟩
                have es := startsS l
                refine ite2 (fun c6 => ?_) (fun c6 => ?_)
                · have en : sgnd l t = -(t : Int) := if_pos (es.symm.trans c6)
                  rw [en] at hrl
                  refine ⟨_, rfl, _, rfl, _, rfl, _, _, rfl, fun _ => ?_, fun _ p2 H3 s3 h3 => ?_, fun z => absurd z (by omega)⟩
                  · show (Nat.gcd (-(t : Int)).natAbs (m : Int).natAbs).log2 < 9000
                    rw [Int.natAbs_neg, Int.natAbs_natCast, Int.natAbs_natCast]
                    exact g0
                  · exact q _ p2 H3 hrl (s1.trans s3) h3
                · have en : sgnd l t = (t : Int) := if_neg (fun z => c6 (es.trans z))
                  rw [en] at hrl
                  refine ⟨_, rfl, _, rfl, _, _, rfl, fun _ => ?_, fun _ p2 H3 s3 h3 => ?_, fun z => absurd z (by omega)⟩
                  · show (Nat.gcd (t : Int).natAbs (m : Int).natAbs).log2 < 9000
                    rw [Int.natAbs_natCast, Int.natAbs_natCast]
                    exact g0
                  · exact q _ p2 H3 hrl (s1.trans s3) h3
end

/-! ### the law's drawn numbers -/
theorem But.new {H H' : Hp} {b g c p : Addr} {n : Nat} {o : HO} (B : Box H b g c n) (np : H p = none) (x : But b g (upd H p o) H') : H' p = some o := by
  obtain ⟨gs, cs, cur, m, B, _⟩ := B
  exact x p o upd_same (fun e => by rw [e, B.hb] at np; cases np) (fun e => by rw [e, B.hg] at np; cases np)
theorem But.after {H H' : Hp} {b g p : Addr} {o : HO} (np : H p = none) (x : But b g (upd H p o) H') : But b g H H' := (But.of (same_new np o)).trans x
theorem at_pick {H : Hp} {p : Addr} {xs : List V} {r k : Int} (_ : H p = some (.lst xs)) (r0 : 0 ≤ r) (r1 : r < k) (hk : (xs.length : Int) = k) : ∃ v, v ∈ xs ∧ atI xs r = some v := at_lt r0 (by omega)
theorem pow8000 (k : Nat) (h : k < 8000) : 2 ^ k < 2 ^ 8000 := Nat.pow_lt_pow_right (by decide) h
theorem pow8000' (j : Int) (k : Nat) (h : k < 8000) (h2 : j.natAbs < 2 ^ k) : j.natAbs < 2 ^ 8000 := Nat.lt_trans h2 (pow8000 k h)
/-- a drawn number: a new tuple in lowest terms -/
def spNum (cost : Nat) : Sp := fun vs H Q _ => ∃ (b g c : Addr) (n : Nat), vs = [.ref b] ∧ Box H b g c n ∧ n + cost < 1000000 ∧
  ∀ (p : Addr) (z : Int × Int) (H' : Hp), Red z → Sz 700 z → H' p = some (.tup [.int z.1, .int z.2]) → Box H' b g c (n + cost) → But b g H H' → Q (.ref p) H'
/-- a number as it is passed: the int where the bottom is 1, at times -/
def spGiven (K : PySem.W.Frag) : Sp := fun vs H Q _ => ∃ (b g c p : Addr) (n : Nat) (z : Int × Int), vs = [.ref b, .ref p] ∧ Box H b g c n ∧ n + 1 < 1000000 ∧ H p = some (.tup [.int z.1, .int z.2]) ∧ Red z ∧
  ∀ (v : V) (H' : Hp), Nv K (mk b g H') v z → Box H' b g c (n + 1) → But b g H H' → Q v H'
theorem red_one (t : Int) : Red (t, 1) := ⟨by show (0 : Int) < 1; decide, Int.gcd_one_right t⟩
theorem sz_of {z : Int × Int} {k : Nat} (h : Sz k z) (l : k ≤ 700) : Sz 700 z := h.mono l
section
variable {P : Program} {w : World} {K : PySem.W.Frag} {mg : Str → Option Value} {base : Heap}
theorem ok_number (GT : Kn P w K mg base CX0 "_law_take" 2 ["_law_box_here", "_law_size"] spTake) (GR : Kn P w K mg base CX0 "_law_ratio" 2 ["_law_top", "_law_bottom"] spLRatio) (D : Df K mg "_law_number" s_l_number ["_law_box_here"]) :
    Kn P w K mg base CX0 "_law_number" 3 ["_law_box_here"] (spNum 6) := by
  obtain ⟨f, fd, F, hm, hb⟩ := D
  obtain ⟨f_l_take, fd_l_take, G_l_take, m_l_take, k_l_take, b_l_take⟩ := GT
  obtain ⟨f_l_ratio, fd_l_ratio, G_l_ratio, m_l_ratio, k_l_ratio, b_l_ratio⟩ := GR
  refine ⟨f, fd, F.ok sc_l_number (fun vs H Q E h => ?_) (fun cdv A outer s H vs Q E hr h => ?_), hm, F.kp, hb⟩
  · obtain ⟨b, g, c, n, rfl, _⟩ := h
    rfl
  · obtain ⟨b, g, c, n, rfl, B, hn, q⟩ := h
    refine ⟨_, (pss_cons (ps_set (i := 1) sc_l_number.nd rfl (Or.inl rfl) (pe_call G_l_take (hr.mono (by omega)) rfl m_l_take k_l_take b_l_take .nil pass0 (pa_cons (pv 0) (pa_cons pe_int pa_nil))))
      (pss_cons (ps_if (pt_cmpR op_lt (pv 1) pe_int (nomark _)) (pss_one (ps_ret (pe_tup (pa_cons (pe_op op_sub (pe_call G_l_take (hr.mono (by omega)) rfl m_l_take k_l_take b_l_take .nil pass0 (pa_cons (pv 0) (pa_cons pe_int pa_nil))) pe_int) (pa_cons pe_int pa_nil))))) pss_nil)
      (pss_cons (ps_if (pt_cmpR op_lt (pv 1) pe_int (nomark _)) (pss_one (ps_ret (pe_call G_l_ratio (hr.mono (by omega)) rfl m_l_ratio k_l_ratio b_l_ratio .nil pass0 (pa_cons (pe_op op_sub (pe_call G_l_take (hr.mono (by omega)) rfl m_l_take k_l_take b_l_take .nil pass0 (pa_cons (pv 0) (pa_cons pe_int pa_nil))) pe_int) (pa_cons (pe_op op_add pe_int (pe_call G_l_take (hr.mono (by omega)) rfl m_l_take k_l_take b_l_take .nil pass0 (pa_cons (pv 0) (pa_cons pe_int pa_nil)))) pa_nil))))) pss_nil)
      (pss_cons (ps_set (i := 2) sc_l_number.nd rfl (Or.inl rfl) (pe_op op_mul (pe_call G_l_take (hr.mono (by omega)) rfl m_l_take k_l_take b_l_take .nil pass0 (pa_cons (pv 0) (pa_cons (pe_op op_powB pe_int pe_int) pa_nil))) (pe_ix ix_list (pe_lst (pa_cons pe_int (pa_cons (pe_un un_neg pe_int) pa_nil))) (pe_call G_l_take (hr.mono (by omega)) rfl m_l_take k_l_take b_l_take .nil pass0 (pa_cons (pv 0) (pa_cons pe_int pa_nil))) (fun _ _ => rfl))))
      (pss_one (ps_ret (pe_call G_l_ratio (hr.mono (by omega)) rfl m_l_ratio k_l_ratio b_l_ratio .nil pass0 (pa_cons (pv 2) (pa_cons (pe_ix ix_list (pe_lst (pa_cons pe_int (pa_cons (pe_op op_add pe_int (pe_call G_l_take (hr.mono (by omega)) rfl m_l_take k_l_take b_l_take .nil pass0 (pa_cons (pv 0) (pa_cons (pe_op op_sub (pe_op op_powB pe_int pe_int) pe_int) pa_nil)))) pa_nil))) (pe_call G_l_take (hr.mono (by omega)) rfl m_l_take k_l_take b_l_take .nil pass0 (pa_cons (pv 0) (pa_cons pe_int pa_nil))) (fun _ _ => rfl)) pa_nil))))))))), ?_⟩
    refine ⟨_, rfl, b, g, c, n, 10, rfl, B, by omega, by decide, pow8000' 10 4 (by decide) (by decide), fun way H1 w0 w1 B1 b1 => ?_⟩
    refine ⟨_, rfl, _, _, rfl, rfl, _, rfl, ?_⟩
    refine ite2 (fun _ => ?_) (fun _ => ?_)
    · refine ⟨_, rfl, b, g, c, _, 21, rfl, B1, by omega, by decide, pow8000' 21 5 (by decide) (by decide), fun x H2 x0 x1 B2 b2 => ?_⟩
      refine ⟨_, _, rfl, rfl, (by show 2 ≤ sizeLine; decide), fun p np => ?_⟩
      exact q p (x - 10, 1) _ (red_one _) (sz_of (k := 5) ⟨by show (x - 10).natAbs < 32; omega, by show (1 : Int).natAbs < 32; decide⟩ (by decide)) upd_same ((B2.same (same_new np _)).mono (by omega)) ((b1.trans b2).trans (But.of (same_new np _)))
    refine ⟨_, rfl, _, _, rfl, rfl, _, rfl, ?_⟩
    refine ite2 (fun _ => ?_) (fun _ => ?_)
    · refine ⟨_, rfl, b, g, c, _, 61, rfl, B1, by omega, by decide, pow8000' 61 6 (by decide) (by decide), fun x H2 x0 x1 B2 b2 => ?_⟩
      refine ⟨_, _, rfl, rfl, _, rfl, b, g, c, _, 12, rfl, B2, by omega, by decide, pow8000' 12 4 (by decide) (by decide), fun y H3 y0 y1 B3 b3 => ?_⟩
      refine ⟨_, _, rfl, rfl, x - 30, 1 + y, rfl, by omega, pow8000' (1 + y) 4 (by decide) (by show (1 + y).natAbs < 16; omega), fun p H4 s4 h4 => ?_⟩
      exact q p (nrm (x - 30) (1 + y)) _ (nrm_red (by omega)) (sz_of (k := 6) (sz_nrm (by show (x - 30).natAbs < 64; omega) (by show (1 + y).natAbs < 64; omega)) (by decide)) h4 ((B3.same s4).mono (by omega)) (((b1.trans b2).trans b3).trans (But.of s4))
    refine ⟨_, rfl, _, _, rfl, rfl, ⟨by decide, by decide +kernel⟩, b, g, c, _, _, rfl, B1, by omega, (by show (0 : Int) < 10 ^ 12; decide), pow8000' (10 ^ 12) 40 (by decide) (by decide), fun x H2 x0 x1 B2 b2 => ?_⟩
    have x2 : x < 10 ^ 12 := x1
    refine ⟨_, rfl, ?_⟩
    refine ⟨(by show 2 ≤ sizeLine; decide), fun p3 np3 => ⟨_, rfl, b, g, c, _, 2, rfl, B2.same (same_new np3 _), (by omega), (by decide), (by decide), fun r3 H3 r03 r13 B3 bt3 => ?_⟩⟩
    have hp3 := But.new B2 np3 bt3
    have bu3 := But.after np3 bt3
    obtain ⟨v3, hv3, hat3⟩ := at_pick hp3 r03 r13 rfl
    refine ⟨p3, _, r3, v3, rfl, rfl, SqL.of hp3, hat3, ?_⟩
    have hw : ∃ y : Int, v3 = .int y ∧ (y = 1 ∨ y = -1) := by
      simp only [List.mem_cons, List.not_mem_nil, or_false] at hv3
      rcases hv3 with e | e
      · exact ⟨_, e, .inl rfl⟩
      · exact ⟨_, e, .inr rfl⟩
    obtain ⟨y, rfl, hy⟩ := hw
    refine ⟨_, _, rfl, rfl, .inr ⟨by omega, by omega⟩, ?_⟩
    have hxy : (x * y).natAbs < 2 ^ 40 := by
      rcases hy with rfl | rfl
      · rw [Int.mul_one]
        omega
      · rw [Int.mul_neg, Int.mul_one]
        omega
    refine ⟨_, rfl, _, rfl, _, _, rfl, rfl, ⟨by decide, by decide +kernel⟩, _, _, rfl, rfl, b, g, c, _, _, rfl, B3, by omega, (by show (0 : Int) < 10 ^ 12 - 1; decide), pow8000' (10 ^ 12 - 1) 40 (by decide) (by decide), fun u H4 u0 u1 B4 b4 => ?_⟩
    have u2 : u < 10 ^ 12 - 1 := u1
    refine ⟨_, _, rfl, rfl, ?_⟩
    refine ⟨(by show 2 ≤ sizeLine; decide), fun p5 np5 => ⟨_, rfl, b, g, c, _, 2, rfl, B4.same (same_new np5 _), (by omega), (by decide), (by decide), fun r5 H5 r05 r15 B5 bt5 => ?_⟩⟩
    have hp5 := But.new B4 np5 bt5
    have bu5 := But.after np5 bt5
    obtain ⟨v5, hv5, hat5⟩ := at_pick hp5 r05 r15 rfl
    refine ⟨p5, _, r5, v5, rfl, rfl, SqL.of hp5, hat5, ?_⟩
    have hm : ∃ y : Int, v5 = .int y ∧ 0 < y ∧ y.natAbs < 2 ^ 40 := by
      simp only [List.mem_cons, List.not_mem_nil, or_false] at hv5
      rcases hv5 with e | e
      · exact ⟨_, e, by decide, by decide⟩
      · exact ⟨_, e, by show (0 : Int) < 1 + u; omega, by show (1 + u).natAbs < 2 ^ 40; omega⟩
    obtain ⟨m, rfl, m0, mB⟩ := hm
    refine ⟨x * y, m, rfl, by omega, pow8000' m 40 (by decide) mB, fun p H6 s6 h6 => ?_⟩
    exact q p (nrm (x * y) m) _ (nrm_red (by omega)) (sz_of (k := 40) (sz_nrm hxy mB) (by decide)) h6 ((B5.same s6).mono (by omega)) (((((b1.trans b2).trans bu3).trans b4).trans bu5).trans (But.of s6))
theorem ok_given (GT : Kn P w K mg base CX0 "_law_take" 2 ["_law_box_here", "_law_size"] spTake) (D : Df K mg "_law_given" s_l_given ["_law_box_here", "_law_number_here"]) :
    Kn P w K mg base CX0 "_law_given" 3 ["_law_box_here", "_law_number_here"] (spGiven K) := by
  obtain ⟨f, fd, F, hm, hb⟩ := D
  obtain ⟨f_l_take, fd_l_take, G_l_take, m_l_take, k_l_take, b_l_take⟩ := GT
  refine ⟨f, fd, F.ok sc_l_given (fun vs H Q E h => ?_) (fun cdv A outer s H vs Q E hr h => ?_), hm, F.kp, hb⟩
  · obtain ⟨b, g, c, p, n, z, rfl, _⟩ := h
    rfl
  · obtain ⟨b, g, c, p, n, z, rfl, B, hn, hp, rz, q⟩ := h
    refine ⟨_, (pss_cons (ps_if (PW.pt (pw_and (pt_cmpR op_eq (pe_ix ix_tup (pv 1) pe_int (fun _ _ => rfl)) pe_int (nomark _)) (pw_and1 (pt_cmpR op_eq (pe_call G_l_take (hr.mono (by omega)) rfl m_l_take k_l_take b_l_take .nil pass0 (pa_cons (pv 0) (pa_cons pe_int pa_nil))) pe_int (nomark _))))) (pss_one (ps_ret (pe_ix ix_tup (pv 1) pe_int (fun _ _ => rfl)))) pss_nil)
      (pss_one (ps_ret (pv 1)))), ?_⟩
    refine ⟨_, rfl, p, _, _, .int z.2, rfl, rfl, SqT.of hp, rfl, rfl, _, rfl, ?_⟩
    refine ite2 (fun h1 => ?_) (fun _ => ?_)
    · have e : z.2 = 1 := by
        have y := of_decide_eq_true h1
        injection y
      refine ⟨_, rfl, b, g, c, n, 2, rfl, B, by omega, by decide, pow8000' 2 2 (by decide) (by decide), fun x H1 x0 x1 B1 b1 => ?_⟩
      have hp1 := b1.tup B hp
      refine ⟨rfl, _, rfl, ?_⟩
      refine ite2 (fun _ => ?_) (fun _ => ?_)
      · refine ⟨_, rfl, p, _, _, .int z.1, rfl, rfl, SqT.of hp1, rfl, ?_⟩
        refine q _ _ ?_ B1 b1
        have : (z.1, (1 : Int)) = z := Prod.ext rfl e.symm
        rw [← this]
        exact Nv.int _
      · refine ⟨_, rfl, ?_⟩
        exact q _ _ (Nv.rat (mk_tup B1 hp1) rz) B1 b1
    · refine ⟨_, rfl, ?_⟩
      exact q _ _ (Nv.rat (mk_tup B hp) rz) (B.mono (by omega)) (But.refl _ _ _)
end

theorem Box.off {H : Hp} {b g c D : Addr} {n : Nat} {o : HO} (x : Box H b g c n) (h1 : D ≠ b) (h2 : D ≠ g) (h3 : D ≠ c) : Box (upd H D o) b g c n := by
  obtain ⟨gs, cs, cur, m, B, hm⟩ := x
  exact ⟨gs, cs, cur, m, ⟨by rw [upd_ne h1.symm]; exact B.hb, by rw [upd_ne h2.symm]; exact B.hg, by rw [upd_ne h3.symm]; exact B.hc, B.bg, B.bc, B.gc, B.m0, B.lg, B.lc⟩, hm⟩
theorem Box.ne {H : Hp} {b g c D : Addr} {n : Nat} (x : Box H b g c n) (h : H D = none) : D ≠ b ∧ D ≠ g ∧ D ≠ c := by
  obtain ⟨gs, cs, cur, m, B, hm⟩ := x
  exact ⟨(ne_of_none B.hb h).symm, (ne_of_none B.hg h).symm, (ne_of_none B.hc h).symm⟩
theorem atI_some {α : Type} {xs : List α} {r : Int} (h0 : 0 ≤ r) (h1 : r < xs.length) : ∃ v, v ∈ xs ∧ atI xs r = some v := by
  obtain ⟨k, rfl⟩ : ∃ k : Nat, r = (k : Int) := ⟨r.toNat, by omega⟩
  have hk : k < xs.length := by omega
  exact ⟨xs[k], List.getElem_mem hk, atI_nat (List.getElem?_eq_getElem hk)⟩
/-- for c in text -/
theorem for_str {l : List Nat} {g : TG} {tb : TS} {D : Ends} {σ : St} {H : Hp} (Pv : Nat → St → Hp → Prop) (h0 : Pv 0 σ H)
    (hs : ∀ i c σ H, l[i]? = some c → Pv i σ H → g (tx [c]) σ H fun σ2 H2 => tb { D with nx := Pv (i + 1), ct := Pv (i + 1), bk := D.nx } σ2 H2) (hd : ∀ σ H, Pv l.length σ H → D.nx σ H) :
    ∃ W : Nat → Nat → St → Hp → Prop, (∃ m, W 0 m σ H) ∧ ∀ i m σ H, W i m σ H →
      ((Its (SX.S l)).stop i H ∧ D.nx σ H) ∨ ((Its (SX.S l)).go i H ∧ ∃ N : St → Hp → Prop, (∀ σ' H', N σ' H' → ∃ m', m' < m ∧ W (i + 1) m' σ' H') ∧ ∀ x H', (Its (SX.S l)).yld i H x H' → g x σ H' fun σ2 H2 => tb { D with nx := N, ct := N, bk := D.nx } σ2 H2) := by
  refine ⟨fun i m σ H => m = l.length - i ∧ i ≤ l.length ∧ Pv i σ H, ⟨l.length, by simp, Nat.zero_le _, h0⟩, ?_⟩
  rintro i m σ H ⟨rfl, hi, p⟩
  have hsz : (SX.S l).cps.size = l.length := by simp [SX.S]
  by_cases hlt : i < l.length
  · refine .inr ⟨by show i < (SX.S l).cps.size; omega, Pv (i + 1), fun σ' H' p' => ⟨l.length - (i + 1), by omega, rfl, hlt, p'⟩, fun x H' y => ?_⟩
    obtain ⟨e, c, hc, rfl⟩ := y
    subst e
    have hc2 : l[i]? = some c := by
      rw [← hc]
      simp [SX.S]
    exact hs i c σ _ hc2 p
  · have e : i = l.length := by omega
    subst e
    exact .inl ⟨by show (SX.S l).cps.size ≤ l.length; omega, hd _ _ p⟩
def onesL (cs : List Nat) : List V := ((cs.map fun c => [c]).map SX.S).map V.str
theorem onesL_snoc (cs : List Nat) (c : Nat) : onesL cs ++ [tx [c]] = onesL (cs ++ [c]) := by
  unfold onesL
  rw [List.map_append, List.map_append, List.map_append]
  rfl
theorem flat_ones : ∀ cs : List Nat, (cs.map fun c => [c]).flatten = cs
  | [] => rfl
  | c :: cs => by rw [List.map_cons, List.flatten_cons, flat_ones cs]; rfl
theorem join_ones (cs : List Nat) : Txt.join (Str.ofString "") ((cs.map fun c => [c]).map SX.S) = SX.S cs := by
  rw [show Str.ofString "" = SX.S [] by decide +kernel, SX.join_S, join_nil, flat_ones]
theorem fitN {n : Nat} (h : n ≤ 5000) : n ≤ sizeLine := Nat.le_trans h (by decide)
def Asc (l : List Nat) : Prop := ∀ c ∈ l, c < 128
theorem Asc.app {a b : List Nat} (x : Asc a) (y : Asc b) : Asc (a ++ b) := fun c hc => by
  rcases List.mem_append.mp hc with h | h
  · exact x c h
  · exact y c h
theorem Asc.cons {a : List Nat} {c : Nat} (h : c < 128) (x : Asc a) : Asc (c :: a) := fun d hd => by
  rcases List.mem_cons.mp hd with rfl | hd
  · exact h
  · exact x d hd
theorem Asc.nil : Asc [] := fun c hc => by cases hc
theorem Asc.take {a : List Nat} (k : Nat) (x : Asc a) : Asc (a.take k) := fun c hc => x c (List.mem_of_mem_take hc)
theorem Asc.drop {a : List Nat} (k : Nat) (x : Asc a) : Asc (a.drop k) := fun c hc => x c (List.mem_of_mem_drop hc)
/-- a drawn text -/
def spDrawT (cost len : Nat) : Sp := fun vs H Q _ => ∃ (b g c : Addr) (n : Nat), vs = [.ref b] ∧ Box H b g c n ∧ n + cost < 1000000 ∧ ∀ (l : List Nat) (H' : Hp), l.length ≤ len → Asc l → Box H' b g c (n + cost) → But b g H H' → Q (tx l) H'
def spBent : Sp := fun vs H Q _ => ∃ (b g c : Addr) (n : Nat) (t : List Nat), vs = [.ref b, tx t] ∧ Box H b g c n ∧ n + 5 < 1000000 ∧ t.length ≤ 100 ∧ Asc t ∧ ∀ (l : List Nat) (H' : Hp), l.length ≤ t.length + 1 → Asc l → Box H' b g c (n + 5) → But b g H H' → Q (tx l) H'
section
variable {P : Program} {w : World} {K : PySem.W.Frag} {mg : Str → Option Value} {base : Heap}
theorem ok_digits (T : Bt mg) (GT : Kn P w K mg base CX0 "_law_take" 2 ["_law_box_here", "_law_size"] spTake) (D : Df K mg "_law_digits" s_l_digits ["_law_box_here"]) :
    Kn P w K mg base CX0 "_law_digits" 3 ["_law_box_here"] (spDrawT 15 12) := by
  obtain ⟨f, fd, F, hm, hb⟩ := D
  obtain ⟨f_l_take, fd_l_take, G_l_take, m_l_take, k_l_take, b_l_take⟩ := GT
  refine ⟨f, fd, F.ok sc_l_digits (fun vs H Q E h => ?_) (fun cdv A outer s H vs Q E hr h => ?_), hm, F.kp, hb⟩
  · obtain ⟨b, g, c, n, rfl, _⟩ := h
    rfl
  · obtain ⟨b, g, c, n, rfl, B, hn, q⟩ := h
    refine ⟨_, (pss_one (ps_ret (pe_bm PySem.F.plainAttrs_str PySem.F.slot_str_join PySem.F.type_str_join mt_join pe_str (pa_cons (pe_lc (own := [("_law_k", 1)]) rfl sc_l_digits.nd (pi_range1 rfl T.n_range (pa_cons (pe_op op_add pe_int (pe_call G_l_take (hr.mono (by omega)) rfl m_l_take k_l_take b_l_take .nil pass0 (pa_cons (pv 0) (pa_cons (pe_ix ix_list (pe_lst (pa_cons pe_int (pa_cons pe_int pa_nil))) (pe_call G_l_take (hr.mono (by omega)) rfl m_l_take k_l_take b_l_take .nil pass0 (pa_cons (pv 0) (pa_cons pe_int pa_nil))) (fun _ _ => rfl)) pa_nil)))) pa_nil)) (blkOk_by (N := ["_law_box_here", "_law_k"]) (sc := defScope s_l_digits) (by decide +kernel)) (fun _ _ _ _ _ => (pg_name (i := 1) sc_l_digits.nd rfl (Or.inl rfl))) (fun _ _ _ _ _ => pts_nil) (fun _ _ _ _ _ => (pe_ix ix_str pe_str (pe_call G_l_take (hr.mono (by omega)) rfl m_l_take k_l_take b_l_take .nil pass0 (pa_cons (pv 0) (pa_cons pe_int pa_nil))) (fun _ _ => rfl)))) pa_nil)))), ?_⟩
    refine ⟨rfl, _, rfl, ?_⟩
    refine ⟨(by show 2 ≤ sizeLine; decide), fun p1 np1 => ⟨_, rfl, b, g, c, _, 2, rfl, B.same (same_new np1 _), (by omega), (by decide), (by decide), fun r1 H1 r01 r11 B1 bt1 => ?_⟩⟩
    have hp1 := But.new B np1 bt1
    have bu1 := But.after np1 bt1
    obtain ⟨v1, hv1, hat1⟩ := at_pick hp1 r01 r11 rfl
    refine ⟨p1, _, r1, v1, rfl, rfl, SqL.of hp1, hat1, ?_⟩
    have hw : ∃ y : Int, v1 = .int y ∧ 0 < y ∧ y ≤ 12 := by
      simp only [List.mem_cons, List.not_mem_nil, or_false] at hv1
      rcases hv1 with e | e
      · exact ⟨_, e, by decide, by decide⟩
      · exact ⟨_, e, by decide, by decide⟩
    obtain ⟨y, rfl, y0, y1⟩ := hw
    refine ⟨b, g, c, _, y, rfl, B1, by omega, y0, pow8000' y 4 (by decide) (by show y.natAbs < 16; omega), fun r H2 r0 r1 B2 b2 => ?_⟩
    have p62 : (2 : Int) ^ 62 = 4611686018427387904 := by decide
    refine ⟨_, _, rfl, rfl, 1 + r, rfl, by omega, by omega, fun D hD => ?_⟩
    obtain ⟨db, dg, dc⟩ := B2.ne hD
    refine lc_range (lo := 0) (n := (1 + r).toNat) (fun j H' => ∃ cs : List Nat, cs.length = j ∧ Asc cs ∧ H' D = some (.lst (onesL cs)) ∧ Box H' b g c (n + 2 + j) ∧ But b g H2 H') ⟨[], rfl, Asc.nil, upd_same, (B2.same (same_new hD _)), But.of (same_new hD _)⟩ ?_ ?_
    · rintro j H3 hj ⟨cs, lc, ac, hDl, B3, b3⟩
      refine ⟨rfl, _, rfl, b, g, c, _, 10, rfl, B3, by omega, by decide, pow8000' 10 4 (by decide) (by decide), fun x H4 x0 x1 B4 b4 => ?_⟩
      obtain ⟨ch, hcm, hch⟩ := atI_some (xs := (Str.ofString "0123456789").cps.toList) x0 (by rw [show (Str.ofString "0123456789").cps.toList.length = 10 by decide +kernel]; exact x1)
      have hD4 := b4 D _ hDl db dg
      refine ⟨_, _, ch, rfl, rfl, fitN (by decide +kernel), hch, _, hD4, ?_, cs ++ [ch], by rw [List.length_append, lc]; rfl, ac.app (Asc.cons ((show ∀ c ∈ (Str.ofString "0123456789").cps.toList, c < 128 by decide +kernel) ch hcm) Asc.nil), ?_, B4.off db dg dc, ?_⟩
      · unfold onesL
        rw [List.length_map, List.length_map, List.length_map]
        exact small1000 (by omega)
      · rw [upd_same, ← onesL_snoc]
      · intro a o h h1 h2
        rw [upd_ne (ne_of_none h hD)]
        exact (b3.trans b4) a o h h1 h2
    · rintro H3 ⟨cs, lc, ac, hDl, B3, b3⟩
      have hlen : (((cs.map fun c => [c]).map SX.S).map (·.length)).sum + ((cs.map fun c => [c]).map SX.S).length * (Str.ofString "").length ≤ 16777216 := by
        rw [SX.lens, ← List.length_flatten, flat_ones, show (Str.ofString "").length = 0 by decide +kernel, Nat.mul_zero, Nat.add_zero]
        omega
      refine ⟨_, D, _, rfl, rfl, .inl (SqL.of hDl), hlen, ?_⟩
      rw [join_ones]
      exact q cs H3 (by omega) ac (B3.mono (by omega)) ((bu1.trans b2).trans b3)
theorem ok_written (T : Bt mg) (GT : Kn P w K mg base CX0 "_law_take" 2 ["_law_box_here", "_law_size"] spTake) (GD : Kn P w K mg base CX0 "_law_digits" 3 ["_law_box_here"] (spDrawT 15 12)) (D : Df K mg "_law_written" s_l_written ["_law_box_here"]) :
    Kn P w K mg base CX0 "_law_written" 4 ["_law_box_here"] (spDrawT 50 30) := by
  obtain ⟨f, fd, F, hm, hb⟩ := D
  obtain ⟨f_l_take, fd_l_take, G_l_take, m_l_take, k_l_take, b_l_take⟩ := GT
  obtain ⟨f_l_digits, fd_l_digits, G_l_digits, m_l_digits, k_l_digits, b_l_digits⟩ := GD
  refine ⟨f, fd, F.ok sc_l_written (fun vs H Q E h => ?_) (fun cdv A outer s H vs Q E hr h => ?_), hm, F.kp, hb⟩
  · obtain ⟨b, g, c, n, rfl, _⟩ := h
    rfl
  · obtain ⟨b, g, c, n, rfl, B, hn, q⟩ := h
    refine ⟨_, (pss_cons (ps_set (i := 1) sc_l_written.nd rfl (Or.inl rfl) (pe_op op_add_str (pe_ix ix_list (pe_lst (pa_cons pe_str (pa_cons pe_str (pa_cons pe_str pa_nil)))) (pe_call G_l_take (hr.mono (by omega)) rfl m_l_take k_l_take b_l_take .nil pass0 (pa_cons (pv 0) (pa_cons pe_int pa_nil))) (fun _ _ => rfl)) (pe_call G_l_digits (hr.mono (by omega)) rfl m_l_digits k_l_digits b_l_digits .nil pass0 (pa_cons (pv 0) pa_nil))))
      (pss_one (ps_ret (pe_op op_add_str (pv 1) (pe_ix ix_list (pe_lst (pa_cons pe_str (pa_cons (pe_op op_add_str pe_str (pe_call G_l_digits (hr.mono (by omega)) rfl m_l_digits k_l_digits b_l_digits .nil pass0 (pa_cons (pv 0) pa_nil))) (pa_cons (pe_op op_add_str pe_str (pe_call G_l_digits (hr.mono (by omega)) rfl m_l_digits k_l_digits b_l_digits .nil pass0 (pa_cons (pv 0) pa_nil))) (pa_cons pe_str (pa_cons pe_str pa_nil)))))) (pe_call G_l_take (hr.mono (by omega)) rfl m_l_take k_l_take b_l_take .nil pass0 (pa_cons (pv 0) (pa_cons pe_int pa_nil))) (fun _ _ => rfl)))))), ?_⟩
    refine ⟨(by show 3 ≤ sizeLine; decide), fun p1 np1 => ⟨_, rfl, b, g, c, _, 3, rfl, B.same (same_new np1 _), (by omega), (by decide), (by decide), fun r1 H1 r01 r11 B1 bt1 => ?_⟩⟩
    have hp1 := But.new B np1 bt1
    have bu1 := But.after np1 bt1
    obtain ⟨v1, hv1, hat1⟩ := at_pick hp1 r01 r11 rfl
    refine ⟨p1, _, r1, v1, rfl, rfl, SqL.of hp1, hat1, ?_⟩
    have hw : ∃ y : List Nat, v1 = tx y ∧ y.length ≤ 1 ∧ Asc y := by
      simp only [List.mem_cons, List.not_mem_nil, or_false] at hv1
      rcases hv1 with e | e | e
      · exact ⟨[], e.trans (congrArg V.str (by decide +kernel)), by decide, Asc.nil⟩
      · exact ⟨[], e.trans (congrArg V.str (by decide +kernel)), by decide, Asc.nil⟩
      · exact ⟨[45], e.trans (congrArg V.str (by decide +kernel)), by decide, Asc.cons (by decide) Asc.nil⟩
    obtain ⟨y, rfl, y1, ya⟩ := hw
    refine ⟨_, rfl, b, g, c, _, rfl, B1, by omega, fun d1 H2 l1 a1 B2 b2 => ?_⟩
    refine ⟨_, _, rfl, rfl, (by rw [SX.S_len, SX.S_len]; exact fitN (by omega)), ?_⟩
    rw [SX.S_cat]
    refine ⟨_, rfl, _, rfl, b, g, c, _, rfl, B2, by omega, fun d2 H3 l2 a2 B3 b3 => ?_⟩
    refine ⟨_, _, rfl, rfl, (by rw [show (Str.ofString ".").length = 1 by decide +kernel, SX.S_len]; exact fitN (by omega)), ?_⟩
    refine ⟨_, rfl, b, g, c, _, rfl, B3, by omega, fun d3 H4 l3 a3 B4 b4 => ?_⟩
    refine ⟨_, _, rfl, rfl, (by rw [show (Str.ofString "/").length = 1 by decide +kernel, SX.S_len]; exact fitN (by omega)), ?_⟩
    refine ⟨(by show 5 ≤ sizeLine; decide), fun p5 np5 => ⟨_, rfl, b, g, c, _, 5, rfl, B4.same (same_new np5 _), (by omega), (by decide), (by decide), fun r5 H5 r05 r15 B5 bt5 => ?_⟩⟩
    have hp5 := But.new B4 np5 bt5
    have bu5 := But.after np5 bt5
    obtain ⟨v5, hv5, hat5⟩ := at_pick hp5 r05 r15 rfl
    refine ⟨p5, _, r5, v5, rfl, rfl, SqL.of hp5, hat5, ?_⟩
    have hw : ∃ z : List Nat, v5 = tx z ∧ z.length ≤ 14 ∧ Asc z := by
      simp only [List.mem_cons, List.not_mem_nil, or_false] at hv5
      rcases hv5 with e | e | e | e | e
      · exact ⟨[], e.trans (congrArg V.str (by decide +kernel)), by decide, Asc.nil⟩
      · exact ⟨46 :: d2, e.trans (congrArg V.str (by rw [show Str.ofString "." = SX.S [46] by decide +kernel, SX.S_cat]; rfl)), by rw [List.length_cons]; omega, a2.cons (by decide)⟩
      · exact ⟨47 :: d3, e.trans (congrArg V.str (by rw [show Str.ofString "/" = SX.S [47] by decide +kernel, SX.S_cat]; rfl)), by rw [List.length_cons]; omega, a3.cons (by decide)⟩
      · exact ⟨[47, 48], e.trans (congrArg V.str (by decide +kernel)), by decide, Asc.cons (by decide) (Asc.cons (by decide) Asc.nil)⟩
      · exact ⟨[47, 48, 48], e.trans (congrArg V.str (by decide +kernel)), by decide, Asc.cons (by decide) (Asc.cons (by decide) (Asc.cons (by decide) Asc.nil))⟩
    obtain ⟨z, rfl, z1, za⟩ := hw
    refine ⟨_, _, rfl, rfl, (by rw [SX.S_len, SX.S_len, List.length_append]; exact fitN (by omega)), ?_⟩
    rw [SX.S_cat]
    exact q _ _ (by rw [List.length_append, List.length_append]; omega) ((ya.app a1).app za) (B5.mono (by omega)) ((((bu1.trans b2).trans b3).trans b4).trans bu5)
theorem ok_bent (T : Bt mg) (GT : Kn P w K mg base CX0 "_law_take" 2 ["_law_box_here", "_law_size"] spTake) (D : Df K mg "_law_bent" s_l_bent ["_law_box_here", "_law_text"]) :
    Kn P w K mg base CX0 "_law_bent" 3 ["_law_box_here", "_law_text"] spBent := by
  obtain ⟨f, fd, F, hm, hb⟩ := D
  obtain ⟨f_l_take, fd_l_take, G_l_take, m_l_take, k_l_take, b_l_take⟩ := GT
  refine ⟨f, fd, F.ok sc_l_bent (fun vs H Q E h => ?_) (fun cdv A outer s H vs Q E hr h => ?_), hm, F.kp, hb⟩
  · obtain ⟨b, g, c, n, t, rfl, _⟩ := h
    rfl
  · obtain ⟨b, g, c, n, t, rfl, B, hn, ht, ta, q⟩ := h
    refine ⟨_, (pss_cons (ps_set (i := 2) sc_l_bent.nd rfl (Or.inl rfl) (pe_call G_l_take (hr.mono (by omega)) rfl m_l_take k_l_take b_l_take .nil pass0 (pa_cons (pv 0) (pa_cons (pe_op op_add (pe_callB call_len_str (by rfl) T.n_len (by decide +kernel) (pa_cons (pv 1) pa_nil)) pe_int) pa_nil))))
      (pss_cons (ps_set (i := 3) sc_l_bent.nd rfl (Or.inl rfl) (pe_ix ix_str pe_str (pe_call G_l_take (hr.mono (by omega)) rfl m_l_take k_l_take b_l_take .nil pass0 (pa_cons (pv 0) (pa_cons pe_int pa_nil))) (fun _ _ => rfl)))
      (pss_cons (ps_set (i := 4) sc_l_bent.nd rfl (Or.inl rfl) (pe_slice C8.sl_txt (pv 1) (po_some (pe_op op_add (pv 2) pe_int)) po_none))
      (pss_one (ps_ret (pe_ix ix_list (pe_lst (pa_cons (pe_op op_add_str (pe_slice C8.sl_txt (pv 1) po_none (po_some (pv 2))) (pv 4)) (pa_cons (pe_op op_add_str (pe_op op_add_str (pe_slice C8.sl_txt (pv 1) po_none (po_some (pv 2))) (pv 3)) (pe_slice C8.sl_txt (pv 1) (po_some (pv 2)) po_none)) (pa_cons (pe_op op_add_str (pe_op op_add_str (pe_slice C8.sl_txt (pv 1) po_none (po_some (pv 2))) (pv 3)) (pv 4)) pa_nil)))) (pe_call G_l_take (hr.mono (by omega)) rfl m_l_take k_l_take b_l_take .nil pass0 (pa_cons (pv 0) (pa_cons pe_int pa_nil))) (fun _ _ => rfl))))))), ?_⟩
    have hsl : (SX.S t).length ≤ sizeLine := by rw [SX.S_len]; exact fitN (by omega)
    refine ⟨_, rfl, _, rfl, _, rfl, hsl, _, _, rfl, rfl, b, g, c, _, ((t.length : Int) + 1), (by rw [SX.S_len]; rfl), B, by omega, by omega, pow8000' _ 8 (by decide) (by show ((t.length : Int) + 1).natAbs < 256; omega), fun at_ H1 a0 a1 B1 b1 => ?_⟩
    obtain ⟨k, rfl⟩ : ∃ k : Nat, at_ = (k : Int) := ⟨at_.toNat, by omega⟩
    have hk : k ≤ t.length := by omega
    refine ⟨_, rfl, b, g, c, _, 20, rfl, B1, by omega, by decide, pow8000' 20 5 (by decide) (by decide), fun x H2 x0 x1 B2 b2 => ?_⟩
    obtain ⟨ch, hcm, hch⟩ := atI_some (xs := (Str.ofString "-./ 0123456789+ae,_\n").cps.toList) x0 (by rw [show (Str.ofString "-./ 0123456789+ae,_\n").cps.toList.length = 20 by decide +kernel]; exact x1)
    refine ⟨_, _, ch, rfl, rfl, fitN (by decide +kernel), hch, ?_⟩
    have hca : ch < 128 := (show ∀ c ∈ (Str.ofString "-./ 0123456789+ae,_\n").cps.toList, c < 128 by decide +kernel) ch hcm
    have e1 : Txt.slice (SX.S t) (some ((k : Int) + 1)) none = SX.S (t.drop (k + 1)) := by
      rw [SX.slice_from (by omega), show ((k : Int) + 1).toNat = k + 1 by omega]
    have e2 : Txt.slice (SX.S t) none (some (k : Int)) = SX.S (t.take k) := by
      rw [SX.slice_to (by omega), Int.toNat_natCast]
    have e3 : Txt.slice (SX.S t) (some (k : Int)) none = SX.S (t.drop k) := by
      rw [SX.slice_from (by omega), Int.toNat_natCast]
    refine ⟨_, rfl, _, rfl, _, _, rfl, rfl, _, rfl, _, rfl, hsl, ?_⟩
    rw [e1]
    refine ⟨_, rfl, _, rfl, _, rfl, _, rfl, hsl, ?_⟩
    rw [e2]
    refine ⟨_, rfl, _, _, rfl, rfl, ?_, ?_⟩
    · rw [SX.S_len, SX.S_len, List.length_take, List.length_drop]
      exact fitN (by omega)
    have lk : (t.take k).length ≤ 100 := by rw [List.length_take]; omega
    have l1 : (SX.S (t.take k)).length + (SX.S [ch]).length ≤ sizeLine := by
      rw [SX.S_len, SX.S_len]
      exact fitN (by show (t.take k).length + 1 ≤ 5000; omega)
    have e4 : SX.S (t.take k) ++ SX.S [ch] = SX.S (t.take k ++ [ch]) := SX.S_cat _ _
    have l2 : ∀ w : List Nat, w.length ≤ 100 → (SX.S (t.take k) ++ SX.S [ch]).length + (SX.S w).length ≤ sizeLine := fun w hw => by
      rw [e4, SX.S_len, SX.S_len, List.length_append]
      exact fitN (by show (t.take k).length + 1 + w.length ≤ 5000; omega)
    have ld : (t.drop k).length ≤ 100 ∧ (t.drop (k + 1)).length ≤ 100 := by rw [List.length_drop, List.length_drop]; omega
    refine ⟨_, rfl, _, rfl, _, rfl, _, rfl, hsl, ?_⟩
    rw [e2]
    refine ⟨_, rfl, _, _, rfl, rfl, l1, ?_⟩
    refine ⟨_, rfl, _, rfl, _, rfl, _, rfl, hsl, ?_⟩
    rw [e3]
    refine ⟨_, _, rfl, rfl, l2 _ ld.1, ?_⟩
    refine ⟨_, rfl, _, rfl, _, rfl, _, rfl, hsl, ?_⟩
    rw [e2]
    refine ⟨_, rfl, _, _, rfl, rfl, l1, ?_⟩
    refine ⟨_, rfl, _, _, rfl, rfl, l2 _ ld.2, ?_⟩
    refine ⟨(by show 3 ≤ sizeLine; decide), fun p5 np5 => ⟨_, rfl, b, g, c, _, 3, rfl, B2.same (same_new np5 _), (by omega), (by decide), (by decide), fun r5 H5 r05 r15 B5 bt5 => ?_⟩⟩
    have hp5 := But.new B2 np5 bt5
    have bu5 := But.after np5 bt5
    obtain ⟨v5, hv5, hat5⟩ := at_pick hp5 r05 r15 rfl
    refine ⟨p5, _, r5, v5, rfl, rfl, SqL.of hp5, hat5, ?_⟩
    have hw : ∃ z : List Nat, v5 = tx z ∧ z.length ≤ t.length + 1 ∧ Asc z := by
      have c1 : SX.S (t.take k) ++ SX.S (t.drop (k + 1)) = SX.S (t.take k ++ t.drop (k + 1)) := SX.S_cat _ _
      have c2 : SX.S (t.take k) ++ SX.S [ch] ++ SX.S (t.drop k) = SX.S (t.take k ++ [ch] ++ t.drop k) := by rw [e4, SX.S_cat]
      have c3 : SX.S (t.take k) ++ SX.S [ch] ++ SX.S (t.drop (k + 1)) = SX.S (t.take k ++ [ch] ++ t.drop (k + 1)) := by rw [e4, SX.S_cat]
      simp only [List.mem_cons, List.not_mem_nil, or_false] at hv5
      rcases hv5 with e | e | e
      · exact ⟨_, e.trans (congrArg V.str c1), by rw [List.length_append, List.length_take, List.length_drop]; omega, (ta.take k).app (ta.drop _)⟩
      · exact ⟨_, e.trans (congrArg V.str c2), by rw [List.length_append, List.length_append, List.length_take, List.length_drop]; show _ + 1 + _ ≤ _; omega, ((ta.take k).app (Asc.cons hca Asc.nil)).app (ta.drop _)⟩
      · exact ⟨_, e.trans (congrArg V.str c3), by rw [List.length_append, List.length_append, List.length_take, List.length_drop]; show _ + 1 + _ ≤ _; omega, ((ta.take k).app (Asc.cons hca Asc.nil)).app (ta.drop _)⟩
    obtain ⟨z, rfl, z1, za⟩ := hw
    exact q z _ z1 za (B5.mono (by omega)) ((b1.trans b2).trans bu5)
end

def firstOf : List Nat → Nat | k :: _ => k | [] => 0
theorem mt_idxF {X : Cx} : MtR X "str.index" (fun x xs H Q => ∃ a b, x = .str a ∧ xs = [.str b] ∧ (Builtin.Str.occurrences a b 0 a.length 1 ≠ []) ∧ Q (.int (firstOf (Builtin.Str.occurrences a b 0 a.length 1) : Nat)) H) :=
  mt1C (C := fun a b => Builtin.Str.occurrences a b 0 a.length 1 ≠ []) (g := fun a b => .int (firstOf (Builtin.Str.occurrences a b 0 a.length 1) : Nat)) fun a b _ _ _ _ hc h => by
    cases e : Builtin.Str.occurrences a b 0 a.length 1 with
    | nil => exact absurd e hc
    | cons k r =>
      rw [e] at h
      exact PySem.SC.index e (h _ _ ⟨_, rfl⟩)
theorem ten_S : Str.ofString "0123456789" = SX.S [48, 49, 50, 51, 52, 53, 54, 55, 56, 57] := by decide +kernel
theorem occ_digit : ∀ d : Nat, d < 10 → Builtin.Str.occurrences (Str.ofString "0123456789") (SX.S [48 + d]) 0 (Str.ofString "0123456789").length 1 = [d] := by decide +kernel
theorem isD_mem (c : Nat) : decide (c ∈ [48, 49, 50, 51, 52, 53, 54, 55, 56, 57]) = isD c := by
  rw [Bool.eq_iff_iff, decide_eq_true_eq, isD_iff]
  simp only [List.mem_cons, List.not_mem_nil, or_false]
  omega
def spWorth : Sp := fun vs H Q _ => ∃ l : List Nat, vs = [tx l] ∧ NumText.AllDigits l ∧ l.length ≤ 300 ∧ Q (.int (NumText.digitsVal l : Nat)) H
/-- runs, the marks between them, the last run -/
def jm : List (List Nat) → List Nat → List Nat → List Nat
  | r :: rs, m :: ms, cur => r ++ m :: jm rs ms cur
  | _, _, cur => cur
theorem jm_more : ∀ (rs : List (List Nat)) (ms cur : List Nat) (c : Nat), jm rs ms (cur ++ [c]) = jm rs ms cur ++ [c]
  | [], _, cur, c => rfl
  | r :: rs, [], cur, c => rfl
  | r :: rs, m :: ms, cur, c => by
    show r ++ m :: jm rs ms (cur ++ [c]) = (r ++ m :: jm rs ms cur) ++ [c]
    rw [jm_more rs ms cur c, List.append_assoc, List.cons_append]
theorem jm_mark : ∀ (rs : List (List Nat)) (ms cur : List Nat) (c : Nat), rs.length = ms.length → jm (rs ++ [cur]) (ms ++ [c]) [] = jm rs ms cur ++ [c]
  | [], [], cur, c, _ => rfl
  | r :: rs, m :: ms, cur, c, h => by
    show r ++ m :: jm (rs ++ [cur]) (ms ++ [c]) [] = (r ++ m :: jm rs ms cur) ++ [c]
    rw [jm_mark rs ms cur c (Nat.succ.inj h), List.append_assoc, List.cons_append]
theorem readU_two {l u a b r : List Nat} {c1 c2 : Nat} (e : u = a ++ c1 :: (b ++ c2 :: r)) (ha : NumText.AllDigits a) (h1 : isD c1 = false) (h2 : isD c2 = false) : readU l u = none := by
  rw [readU_mark e ha h1, if_neg]
  rintro ⟨_, hb⟩
  rw [not_digs_mem (c := c2) (List.mem_append_right _ (List.mem_cons_self ..)) h2] at hb
  cases hb
def sgL (l : List Nat) : List Nat := if neg1 l = true then [45] else []
theorem sgL_drop (l : List Nat) : l.drop (sgL l).length = unsg l := by
  unfold sgL neg1 unsg
  cases l with
  | nil => rfl
  | cons c r =>
    by_cases h : c = 45
    · subst h
      rfl
    · rw [if_neg (by simpa using h)]
      split
      · rename_i w
        exact absurd (List.cons.inj w).1 h
      · rfl
theorem sgL_is (l : List Nat) : repL (if neg1 l = true then 1 else 0) (l.take 1) = sgL l := by
  unfold sgL
  split
  · rename_i h
    unfold neg1 at h
    have z := of_decide_eq_true h
    cases l with
    | nil => cases z
    | cons c r =>
      have : c = 45 := Option.some.inj z
      subst this
      rfl
  · rfl
theorem neg1_take (l : List Nat) : decide (V.str (SX.S (l.take 1)) = V.str (Str.ofString "-")) = neg1 l := by
  rw [show Str.ofString "-" = SX.S [45] by decide +kernel]
  unfold neg1
  rw [Bool.eq_iff_iff, decide_eq_true_eq, decide_eq_true_eq]
  constructor
  · intro h
    injection h with h
    have z := SX.S_inj h
    cases l with
    | nil => cases z
    | cons c r => rw [show c = 45 from (List.cons.inj z).1]; rfl
  · intro h
    cases l with
    | nil => cases h
    | cons c r => rw [show c = 45 from Option.some.inj h]; rfl
abbrev txs (rs : List (List Nat)) : List V := (rs.map SX.S).map V.str
theorem txs_snoc (rs : List (List Nat)) (r : List Nat) : txs (rs ++ [r]) = txs rs ++ [tx r] := by
  unfold txs
  rw [List.map_append, List.map_append]
  rfl
theorem txs_len (rs : List (List Nat)) : (txs rs).length = rs.length := by
  unfold txs
  rw [List.length_map, List.length_map]
theorem set_last {α : Type} (xs : List α) (v w : α) : (xs ++ [v]).set xs.length w = xs ++ [w] := by
  rw [List.set_append_right _ _ (Nat.le_refl _), Nat.sub_self]
  rfl
theorem ixN_last (n : Nat) : ixN (n + 1) (-1) = some n := by
  unfold ixN
  rw [if_neg (by decide), if_pos (by omega)]
  congr 1
  omega
theorem txs_flat : ∀ rs : List (List Nat), (txs rs).all flatV = true
  | [] => rfl
  | r :: rs => by
    show (flatV (tx r) && (txs rs).all flatV) = true
    rw [txs_flat rs]
    rfl
theorem inV_empty : ∀ rs : List (List Nat), inV (V.str (Str.ofString "")) (txs rs) = decide ([] ∈ rs)
  | [] => rfl
  | r :: rs => by
    show (eqV (tx r) (V.str (Str.ofString "")) || inV (V.str (Str.ofString "")) (txs rs)) = _
    rw [inV_empty rs]
    show ((SX.S r == Str.ofString "") || _) = _
    rw [show Str.ofString "" = SX.S [] by decide +kernel, SX.S_beq_eq]
    rw [Bool.eq_iff_iff, Bool.or_eq_true, decide_eq_true_eq, decide_eq_true_eq, decide_eq_true_eq, List.mem_cons]
    constructor
    · rintro (h | h)
      · exact .inl h.symm
      · exact .inr h
    · rintro (h | h)
      · exact .inl h.symm
      · exact .inr h
theorem inV_marks (ms : List Nat) : inV (tx ms) [V.str (Str.ofString ""), V.str (Str.ofString "."), V.str (Str.ofString "/")] = decide (ms = [] ∨ ms = [46] ∨ ms = [47]) := by
  show ((Str.ofString "" == SX.S ms) || ((Str.ofString "." == SX.S ms) || ((Str.ofString "/" == SX.S ms) || false))) = _
  rw [show Str.ofString "" = SX.S [] by decide +kernel, show Str.ofString "." = SX.S [46] by decide +kernel, show Str.ofString "/" = SX.S [47] by decide +kernel, SX.S_beq_eq, SX.S_beq_eq, SX.S_beq_eq]
  rw [Bool.eq_iff_iff, Bool.or_eq_true, Bool.or_eq_true, Bool.or_eq_true, decide_eq_true_eq, decide_eq_true_eq, decide_eq_true_eq, decide_eq_true_eq]
  constructor
  · rintro (h | h | h | h)
    · exact .inl h.symm
    · exact .inr (.inl h.symm)
    · exact .inr (.inr h.symm)
    · cases h
  · rintro (h | h | h)
    · exact .inl h.symm
    · exact .inr (.inl h.symm)
    · exact .inr (.inr (.inl h.symm))
def spMeant : Sp := fun vs H Q _ => ∃ l : List Nat, vs = [tx l] ∧ l.length ≤ 100 ∧ (∀ z p H', readL l = some z → Same H H' → H' p = some (.tup [.int z.1, .int z.2]) → Q (.ref p) H') ∧ (readL l = none → ∀ H', Same H H' → Q .non H')
section
variable {P : Program} {w : World} {K : PySem.W.Frag} {mg : Str → Option Value} {base : Heap}
theorem ok_worth (D : Df K mg "_law_worth_of" s_l_worth_of ["_law_digits_here"]) : Kn P w K mg base CX0 "_law_worth_of" 1 ["_law_digits_here"] spWorth := by
  obtain ⟨f, fd, F, hm, hb⟩ := D
  refine ⟨f, fd, F.ok sc_l_worth_of (fun vs H Q E h => ?_) (fun cdv A outer s H vs Q E hr h => ?_), hm, F.kp, hb⟩
  · obtain ⟨l, rfl, _⟩ := h
    rfl
  · obtain ⟨l, rfl, had, hl, q⟩ := h
    refine ⟨_, (pss_cons (ps_set (i := 1) sc_l_worth_of.nd rfl (Or.inl rfl) pe_int)
      (pss_cons (ps_for PassesOwn.never rfl (pi_str (pv 0)) (pg_name (i := 2) sc_l_worth_of.nd rfl (Or.inl rfl))
        (pss_one (ps_set (i := 1) sc_l_worth_of.nd rfl (Or.inl rfl) (pe_op op_add (pe_op op_mulW pe_int (pv 1)) (pe_bm PySem.F.plainAttrs_str PySem.F.slot_str_index PySem.F.type_str_index mt_idxF pe_str (pa_cons (pv 2) pa_nil))))))
      (pss_one (ps_ret (pv 1))))), ?_⟩
    refine ⟨_, rfl, _, rfl, ?_⟩
    refine for_str (l := l) (fun i σ H' => H' = H ∧ ∃ z, σ = [some (tx l), some (.int (NumText.digitsVal (l.take i) : Nat)), z]) ⟨rfl, _, rfl⟩ ?_ ?_
    · rintro i c σ H' hc ⟨rfl, z, rfl⟩
      have hcm : c ∈ l := List.mem_of_getElem? hc
      have hcd := had c hcm
      obtain ⟨d, rfl⟩ : ∃ d, c = 48 + d := ⟨c - 48, by omega⟩
      have ho := occ_digit d (by omega)
      have hlt : NumText.digitsVal (l.take i) < 10 ^ 300 := Nat.lt_of_lt_of_le (dv_lt _ (ad_take _ had)) (Nat.pow_le_pow_right (by decide) (by rw [List.length_take]; omega))
      have h2 : (10 : Nat) ^ 300 < 2 ^ 1000 := by decide +kernel
      refine ⟨_, rfl, _, _, rfl, rfl, wide_mul (a := 4) (b := 1000) (by decide) (by rw [Int.natAbs_natCast]; exact Nat.lt_trans hlt h2) (by decide) (by decide) (by decide), rfl, _, rfl, _, _, rfl, rfl, (by rw [ho]; exact List.cons_ne_nil _ _), _, _, rfl, rfl, rfl, some (tx [48 + d]), ?_⟩
      show [some (tx l), some (V.int (10 * (NumText.digitsVal (l.take i) : Nat) + (firstOf (Builtin.Str.occurrences (Str.ofString "0123456789") (SX.S [48 + d]) 0 (Str.ofString "0123456789").length 1) : Nat))), some _] = _
      rw [ho, take_more hc, dv_app, dv_one]
      show [some (tx l), some (V.int (10 * (NumText.digitsVal (l.take i) : Nat) + (d : Nat))), some _] = [_, some (V.int ((NumText.digitsVal (l.take i) * 10 ^ 1 + (48 + d - 48) : Nat) : Int)), _]
      rw [show (10 * (NumText.digitsVal (l.take i) : Nat) + (d : Nat) : Int) = ((NumText.digitsVal (l.take i) * 10 ^ 1 + (48 + d - 48) : Nat) : Int) by omega]
    · rintro σ H' ⟨rfl, z, rfl⟩
      refine ⟨_, rfl, ?_⟩
      rw [List.take_length]
      exact q
theorem ok_meant (T : Bt mg) (GW : Kn P w K mg base CX0 "_law_worth_of" 1 ["_law_digits_here"] spWorth) (GR : Kn P w K mg base CX0 "_law_ratio" 2 ["_law_top", "_law_bottom"] spLRatio) (D : Df K mg "_law_meant" s_l_meant ["_law_text"]) :
    Kn P w K mg base CX0 "_law_meant" 3 ["_law_text"] spMeant := by
  obtain ⟨f, fd, F, hm, hb⟩ := D
  obtain ⟨f_l_worth_of, fd_l_worth_of, G_l_worth_of, m_l_worth_of, k_l_worth_of, b_l_worth_of⟩ := GW
  obtain ⟨f_l_ratio, fd_l_ratio, G_l_ratio, m_l_ratio, k_l_ratio, b_l_ratio⟩ := GR
  refine ⟨f, fd, F.ok sc_l_meant (fun vs H Q E h => ?_) (fun cdv A outer s H vs Q E hr h => ?_), hm, F.kp, hb⟩
  · obtain ⟨l, rfl, _⟩ := h
    rfl
  · obtain ⟨l, rfl, hl, q, qn⟩ := h
    refine ⟨_, (C8.pss_cut (ps_set (i := 1) sc_l_meant.nd rfl (Or.inl rfl) (pe_op op_mul_strI (pe_slice C8.sl_txt (pv 0) po_none (po_some pe_int)) (pe_callTy call_int1 (by rfl) T.n_int (by decide +kernel) (pa_cons (pe_cmpR op_eq (pe_slice C8.sl_txt (pv 0) po_none (po_some pe_int)) pe_str (nomark _)) pa_nil))))
      (pss_cons (ps_set (i := 2) sc_l_meant.nd rfl (Or.inl rfl) (pe_slice C8.sl_txt (pv 0) (po_some (pe_callB call_len_str (by rfl) T.n_len (by decide +kernel) (pa_cons (pv 1) pa_nil))) po_none))
      (pss_cons (ps_par (i := 3) (j := 4) (by rfl) sc_l_meant.nd rfl rfl (by decide) rfl rfl (pa_cons (pe_lst (pa_cons pe_str pa_nil)) (pa_cons pe_str pa_nil)) (by rfl))
      (pss_cons (ps_for PassesOwn.never rfl (pi_str (pv 2)) (pg_name (i := 5) sc_l_meant.nd rfl (Or.inl rfl))
        (pss_one (ps_if (pt_cmpR op_in_str (pv 5) pe_str (by rfl)) (pss_one (ps_asg (pe_op op_add_str (pe_ix ix_list (pv 3) (pe_un un_neg pe_int) (fun _ _ => rfl)) (pv 5)) (pg_sub (pv 3) (pe_un un_neg pe_int) set_list))) (pss_cons (ps_expr (pe_bm PySem.F.plainAttrs_list PySem.F.slot_list_append PySem.F.type_list_append mt_append (pv 3) (pa_cons pe_str pa_nil)))
      (pss_one (ps_set (i := 4) sc_l_meant.nd rfl (Or.inl rfl) (pe_op op_add_str (pv 4) (pv 5))))))))
      (pss_cons (ps_if (PW.pt (pw_or (pt_cmpR op_notIn_seq (pv 4) (pe_lst (pa_cons pe_str (pa_cons pe_str (pa_cons pe_str pa_nil)))) (by rfl)) (pw_or1 (pt_cmpR op_in_seq pe_str (pv 3) (by rfl))))) (pss_one (ps_ret pe_non)) pss_nil)
      (pss_cons (ps_par (i := 6) (j := 7) (by rfl) sc_l_meant.nd rfl rfl (by decide) rfl rfl (pa_cons (pe_call G_l_worth_of (hr.mono (by omega)) rfl m_l_worth_of k_l_worth_of b_l_worth_of .nil pass0 (pa_cons (pe_ix ix_list (pv 3) pe_int (fun _ _ => rfl)) pa_nil)) (pa_cons pe_int pa_nil)) (by rfl))
      (pss_cons (ps_if (pt_cmpR op_eq (pv 4) pe_str (nomark _)) (pss_one (ps_par (i := 6) (j := 7) (by rfl) sc_l_meant.nd rfl rfl (by decide) rfl rfl (pa_cons (pe_call G_l_worth_of (hr.mono (by omega)) rfl m_l_worth_of k_l_worth_of b_l_worth_of .nil pass0 (pa_cons (pe_op op_add_str (pe_ix ix_list (pv 3) pe_int (fun _ _ => rfl)) (pe_ix ix_list (pv 3) pe_int (fun _ _ => rfl))) pa_nil)) (pa_cons (pe_call G_l_worth_of (hr.mono (by omega)) rfl m_l_worth_of k_l_worth_of b_l_worth_of .nil pass0 (pa_cons (pe_op op_add_str pe_str (pe_op op_mul_strI pe_str (pe_callB call_len_str (by rfl) T.n_len (by decide +kernel) (pa_cons (pe_ix ix_list (pv 3) pe_int (fun _ _ => rfl)) pa_nil)))) pa_nil)) pa_nil)) (by rfl))) pss_nil)
      (C8.pss_cut (ps_if (pt_cmpR op_eq (pv 4) pe_str (nomark _)) (pss_one (ps_set (i := 7) sc_l_meant.nd rfl (Or.inl rfl) (pe_call G_l_worth_of (hr.mono (by omega)) rfl m_l_worth_of k_l_worth_of b_l_worth_of .nil pass0 (pa_cons (pe_ix ix_list (pv 3) pe_int (fun _ _ => rfl)) pa_nil)))) pss_nil)
      (pss_cons (ps_if (pt_cmpR op_eq (pv 7) pe_int (nomark _)) (pss_one (ps_ret pe_non)) pss_nil)
      (pss_one (ps_ret (pe_call G_l_ratio (hr.mono (by omega)) rfl m_l_ratio k_l_ratio b_l_ratio .nil pass0 (pa_cons (pe_ix ix_list (pe_lst (pa_cons (pv 6) (pa_cons (pe_op op_sub pe_int (pv 6)) pa_nil))) (pe_callB call_len_str (by rfl) T.n_len (by decide +kernel) (pa_cons (pv 1) pa_nil)) (fun _ _ => rfl)) (pa_cons (pv 7) pa_nil)))))))))))))), ?_⟩
    have hsl : (SX.S l).length ≤ sizeLine := by rw [SX.S_len]; exact fitN (by omega)
    have e1 : Txt.slice (SX.S l) none (some 1) = SX.S (l.take 1) := by rw [SX.slice_to (by decide)]; rfl
    refine ⟨fun σ H2 => H = H2 ∧ ∃ sg, σ = [some (tx l), some (tx sg), none, none, none, none, none, none] ∧ sg = sgL l, ?_, ?_⟩
    · refine ⟨_, rfl, _, rfl, _, rfl, hsl, ?_⟩
      rw [e1]
      refine ⟨_, rfl, _, rfl, _, rfl, hsl, ?_⟩
      rw [e1]
      refine ⟨rfl, .inr ⟨_, rfl, ?_⟩⟩
      rw [neg1_take]
      refine ⟨l.take 1, (if neg1 l = true then 1 else 0 : Nat), rfl, (by split <;> rfl), (by split <;> decide), (by rw [List.length_take]; omega), rfl, _, rfl, sgL_is l⟩
    · rintro σ H2 ⟨rfl, sg, rfl, hsg⟩
      have e2 : Txt.slice (SX.S l) (some ((SX.S sg).length : Int)) none = SX.S (unsg l) := by
        rw [SX.slice_from (by omega), Int.toNat_natCast, SX.S_len, hsg, sgL_drop]
      have lsg : sg.length ≤ 1 := by rw [hsg]; unfold sgL; split <;> decide
      have hsgl : (SX.S sg).length ≤ sizeLine := by rw [SX.S_len]; exact fitN (by omega)
      refine ⟨_, rfl, _, rfl, _, rfl, hsgl, _, rfl, _, rfl, hsl, ?_⟩
      rw [e2]
      obtain ⟨u, hu⟩ : ∃ u, unsg l = u := ⟨_, rfl⟩
      rw [hu]
      have hul : u.length ≤ 100 := by
        rw [← hu, ← sgL_drop, List.length_drop]
        omega
      have hread : readL l = readU l u := by unfold readL; rw [hu]
      have emp : Str.ofString "" = SX.S [] := by decide +kernel
      refine ⟨(by show 1 ≤ sizeLine; decide), fun D hD => ⟨_, _, rfl, _, rfl, _, rfl, ?_⟩⟩
      refine for_str (l := u) (fun i σ H' => ∃ (rs : List (List Nat)) (cur ms : List Nat) (x : Option V), σ = [some (tx l), some (tx sg), some (tx u), some (.ref D), some (tx ms), x, none, none] ∧ H' D = some (.lst (txs (rs ++ [cur]))) ∧ Same H H' ∧
        rs.length = ms.length ∧ ms.length ≤ i ∧ jm rs ms cur = u.take i ∧ (∀ r ∈ rs ++ [cur], NumText.AllDigits r ∧ r.length ≤ i) ∧ (∀ m ∈ ms, isD m = false)) ?_ ?_ ?_
      · refine ⟨[], [], [], none, ?_, ?_, same_new hD _, rfl, Nat.le_refl _, rfl, ?_, fun m hm => by cases hm⟩
        · show [some (tx l), some (tx sg), some (V.str (SX.S u)), some (V.ref D), some (V.str (Str.ofString "")), none, none, none] = _
          rw [emp]
        · rw [upd_same, emp]
          rfl
        · intro r hr
          rw [List.mem_singleton.mp hr]
          exact ⟨fun c hc => (by cases hc), Nat.zero_le _⟩
      · rintro i c σ H' hc ⟨rs, cur, ms, x, rfl, hl0, sm, hrm, hmi, hjm, hrs, hms⟩
        have hi := get_lt hc
        have hcur := hrs cur (List.mem_append_right _ (List.mem_singleton.mpr rfl))
        have ein : (!(Builtin.Str.occurrences (Str.ofString "0123456789") (SX.S [c]) 0 (Str.ofString "0123456789").length 1).isEmpty) = isD c := by
          rw [ten_S, SX.in_one, isD_mem]
        have smu : ∀ o, Same H (upd H' D o) := fun o b v e => by
          rw [upd_ne (ne_of_none e hD)]
          exact sm b v e
        refine ⟨_, rfl, _, _, rfl, rfl, _, rfl, ?_⟩
        refine ite2 (fun h => ?_) (fun h => ?_)
        · have hcd : isD c = true := ein.symm.trans h
          refine ⟨_, rfl, _, rfl, D, _, _, tx cur, rfl, rfl, SqL.of hl0, (by rw [txs_snoc]; exact atI_last _ _), ?_⟩
          refine ⟨_, rfl, _, _, rfl, rfl, (by rw [SX.S_len, SX.S_len]; exact fitN (by show _ + 1 ≤ 5000; omega)), ?_⟩
          refine ⟨_, rfl, _, rfl, D, _, _, rs.length, rfl, rfl, hl0, (by rw [txs_len, List.length_append]; exact ixN_last _), ?_⟩
          refine ⟨rs, cur ++ [c], ms, _, rfl, ?_, smu _, hrm, by omega, ?_, ?_, hms⟩
          · rw [upd_same, txs_snoc, txs_snoc, SX.S_cat, ← txs_len rs, set_last]
          · rw [jm_more, hjm, take_more hc]
          · intro r hr
            rcases List.mem_append.mp hr with hr | hr
            · have := hrs r (List.mem_append_left _ hr)
              exact ⟨this.1, by omega⟩
            · rw [List.mem_singleton.mp hr]
              refine ⟨ad_app.mpr ⟨hcur.1, fun y hy => ?_⟩, by rw [List.length_append]; show cur.length + 1 ≤ _; omega⟩
              rw [List.mem_singleton.mp hy]
              exact isD_iff.mp hcd
        · have hcd : isD c = false := ein.symm.trans (Bool.eq_false_iff.mpr h)
          refine ⟨_, rfl, .inl ⟨rfl, _, SqL.of hl0⟩, D, _, _, rfl, rfl, hl0, (by rw [txs_len, List.length_append]; exact small1000 (by show rs.length + 1 ≤ 1000; omega)), ?_⟩
          refine ⟨_, rfl, _, rfl, _, _, rfl, rfl, (by rw [SX.S_len, SX.S_len]; exact fitN (by show _ + 1 ≤ 5000; omega)), ?_⟩
          refine ⟨rs ++ [cur], [], ms ++ [c], some (tx [c]), ?_, ?_, smu _, by rw [List.length_append, List.length_append, hrm]; rfl, by rw [List.length_append]; show ms.length + 1 ≤ _; omega, ?_, ?_, ?_⟩
          · show [_, _, _, _, some (V.str (SX.S ms ++ SX.S [c])), some (tx [c]), none, none] = _
            rw [SX.S_cat]
          · rw [upd_same, txs_snoc (rs ++ [cur]), emp]
          · rw [jm_mark _ _ _ _ hrm, hjm, take_more hc]
          · intro r hr
            rcases List.mem_append.mp hr with hr | hr
            · have := hrs r hr
              exact ⟨this.1, by omega⟩
            · rw [List.mem_singleton.mp hr]
              exact ⟨fun y hy => (by cases hy), Nat.zero_le _⟩
          · intro m hm
            rcases List.mem_append.mp hm with hm | hm
            · exact hms m hm
            · rw [List.mem_singleton.mp hm]
              exact hcd
      · rintro σ H' ⟨rs, cur, ms, x, rfl, hl0, sm, hrm, hmi, hjm, hrs, hms⟩
        rw [List.take_length] at hjm
        have hB : ∀ k, k ≤ 300 → (10 : Nat) ^ k < 2 ^ 8000 := fun k hk => pow10_2000 (by omega)
        have hrun := hrs cur (List.mem_append_right _ (List.mem_singleton.mpr rfl))
        have slash : Str.ofString "/" = SX.S [47] := by decide +kernel
        have dot : Str.ofString "." = SX.S [46] := by decide +kernel
        have one : Str.ofString "1" = SX.S [49] := by decide +kernel
        refine ⟨_, rfl, (by show 3 ≤ sizeLine; decide), fun p np => ?_⟩
        have s2 := sm.trans (same_new np (.lst [V.str (Str.ofString ""), V.str (Str.ofString "."), V.str (Str.ofString "/")]))
        have hl1 := same_new np (.lst [V.str (Str.ofString ""), V.str (Str.ofString "."), V.str (Str.ofString "/")]) _ _ hl0
        refine ⟨p, _, rfl, .inl (SqL.of upd_same), rfl, rfl, _, rfl, ?_⟩
        have hm1 := inV_marks ms
        refine ite2 (fun c1 => ?_) (fun c1 => ?_)
        · have c2 : (!inV (tx ms) [V.str (Str.ofString ""), V.str (Str.ofString "."), V.str (Str.ofString "/")]) = true := c1
          rw [hm1, Bool.not_eq_true', decide_eq_false_iff_not] at c2
          refine qn ?_ _ s2
          rw [hread]
          match ms, rs, hrm, hjm, c2, hms, hrs with
          | [], _, _, _, c2, _, _ => exact absurd (.inl rfl) c2
          | [c], [r], _, hjm, c2, hms, hrs =>
            rw [readU_mark hjm.symm (hrs r (List.mem_cons_self ..)).1 (hms c (List.mem_cons_self ..))]
            split
            · unfold markOf
              rw [if_neg (fun z => c2 (.inr (.inl (by rw [z])))), if_neg (fun z => c2 (.inr (.inr (by rw [z]))))]
            · rfl
          | c :: c' :: ms, r :: r' :: rs, _, hjm, _, hms, hrs =>
            exact readU_two hjm.symm (hrs r (List.mem_cons_self ..)).1 (hms c (List.mem_cons_self ..)) (hms c' (List.mem_cons_of_mem _ (List.mem_cons_self ..)))
        · have c2 : ¬ (!inV (tx ms) [V.str (Str.ofString ""), V.str (Str.ofString "."), V.str (Str.ofString "/")]) = true := c1
          rw [hm1, Bool.not_eq_true', decide_eq_false_iff_not, Classical.not_not] at c2
          refine ⟨_, rfl, D, _, rfl, .inl (SqL.of hl1), rfl, txs_flat _, _, rfl, ?_⟩
          have he := inV_empty (rs ++ [cur])
          refine ite2 (fun c3 => ?_) (fun c3 => ?_)
          · have c4 : [] ∈ rs ++ [cur] := of_decide_eq_true (he.symm.trans c3)
            refine qn ?_ _ s2
            rw [hread]
            rcases c2 with rfl | rfl | rfl
            · have : rs = [] := List.length_eq_zero_iff.mp hrm
              subst this
              have e : cur = [] := (List.mem_singleton.mp c4).symm
              rw [← hjm, e]
              rfl
            all_goals
              obtain ⟨r, rfl⟩ := List.length_eq_one_iff.mp hrm
              rw [readU_mark hjm.symm (hrs r (List.mem_cons_self ..)).1 (by rfl), if_neg]
              rintro ⟨d1, d2⟩
              rcases List.mem_cons.mp c4 with z | z
              · rw [← z] at d1; cases d1
              · rw [← List.mem_singleton.mp z] at d2; cases d2
          · have c4 : [] ∉ rs ++ [cur] := fun z => c3 (he.trans (decide_eq_true z))
            have dcur : digs cur = true := digs_iff.mpr ⟨fun z => c4 (by rw [z]; exact List.mem_append_right _ (List.mem_singleton.mpr rfl)), hrun.1⟩
            rcases c2 with rfl | rfl | rfl
            · have : rs = [] := List.length_eq_zero_iff.mp hrm
              subst this
              have hcu : cur = u := hjm
              refine ⟨_, rfl, D, _, _, tx cur, rfl, rfl, SqL.of hl1, rfl, cur, rfl, hrun.1, by omega, _, _, rfl, ?_⟩
              refine ⟨_, rfl, rfl, _, rfl, ?_⟩
              refine ite2 (fun c5 => ?_) (fun c5 => ?_)
              · exfalso
                have z := of_decide_eq_true c5
                injection z with z
                rw [dot] at z
                exact absurd (SX.S_inj z).symm (List.cons_ne_nil _ _)
              · refine ⟨fun σ H2 => ∃ (t m : Nat) (x2 x3 x4 x5 : Option V), σ = [some (tx l), some (tx sg), x2, x3, x4, x5, some (.int (t : Int)), some (.int (m : Int))] ∧ Same H H2 ∧ m < 2 ^ 8000 ∧ readL l = (if m = 0 then none else some (nrm (sgnd l t) (m : Int))), ?_, ?_⟩
                · refine ⟨_, rfl, rfl, _, rfl, ?_⟩
                  refine ite2 (fun c6 => ?_) (fun c6 => ?_)
                  · exfalso
                    have z := of_decide_eq_true c6
                    injection z with z
                    rw [slash] at z
                    exact absurd (SX.S_inj z).symm (List.cons_ne_nil _ _)
                  · refine ⟨_, 1, _, _, _, _, rfl, s2, by decide +kernel, ?_⟩
                    rw [hread, ← hcu, readU_digs dcur]
                    rfl
                · rintro σ H2 ⟨t, m, x2, x3, x4, x5, rfl, s3, hmB, hrl⟩
                  refine ⟨_, rfl, rfl, _, rfl, ?_⟩
                  refine ite2 (fun c5 => ?_) (fun c5 => ?_)
                  · have m0 : m = 0 := by
                      have z := of_decide_eq_true c5
                      injection z with z
                      omega
                    exact qn (by rw [hrl, if_pos m0]) _ s3
                  · have m0 : m ≠ 0 := fun z => c5 (by rw [z]; rfl)
                    rw [if_neg m0] at hrl
                    refine ⟨_, rfl, _, rfl, _, _, rfl, rfl, (by show 2 ≤ sizeLine; decide), fun p3 np3 => ?_⟩
                    have s4 := s3.trans (same_new np3 (.lst [.int (t : Int), .int (0 - (t : Int))]))
                    refine ⟨_, rfl, _, rfl, hsgl, p3, _, _, .int (sgnd l t), rfl, rfl, SqL.of upd_same, ?_, ?_⟩
                    · rw [SX.S_len, hsg]
                      unfold sgL sgnd
                      split
                      · rw [← Int.zero_sub]
                        rfl
                      · rfl
                    · exact ⟨_, rfl, sgnd l t, (m : Int), rfl, by omega, by rw [Int.natAbs_natCast]; exact hmB, fun p4 H4 s5 h4 => q _ p4 H4 hrl (s4.trans s5) h4⟩
            · obtain ⟨r, rfl⟩ := List.length_eq_one_iff.mp hrm
              have hrr := hrs r (List.mem_cons_self ..)
              have dr : digs r = true := digs_iff.mpr ⟨fun z => c4 (by rw [z]; exact List.mem_cons_self ..), hrr.1⟩
              refine ⟨_, rfl, D, _, _, tx r, rfl, rfl, SqL.of hl1, rfl, r, rfl, hrr.1, by omega, _, _, rfl, ?_⟩
              refine ⟨_, rfl, rfl, _, rfl, ?_⟩
              refine ite2 (fun c5 => ?_) (fun c5 => ?_)
              · have adz : NumText.AllDigits (49 :: repL cur.length [48]) := by
                  intro y hy
                  rcases List.mem_cons.mp hy with rfl | hy
                  · decide
                  · rw [rep_zero] at hy
                    rw [(List.mem_replicate.mp hy).2]
                    decide
                have lz : (repL cur.length [48]).length = cur.length := by rw [rep_zero, List.length_replicate]
                refine ⟨_, rfl, D, _, _, tx r, rfl, rfl, SqL.of hl1, rfl, _, rfl, D, _, _, tx cur, rfl, rfl, SqL.of hl1, rfl, _, _, rfl, rfl, (by rw [SX.S_len, SX.S_len]; exact fitN (by omega)), r ++ cur, (by rw [SX.S_cat]; rfl), ad_app.mpr ⟨hrr.1, hrun.1⟩, (by rw [List.length_append]; omega), ?_⟩
                refine ⟨_, rfl, D, _, _, tx cur, rfl, rfl, SqL.of hl1, rfl, _, rfl, (by rw [SX.S_len]; exact fitN (by omega)), [48], cur.length, (congrArg V.str zero_S), (by rw [SX.S_len]), (by omega), (by decide), _, _, rfl, rfl, ?_, 49 :: repL cur.length [48], (by rw [one, SX.S_cat]; rfl), adz, (by rw [List.length_cons, lz]; omega), _, _, rfl, ?_⟩
                · rw [one, SX.S_len, SX.S_len, lz]
                  exact fitN (by show 1 + _ ≤ 5000; omega)
                refine ⟨fun σ H2 => ∃ (t m : Nat) (x2 x3 x4 x5 : Option V), σ = [some (tx l), some (tx sg), x2, x3, x4, x5, some (.int (t : Int)), some (.int (m : Int))] ∧ Same H H2 ∧ m < 2 ^ 8000 ∧ readL l = (if m = 0 then none else some (nrm (sgnd l t) (m : Int))), ?_, ?_⟩
                · refine ⟨_, rfl, rfl, _, rfl, ?_⟩
                  refine ite2 (fun c6 => ?_) (fun c6 => ?_)
                  · exfalso
                    have z := of_decide_eq_true c6
                    injection z with z
                    rw [slash] at z
                    exact absurd (List.cons.inj (SX.S_inj z)).1 (by decide)
                  · refine ⟨_, _, _, _, _, _, rfl, s2, (by rw [dv_pow]; exact hB _ (by omega)), ?_⟩
                    rw [dv_pow, if_neg (Nat.ne_of_gt (Nat.pow_pos (by decide))), hread, readU_mark hjm.symm hrr.1 (by rfl), if_pos ⟨dr, dcur⟩]
                    rfl
                · rintro σ H2 ⟨t, m, x2, x3, x4, x5, rfl, s3, hmB, hrl⟩
                  refine ⟨_, rfl, rfl, _, rfl, ?_⟩
                  refine ite2 (fun c5 => ?_) (fun c5 => ?_)
                  · have m0 : m = 0 := by
                      have z := of_decide_eq_true c5
                      injection z with z
                      omega
                    exact qn (by rw [hrl, if_pos m0]) _ s3
                  · have m0 : m ≠ 0 := fun z => c5 (by rw [z]; rfl)
                    rw [if_neg m0] at hrl
                    refine ⟨_, rfl, _, rfl, _, _, rfl, rfl, (by show 2 ≤ sizeLine; decide), fun p3 np3 => ?_⟩
                    have s4 := s3.trans (same_new np3 (.lst [.int (t : Int), .int (0 - (t : Int))]))
                    refine ⟨_, rfl, _, rfl, hsgl, p3, _, _, .int (sgnd l t), rfl, rfl, SqL.of upd_same, ?_, ?_⟩
                    · rw [SX.S_len, hsg]
                      unfold sgL sgnd
                      split
                      · rw [← Int.zero_sub]
                        rfl
                      · rfl
                    · exact ⟨_, rfl, sgnd l t, (m : Int), rfl, by omega, by rw [Int.natAbs_natCast]; exact hmB, fun p4 H4 s5 h4 => q _ p4 H4 hrl (s4.trans s5) h4⟩
              · exfalso
                rw [dot] at c5
                exact c5 (decide_eq_true rfl)
            · obtain ⟨r, rfl⟩ := List.length_eq_one_iff.mp hrm
              have hrr := hrs r (List.mem_cons_self ..)
              have dr : digs r = true := digs_iff.mpr ⟨fun z => c4 (by rw [z]; exact List.mem_cons_self ..), hrr.1⟩
              refine ⟨_, rfl, D, _, _, tx r, rfl, rfl, SqL.of hl1, rfl, r, rfl, hrr.1, by omega, _, _, rfl, ?_⟩
              refine ⟨_, rfl, rfl, _, rfl, ?_⟩
              refine ite2 (fun c5 => ?_) (fun c5 => ?_)
              · exfalso
                have z := of_decide_eq_true c5
                injection z with z
                rw [dot] at z
                exact absurd (List.cons.inj (SX.S_inj z)).1 (by decide)
              · refine ⟨fun σ H2 => ∃ (t m : Nat) (x2 x3 x4 x5 : Option V), σ = [some (tx l), some (tx sg), x2, x3, x4, x5, some (.int (t : Int)), some (.int (m : Int))] ∧ Same H H2 ∧ m < 2 ^ 8000 ∧ readL l = (if m = 0 then none else some (nrm (sgnd l t) (m : Int))), ?_, ?_⟩
                · refine ⟨_, rfl, rfl, _, rfl, ?_⟩
                  refine ite2 (fun c6 => ?_) (fun c6 => ?_)
                  · refine ⟨_, rfl, D, _, _, tx cur, rfl, rfl, SqL.of hl1, rfl, cur, rfl, hrun.1, by omega, _, _, _, _, _, _, rfl, s2, Nat.lt_trans (dv_lt _ hrun.1) (hB _ (by omega)), ?_⟩
                    rw [hread, readU_mark hjm.symm hrr.1 (by rfl), if_pos ⟨dr, dcur⟩]
                    rfl
                  · exfalso
                    rw [slash] at c6
                    exact c6 (decide_eq_true rfl)
                · rintro σ H2 ⟨t, m, x2, x3, x4, x5, rfl, s3, hmB, hrl⟩
                  refine ⟨_, rfl, rfl, _, rfl, ?_⟩
                  refine ite2 (fun c5 => ?_) (fun c5 => ?_)
                  · have m0 : m = 0 := by
                      have z := of_decide_eq_true c5
                      injection z with z
                      omega
                    exact qn (by rw [hrl, if_pos m0]) _ s3
                  · have m0 : m ≠ 0 := fun z => c5 (by rw [z]; rfl)
                    rw [if_neg m0] at hrl
                    refine ⟨_, rfl, _, rfl, _, _, rfl, rfl, (by show 2 ≤ sizeLine; decide), fun p3 np3 => ?_⟩
                    have s4 := s3.trans (same_new np3 (.lst [.int (t : Int), .int (0 - (t : Int))]))
                    refine ⟨_, rfl, _, rfl, hsgl, p3, _, _, .int (sgnd l t), rfl, rfl, SqL.of upd_same, ?_, ?_⟩
                    · rw [SX.S_len, hsg]
                      unfold sgL sgnd
                      split
                      · rw [← Int.zero_sub]
                        rfl
                      · rfl
                    · exact ⟨_, rfl, sgnd l t, (m : Int), rfl, by omega, by rw [Int.natAbs_natCast]; exact hmB, fun p4 H4 s5 h4 => q _ p4 H4 hrl (s4.trans s5) h4⟩
end

theorem dv_digits100 {b : List Nat} (h : NumText.AllDigits b) (l : b.length ≤ 1500) : NumText.digitsVal b < 2 ^ 8000 := Nat.lt_trans (Nat.lt_of_lt_of_le (dv_lt _ h) (Nat.pow_le_pow_right (by decide) l)) (pow10_2000 (k := 1500) (by decide))
theorem rok_small {l : List Nat} (h : l.length ≤ 1500) : Rok l := by
  refine ⟨by omega, fun a b da db => ⟨fun e hb => log_gcd hb (dv_digits100 db ?_), fun e => ?_⟩⟩
  all_goals
    have e2 : (unsg l).length ≤ l.length := by
      unfold unsg
      split
      · exact Nat.le_succ _
      · exact Nat.le_refl _
    rw [e, List.length_append, List.length_cons] at e2
    omega
def spRead : Sp := fun vs H Q _ => ∃ l : List Nat, vs = [tx l] ∧ l.length ≤ 100 ∧ (∀ z pt p H', readL l = some z → Same H H' → H' pt = some (.tup [.str "told", .ref p]) → H' p = some (.tup [.int z.1, .int z.2]) → Q (.ref pt) H') ∧
  (readL l = none → ∀ pt H', Same H H' → H' pt = some (.tup [.str "refused", tx l, .bl true]) → Q (.ref pt) H')
def spFigures : Sp := fun vs H Q _ => ∃ n : Nat, vs = [.int (n : Int)] ∧ n < 10 ^ 5000 ∧ ∀ H', Same H H' → Q (tx (TL.numL n)) H'
theorem num_tail {m : Nat} (h : m < 10 ^ 9) : TL.numL (10 ^ 9 + m) = 49 :: padL 9 m := by
  have e := numL_split 9 (10 ^ 9 + m) (by omega)
  rw [show (10 ^ 9 + m) / 10 ^ 9 = 1 by omega, show (10 ^ 9 + m) % 10 ^ 9 = m by omega] at e
  rw [e]
  rfl
theorem log_small {n : Nat} (h : n < 10 ^ 11) : ((n : Nat) : Int).natAbs.log2 < 1920 := log_group (Nat.lt_trans h (by decide +kernel))
section
variable {P : Program} {w : World} {K : PySem.W.Frag} {mg : Str → Option Value} {base : Heap}
theorem ok_read {C S : Addr} (T : Bt mg) (Ti : ErrF P w K mg base "InvalidText" "text" C) (gS : mg "SheetError" = some (.ref S)) (kS : PySem.W.kitOne K (.ref C) (.ref S) = some true)
    (GA : Kn P w K mg base (L2.CX P w) "read_ratio" 3 ["text"] (spReadRat C)) (D : Df K mg "_law_read" s_l_read ["_law_text"]) : Kn P w K mg base CX0 "_law_read" 4 ["_law_text"] spRead := by
  obtain ⟨f, fd, F, hm, hb⟩ := D
  obtain ⟨f_read_ratio, fd_read_ratio, G_read_ratio, m_read_ratio, k_read_ratio, b_read_ratio⟩ := GA
  refine ⟨f, fd, F.ok sc_l_read (fun vs H Q E h => ?_) (fun cdv A outer s H vs Q E hr h => ?_), hm, F.kp, hb⟩
  · obtain ⟨l, rfl, _⟩ := h
    rfl
  · obtain ⟨l, rfl, hl, q1, q2⟩ := h
    refine ⟨_, (pss_cons (ps_set (i := 1) sc_l_read.nd rfl (Or.inl rfl) pe_non)
      (pss_cons (ps_try_as (i := 2) rfl rfl sc_l_read.nd rfl rfl ⟨rfl, by decide, Or.inl Ti.gC⟩ takes0 (fun W pn xe tk _ => (pss_one (ps_set (i := 1) sc_l_read.nd rfl (Or.inl rfl) (pe_tup (pa_cons pe_str (pa_cons (pe_callS G_read_ratio (hr.mono (by omega)) rfl m_read_ratio k_read_ratio b_read_ratio (fun σ => passAt tk σ) (pa_cons (pv 0) pa_nil)) pa_nil)))))) (fun ea oe cls ed pn hz hf => (pss_one (ps_set (i := 1) sc_l_read.nd rfl (Or.inl rfl) (pe_tup (pa_cons pe_str (pa_cons (pe_xf Ti.xf Ti.no hz hf (pv 2)) (pa_cons (pe_callB (call_isErr Ti.ec hz hf) (by rfl) T.n_isinstance (by decide +kernel) (pa_cons (pv 2) (pa_cons (pe_glob (v := .ref S) rfl gS rfl) pa_nil))) pa_nil))))))))
      (pss_one (ps_ret (pv 1))))), ?_⟩
    refine ⟨_, rfl, l, rfl, rok_small (by omega), fun z p H1 e s1 hp => ?_, fun e dx H1 s1 hx => ?_⟩
    · refine ⟨(by show 2 ≤ sizeLine; decide), fun pt np => ⟨_, rfl, ?_⟩⟩
      exact q1 z pt p _ e (s1.trans (same_new np _)) upd_same (same_new np _ _ _ hp)
    · refine ⟨true, Ti.ex, fun _ ea hea => ?_, fun z => nomatch z⟩
      refine ⟨_, rfl, rfl, rfl, dx, _, tx l, rfl, hx, rfl, ?_⟩
      refine ⟨_, rfl, .ref S, .ref S, true, rfl, rfl, .own S, kS, .inr ⟨dx, _, rfl, hx⟩, (by show 3 ≤ sizeLine; decide), fun p np => ⟨_, rfl, ?_⟩⟩
      exact q2 e p _ (s1.trans (same_new np _)) upd_same
theorem ok_figures (T : Bt mg) (Tt : Ut mg) (D : Df K mg "_law_figures" s_l_figures ["_law_number_here"]) : Kn P w K mg base CX0 "_law_figures" 1 ["_law_number_here"] spFigures := by
  obtain ⟨f, fd, F, hm, hb⟩ := D
  refine ⟨f, fd, F.ok sc_l_figures (fun vs H Q E h => ?_) (fun cdv A outer s H vs Q E hr h => ?_), hm, F.kp, hb⟩
  · obtain ⟨n, rfl, _⟩ := h
    rfl
  · obtain ⟨N, rfl, hn, q⟩ := h
    refine ⟨_, (pss_cons (ps_set (i := 1) sc_l_figures.nd rfl (Or.inl rfl) (pe_lst pa_nil))
      (pss_cons (ps_while PassesOwn.never (pt_cmpR op_ge (pv 0) (pe_op op_powB pe_int pe_int) (nomark _)) (pss_cons (ps_expr (pe_bm PySem.F.plainAttrs_list PySem.F.slot_list_append PySem.F.type_list_append mt_append (pv 1) (pa_cons (pe_slice C8.sl_txt (pe_callTy call_str_int (by rfl) Tt.n_str (by decide +kernel) (pa_cons (pe_op op_add (pe_op op_powB pe_int pe_int) (pe_op op_mod (pv 0) (pe_op op_powB pe_int pe_int))) pa_nil)) (po_some pe_int) po_none) pa_nil)))
      (pss_one (ps_set (i := 0) sc_l_figures.nd rfl (Or.inl rfl) (pe_op op_fdivW (pv 0) (pe_op op_powB pe_int pe_int))))))
      (pss_one (ps_ret (pe_op op_add_str (pe_callTy call_str_int (by rfl) Tt.n_str (by decide +kernel) (pa_cons (pv 0) pa_nil)) (pe_bm PySem.F.plainAttrs_str PySem.F.slot_str_join PySem.F.type_str_join mt_join pe_str (pa_cons (pe_revL (pv 1)) pa_nil))))))), ?_⟩
    have hNl := numL_len5000 hn
    refine ⟨(by show 0 ≤ sizeLine; decide), fun l nl => ?_⟩
    refine while_by (fun σ H2 => ∃ (r : Nat) (gs : List (List Nat)), σ = [some (.int (r : Int)), some (.ref l)] ∧ H2 l = some (.lst (txs gs)) ∧ Same H H2 ∧
      TL.numL N = TL.numL r ++ gs.reverse.flatten ∧ (∀ g ∈ gs, g.length = 9)) (fun σ _ => match σ with | [some (.int r), _] => r.natAbs | _ => 0)
      ⟨N, [], rfl, upd_same, same_new nl _, (by rw [List.reverse_nil, List.flatten_nil, List.append_nil]), fun g hg => by cases hg⟩ ?_ ?_
    · rintro σ H2 ⟨r, gs, rfl, hl, sm, hv, hgs⟩
      have hgl : 9 * gs.length = gs.reverse.flatten.length := by
        rw [List.length_flatten, List.map_reverse, List.sum_reverse]
        clear hv hl
        induction gs with
        | nil => rfl
        | cons g gs ih =>
          rw [List.map_cons, List.sum_cons, hgs g (List.mem_cons_self ..), ← ih (fun g hg => hgs g (List.mem_cons_of_mem _ hg)), List.length_cons]
          omega
      have hlen : (TL.numL r).length + 9 * gs.length ≤ 5000 := by
        rw [hgl, ← List.length_append, ← hv]
        exact hNl
      refine ⟨_, rfl, _, _, rfl, rfl, ⟨by decide, by decide +kernel⟩, _, _, rfl, rfl, _, rfl, ?_⟩
      refine ite2 (fun c => ?_) (fun c => ?_)
      · have c0 : (10 : Int) ^ (9 : Int).toNat ≤ (r : Int) := of_decide_eq_true c
        have hr9 : 10 ^ 9 ≤ r := by
          have : (10 : Int) ^ (9 : Int).toNat = 1000000000 := by decide
          omega
        have hm9 : r % 10 ^ 9 < 10 ^ 9 := Nat.mod_lt _ (by decide)
        have p9 : (10 : Int) ^ (9 : Int).toNat = 1000000000 := by decide
        have eq1 : (10 : Int) ^ (9 : Int).toNat + (r : Int) % (10 : Int) ^ (9 : Int).toNat = ((10 ^ 9 + r % 10 ^ 9 : Nat) : Int) := by
          rw [p9]
          omega
        have eq2 : (r : Int) / (10 : Int) ^ (9 : Int).toNat = ((r / 10 ^ 9 : Nat) : Int) := by
          rw [p9]
          omega
        have es : Txt.slice (Str.ofString (toString ((10 : Int) ^ (9 : Int).toNat + (r : Int) % (10 : Int) ^ (9 : Int).toNat))) (some 1) none = SX.S (padL 9 (r % 10 ^ 9)) := by
          rw [eq1, SX.num_S, num_tail hm9, SX.slice_from (by decide)]
          rfl
        have hll : (Str.ofString (toString ((10 : Int) ^ (9 : Int).toNat + (r : Int) % (10 : Int) ^ (9 : Int).toNat))).length ≤ sizeLine := by
          rw [eq1, SX.num_S, num_tail hm9, SX.S_len, List.length_cons, padL_len]
          exact fitN (by decide)
        refine ⟨_, rfl, .inl ⟨rfl, _, SqL.of hl⟩, _, _, rfl, rfl, ⟨by decide, by decide +kernel⟩, _, rfl, _, _, rfl, rfl, ⟨by decide, by decide +kernel⟩, _, _, rfl, rfl, (by show (0 : Int) < 10 ^ (9 : Int).toNat; decide), _, _, rfl, rfl, _, rfl, (by rw [eq1]; exact log_small (by omega)), _, rfl, _, rfl, hll, _, _, _, rfl, rfl, hl, (by rw [txs_len]; exact small1000 (by omega)), ?_⟩
        refine ⟨_, rfl, _, _, rfl, rfl, ⟨by decide, by decide +kernel⟩, _, _, rfl, rfl, wide_div (b := 40) (by decide) (by decide) (by decide) (by decide), ?_⟩
        refine ⟨⟨r / 10 ^ 9, gs ++ [padL 9 (r % 10 ^ 9)], (by rw [← eq2]; rfl), ?_, ?_, ?_, ?_⟩, ?_⟩
        · rw [upd_same, es, txs_snoc]
        · intro b u e
          rw [upd_ne (ne_of_none e nl)]
          exact sm b u e
        · rw [hv, numL_split 9 r hr9, List.reverse_append, List.reverse_singleton, List.singleton_append, List.flatten_cons, List.append_assoc]
        · intro g hg
          rcases List.mem_append.mp hg with h | h
          · exact hgs g h
          · rw [List.mem_singleton.mp h, padL_len]
        · show ((r : Int) / (10 : Int) ^ (9 : Int).toNat).natAbs < ((r : Nat) : Int).natAbs
          rw [p9]
          omega
      · have c0 : ¬ (10 : Int) ^ (9 : Int).toNat ≤ (r : Int) := fun z => c (decide_eq_true z)
        have hr9 : r < 10 ^ 9 := by
          have : (10 : Int) ^ (9 : Int).toNat = 1000000000 := by decide
          omega
        have hrev : (txs gs).reverse = txs gs.reverse := by
          unfold txs
          rw [List.map_reverse, List.map_reverse]
        have hj : Txt.join (Str.ofString "") (gs.reverse.map SX.S) = SX.S gs.reverse.flatten := by
          rw [show Str.ofString "" = SX.S [] by decide +kernel, SX.join_S, join_nil]
        have hsz : ((gs.reverse.map SX.S).map (·.length)).sum + (gs.reverse.map SX.S).length * (Str.ofString "").length ≤ 16777216 := by
          rw [SX.lens, ← List.length_flatten, ← hgl, show (Str.ofString "").length = 0 by decide +kernel, Nat.mul_zero, Nat.add_zero]
          omega
        refine ⟨_, rfl, _, rfl, log_small (Nat.lt_trans hr9 (by decide)), rfl, _, rfl, l, _, rfl, SqL.of hl, fun p np => ?_⟩
        refine ⟨_, p, _, rfl, rfl, .inl (SqL.of (by rw [upd_same, hrev])), hsz, ?_⟩
        rw [hj, SX.num_S]
        refine ⟨_, _, rfl, rfl, (by rw [SX.S_len, SX.S_len, ← hgl]; exact fitN (by omega)), ?_⟩
        rw [SX.S_cat, ← hv]
        exact q _ (sm.trans (same_new np _))
    · intro σ H' Q1 Q2 hq h
      obtain ⟨v, h1, i, j, e1, e2, hc, i2, j2, e3, e4, k, e5, h3⟩ := h
      exact ⟨v, h1, i, j, e1, e2, hc, i2, j2, e3, e4, k, e5, hq _ _ h3⟩
end

/-! ### a written ratio, read -/
theorem numL_head {n c : Nat} {r : List Nat} (h : TL.numL n = c :: r) : c ≠ 45 := by
  have := TL.numL_digits n c (by rw [h]; exact List.mem_cons_self ..)
  omega
theorem unsg_num (n : Nat) (t : List Nat) : unsg (TL.numL n ++ t) = TL.numL n ++ t ∧ neg1 (TL.numL n ++ t) = false := by
  cases h : TL.numL n with
  | nil => exact absurd h (TL.numL_ne n)
  | cons c r =>
    have hc := numL_head h
    refine ⟨?_, ?_⟩
    · unfold unsg
      split
      · rename_i w
        exact absurd (List.cons.inj w).1 hc
      · rfl
    · unfold neg1
      rw [decide_eq_false_iff_not]
      intro z
      exact hc (Option.some.inj z)
theorem unsg_int (n : Int) (t : List Nat) : unsg (intL n ++ t) = TL.numL n.natAbs ++ t ∧ neg1 (intL n ++ t) = decide (n < 0) := by
  unfold intL
  by_cases h : n < 0
  · rw [if_pos h, decide_eq_true h]
    exact ⟨rfl, rfl⟩
  · rw [if_neg h, decide_eq_false h]
    exact unsg_num _ t
theorem digs_num (n : Nat) : digs (TL.numL n) = true := digs_iff.mpr ⟨TL.numL_ne n, TL.numL_digits n⟩
theorem sgnd_int {n : Int} {l : List Nat} (h : neg1 l = decide (n < 0)) : sgnd l n.natAbs = n := by
  unfold sgnd
  rw [h]
  by_cases c : n < 0
  · rw [decide_eq_true c, if_pos rfl]
    omega
  · rw [decide_eq_false c, if_neg Bool.false_ne_true]
    omega
theorem intL_pos {n : Int} (h : 0 ≤ n) : intL n = TL.numL n.natAbs := if_neg (by omega)
theorem readL_rat {z : Int × Int} (h : Red z) : readL (ratL z) = some z := by
  have hp := h.pos
  unfold ratL
  split
  · rename_i e
    have u := unsg_int z.1 []
    rw [List.append_nil, List.append_nil] at u
    unfold readL
    rw [u.1, readU_digs (digs_num _), TL.numL_val, sgnd_int u.2]
    have e2 := nrm_of h
    rw [e] at e2
    rw [e2]
  · have u := unsg_int z.1 (47 :: intL z.2)
    unfold readL
    rw [u.1, intL_pos (n := z.2) (by omega), readU_mark rfl (TL.numL_digits _) (by rfl), if_pos ⟨digs_num _, digs_num _⟩]
    unfold markOf
    rw [if_neg (by decide), if_pos rfl, TL.numL_val, TL.numL_val, if_neg (by omega)]
    rw [← intL_pos (n := z.2) (by omega), sgnd_int u.2, show ((z.2.natAbs : Nat) : Int) = z.2 by omega, nrm_of h]
theorem not_mem_num {n c : Nat} (h : isD c = false) : c ∉ TL.numL n := not_mem_digs (digs_num n) h
/-- a written ratio that is long above the line or below it -/
theorem rok_rat {z : Int × Int} (h1 : (intL z.1).length ≤ 4900) (h2 : (intL z.2).length ≤ 4900) (hz : 0 < z.2) (h : z.2 = 1 ∨ z.1.natAbs = 1) (hl : (ratL z).length ≤ 4990) : Rok (ratL z) := by
  refine ⟨hl, fun a b da db => ?_⟩
  unfold ratL
  split
  · have u := unsg_int z.1 []
    rw [List.append_nil, List.append_nil] at u
    rw [u.1]
    refine ⟨fun e _ => ?_, fun e => ?_⟩
    · exact absurd (by rw [e]; exact List.mem_append_right _ (List.mem_cons_self ..)) (not_mem_num (n := z.1.natAbs) (c := 47) rfl)
    · exact absurd (by rw [e]; exact List.mem_append_right _ (List.mem_cons_self ..)) (not_mem_num (n := z.1.natAbs) (c := 46) rfl)
  · rename_i hne
    have u := unsg_int z.1 (47 :: intL z.2)
    have h11 : z.1.natAbs = 1 := by
      rcases h with h | h
      · exact absurd h hne
      · exact h
    rw [u.1, h11]
    refine ⟨fun e hb => ?_, fun e => ?_⟩
    · obtain ⟨ea, _⟩ := split_uniq e (not_mem_num rfl) (fun hm => by have := ad_isD da hm; cases this)
      rw [← ea, show NumText.digitsVal (TL.numL 1) = 1 from TL.numL_val 1, Nat.gcd_one_left]
      decide
    · exfalso
      have hm : 46 ∈ TL.numL 1 ++ 47 :: intL z.2 := by rw [e]; exact List.mem_append_right _ (List.mem_cons_self ..)
      rcases List.mem_append.mp hm with hm | hm
      · exact not_mem_num rfl hm
      · rcases List.mem_cons.mp hm with hm | hm
        · cases hm
        · rw [intL_pos (by omega)] at hm
          exact not_mem_num rfl hm
theorem eqv_rat (t m : Int) : PyData.eqv (rat t m) (rat t m) = true := PySem.SeqAt.eqv_refl _ rfl
theorem shp_rat (t m : Int) : SeqAt.shaped (rat t m) = true := rfl
theorem iteEqv {c : Bool} {A B : Prop} (hc : c = true) (h : B) : if (!c) = true then A else B := by
  rw [hc]
  exact iteF h
theorem iteDd {c A B : Prop} [Decidable c] (hc : c) (h : A) : if decide c = true then A else B := by
  rw [decide_eq_true hc]
  exact iteT h
theorem intL_le {n : Int} {k : Nat} (hk : 0 < k) (h : n.natAbs < 10 ^ k) : (intL n).length ≤ k + 1 := by
  have := TL.numL_len hk h
  unfold intL
  split
  · rw [List.length_cons]
    omega
  · omega
def spGoes : Sp := fun vs H Q _ => ∃ (b g c : Addr) (n : Nat), vs = [.ref b] ∧ Box H b g c n ∧ n + 100 < 1000000 ∧ ∀ H', Q (.bl true) H'
theorem pow4800 : (10 : Nat) ^ 4800 < 2 ^ 16000 := by decide +kernel
section
variable {P : Program} {w : World} {K : PySem.W.Frag} {mg : Str → Option Value} {base : Heap}
theorem ok_goes {C : Addr} (T : Bt mg) (GT : Kn P w K mg base CX0 "_law_take" 2 ["_law_box_here", "_law_size"] spTake) (GM : Kn P w K mg base CX0 "multiply" 4 ["one", "other"] (spMulW K)) (GD : Kn P w K mg base (L2.CX P w) "divide" 4 ["one", "other"] (spDivW K))
    (GF : Kn P w K mg base CX0 "_law_figures" 1 ["_law_number_here"] spFigures) (GX : Kn P w K mg base CX0 "ratio_text" 4 ["number"] (spRatText K)) (GA : Kn P w K mg base (L2.CX P w) "read_ratio" 3 ["text"] (spReadRat C))
    (D : Df K mg "_law_goes_far" s_l_goes_far ["_law_box_here"]) : Kn P w K mg base CX0 "_law_goes_far" 5 ["_law_box_here"] spGoes := by
  obtain ⟨f, fd, F, hm, hb⟩ := D
  obtain ⟨f_l_take, fd_l_take, G_l_take, m_l_take, k_l_take, b_l_take⟩ := GT
  obtain ⟨f_multiply, fd_multiply, G_multiply, m_multiply, k_multiply, b_multiply⟩ := GM
  obtain ⟨f_divide, fd_divide, G_divide, m_divide, k_divide, b_divide⟩ := GD
  obtain ⟨f_l_figures, fd_l_figures, G_l_figures, m_l_figures, k_l_figures, b_l_figures⟩ := GF
  obtain ⟨f_ratio_text, fd_ratio_text, G_ratio_text, m_ratio_text, k_ratio_text, b_ratio_text⟩ := GX
  obtain ⟨f_read_ratio, fd_read_ratio, G_read_ratio, m_read_ratio, k_read_ratio, b_read_ratio⟩ := GA
  refine ⟨f, fd, F.ok sc_l_goes_far (fun vs H Q E h => ?_) (fun cdv A outer s H vs Q E hr h => ?_), hm, F.kp, hb⟩
  · obtain ⟨b, g, c, n, rfl, _⟩ := h
    rfl
  · obtain ⟨b, g, c, n, rfl, B, hn, q⟩ := h
    refine ⟨_, (pss_cons (ps_asg (pe_tup (pa_cons (pe_tup (pa_cons pe_int (pa_cons pe_int pa_nil))) (pa_cons pe_int pa_nil))) (pg_tup (by rfl) (pgs_cons (pg_name (i := 1) sc_l_goes_far.nd rfl (Or.inl rfl)) (pgs_cons (pg_name (i := 2) sc_l_goes_far.nd rfl (Or.inl rfl)) pgs_nil))))
      (pss_cons (ps_for PassesOwn.never rfl (pi_range1 rfl T.n_range (pa_cons (pe_op op_add pe_int (pe_call G_l_take (hr.mono (by omega)) rfl m_l_take k_l_take b_l_take .nil pass0 (pa_cons (pv 0) (pa_cons pe_int pa_nil)))) pa_nil)) (pg_name (i := 3) sc_l_goes_far.nd rfl (Or.inl rfl))
        (pss_cons (ps_set (i := 4) sc_l_goes_far.nd rfl (Or.inl rfl) (pe_op op_add (pe_op op_mulW (pe_op op_powB (pe_op op_powB pe_int pe_int) pe_int) (pe_op op_powB pe_int pe_int)) (pe_call G_l_take (hr.mono (by omega)) rfl m_l_take k_l_take b_l_take .nil pass0 (pa_cons (pv 0) (pa_cons (pe_ix ix_list (pe_lst (pa_cons (pe_op op_powB pe_int pe_int) (pa_cons (pe_op op_powB (pe_op op_powB pe_int pe_int) pe_int) pa_nil))) (pe_call G_l_take (hr.mono (by omega)) rfl m_l_take k_l_take b_l_take .nil pass0 (pa_cons (pv 0) (pa_cons pe_int pa_nil))) (fun _ _ => rfl)) pa_nil)))))
      (pss_one (ps_par (i := 1) (j := 2) (by rfl) sc_l_goes_far.nd rfl rfl (by decide) rfl rfl (pa_cons (pe_call G_multiply (hr.mono (by omega)) rfl m_multiply k_multiply b_multiply .nil pass0 (pa_cons (pv 1) (pa_cons (pv 4) pa_nil))) (pa_cons (pe_op op_mulW (pv 2) (pv 4)) pa_nil)) (by rfl)))))
      (pss_cons (ps_par (i := 5) (j := 6) (by rfl) sc_l_goes_far.nd rfl rfl (by decide) rfl rfl (pa_cons (pe_ix ix_list (pe_lst (pa_cons pe_int (pa_cons (pe_un un_neg pe_int) pa_nil))) (pe_call G_l_take (hr.mono (by omega)) rfl m_l_take k_l_take b_l_take .nil pass0 (pa_cons (pv 0) (pa_cons pe_int pa_nil))) (fun _ _ => rfl)) (pa_cons (pe_cmpR op_eq (pe_call G_l_take (hr.mono (by omega)) rfl m_l_take k_l_take b_l_take .nil pass0 (pa_cons (pv 0) (pa_cons pe_int pa_nil))) pe_int (nomark _)) pa_nil)) (by rfl))
      (C8.pss_cut (ps_set (i := 7) sc_l_goes_far.nd rfl (Or.inl rfl) (pe_ifExp (pt_val (pv 6)) (pe_call G_multiply (hr.mono (by omega)) rfl m_multiply k_multiply b_multiply .nil pass0 (pa_cons (pv 5) (pa_cons (pv 1) pa_nil))) (pe_call G_divide (hr.mono (by omega)) rfl m_divide k_divide b_divide .nil passL (pa_cons (pv 5) (pa_cons (pv 1) pa_nil)))))
      (C8.pss_cut (ps_set (i := 8) sc_l_goes_far.nd rfl (Or.inl rfl) (pe_op op_add_str (pe_op op_add_str (pe_op op_mul_strI pe_str (pe_callTy call_int1 (by rfl) T.n_int (by decide +kernel) (pa_cons (pe_cmpR op_lt (pv 5) pe_int (nomark _)) pa_nil))) (pe_ifExp (pt_val (pv 6)) pe_str pe_str)) (pe_call G_l_figures (hr.mono (by omega)) rfl m_l_figures k_l_figures b_l_figures .nil pass0 (pa_cons (pv 2) pa_nil))))
      (pss_cons (ps_if (pt_cmpR (op_neD hr.units) (pv 7) (pe_ifExp (pt_val (pv 6)) (pe_tup (pa_cons (pe_op op_mulW (pv 5) (pv 2)) (pa_cons pe_int pa_nil))) (pe_tup (pa_cons (pv 5) (pa_cons (pv 2) pa_nil)))) (nomark _)) (pss_one (ps_ret pe_bl)) pss_nil)
      (pss_one (ps_ret (pe_and (pe_cmpR op_eq (pe_call G_ratio_text (hr.mono (by omega)) rfl m_ratio_text k_ratio_text b_ratio_text .nil pass0 (pa_cons (pv 7) pa_nil)) (pv 8) (nomark _)) (pe_one (pe_cmpR (op_eqD hr.units) (pe_call G_read_ratio (hr.mono (by omega)) rfl m_read_ratio k_read_ratio b_read_ratio .nil passL (pa_cons (pe_call G_ratio_text (hr.mono (by omega)) rfl m_ratio_text k_ratio_text b_ratio_text .nil pass0 (pa_cons (pv 7) pa_nil)) pa_nil)) (pv 7) (nomark _)))))))))))), ?_⟩
    refine ⟨(by show 2 ≤ sizeLine; decide), fun p0 np0 => ⟨(by show 2 ≤ sizeLine; decide), fun p00 np00 => ⟨p00, _, rfl, SqT.of upd_same, rfl, _, _, rfl, _, _, rfl, rfl, ?_⟩⟩⟩
    have s00 := same_new np00 (.tup [.ref p0, .int 1])
    have B0 := (B.same (same_new np0 (.tup [.int 1, .int 1]))).same s00
    have h0 := s00 p0 _ upd_same
    have cm11 : CMulW 1 1 := wide_mul (a := 4) (b := 4) (by decide) (by decide) (by decide) (by decide) (by decide)
    have p62 : (2 : Int) ^ 62 = 4611686018427387904 := by decide
    refine ⟨_, rfl, b, g, c, _, 3, rfl, B0, by omega, by decide, pow8000' 3 2 (by decide) (by decide), fun r H1 r0 r1 B1 b1 => ?_⟩
    refine ⟨_, _, rfl, rfl, 22 + r, rfl, by omega, by omega, ?_⟩
    refine for_range (lo := 0) (n := (22 + r).toNat) (fun i σ H' => ∃ (pf : Addr) (W : Int) (x3 x4 : Option V), σ = [some (.ref b), some (.ref pf), some (.int W), x3, x4, none, none, none, none] ∧ H' pf = some (.tup [.int W, .int 1]) ∧ Box H' b g c (n + 1 + 2 * i) ∧ (i : Int) < W ∧ W.natAbs < 10 ^ (200 * i + 1)) ⟨p0, 1, none, none, rfl, b1.tup B0 h0, B1, by decide, by decide⟩ ?_ ?_
    · rintro i σ H2 hi ⟨pf, W, x3, x4, rfl, hpf, B2, W0, W1⟩
      have i24 : i < 25 := by omega
      refine ⟨_, _, rfl, rfl, ⟨by decide, by decide +kernel⟩, _, _, rfl, rfl, ⟨by decide, by decide +kernel⟩, _, _, rfl, rfl, ⟨by decide, by decide +kernel⟩, _, _, rfl, rfl, wide_mul (a := 600) (b := 200) (by decide +kernel) (by decide +kernel) (by decide) (by decide) (by decide), _, rfl, ?_⟩
      refine ⟨_, _, rfl, rfl, ⟨by decide, by decide +kernel⟩, _, _, rfl, rfl, ⟨by decide, by decide +kernel⟩, _, _, rfl, rfl, ⟨by decide, by decide +kernel⟩, ?_⟩
      refine ⟨(by show 2 ≤ sizeLine; decide), fun p3 np3 => ⟨_, rfl, b, g, c, _, 2, rfl, B2.same (same_new np3 _), (by omega), (by decide), (by decide), fun r3 H3 r03 r13 B3 bt3 => ?_⟩⟩
      have hp3 := But.new B2 np3 bt3
      have bu3 := But.after np3 bt3
      obtain ⟨v3, hv3, hat3⟩ := at_pick hp3 r03 r13 rfl
      refine ⟨p3, _, r3, v3, rfl, rfl, SqL.of hp3, hat3, ?_⟩
      have hw : ∃ y : Int, v3 = .int y ∧ 0 < y ∧ y < 10 ^ 193 ∧ y.natAbs < 2 ^ 700 := by
        simp only [List.mem_cons, List.not_mem_nil, or_false] at hv3
        rcases hv3 with e | e
        · exact ⟨_, e, by decide +kernel, by decide +kernel, by decide +kernel⟩
        · exact ⟨_, e, by decide +kernel, by decide +kernel, by decide +kernel⟩
      obtain ⟨y, rfl, y0, y1, y2⟩ := hw
      refine ⟨b, g, c, _, y, rfl, B3, by omega, y0, pow8000' y 700 (by decide) y2, fun o H4 o0 o1 B4 b4 => ?_⟩
      refine ⟨_, _, rfl, rfl, ?_⟩
      have hE : ((10 : Int) ^ (50 : Int).toNat) ^ (3 : Int).toNat * (10 : Int) ^ (49 : Int).toNat = 10 ^ 199 := by decide +kernel
      have hO : ∃ O : Int, ((10 : Int) ^ (50 : Int).toNat) ^ (3 : Int).toNat * (10 : Int) ^ (49 : Int).toNat + o = O ∧ 2 ≤ O ∧ O < 10 ^ 200 := by
        refine ⟨_, rfl, ?_, ?_⟩
        · rw [hE]
          have : (2 : Int) ≤ 10 ^ 199 := by decide +kernel
          omega
        · rw [hE]
          have : (10 : Int) ^ 199 + 10 ^ 193 < 10 ^ 200 := by decide +kernel
          omega
      obtain ⟨O, hO, O2, O1⟩ := hO
      have hOn : O.natAbs < 10 ^ 200 := by
        have : ((10 ^ 200 : Nat) : Int) = 10 ^ 200 := by decide +kernel
        omega
      have O700 : O.natAbs < 2 ^ 700 := Nat.lt_trans hOn (by decide +kernel)
      have W16 : W.natAbs < 2 ^ 16600 := Nat.lt_of_lt_of_le W1 (Nat.le_trans (Nat.pow_le_pow_right (by decide) (show 200 * i + 1 ≤ 4900 by omega)) (by decide +kernel))
      have cm : CMulW W O := wide_mul W16 O700 (by decide) (by decide) (by decide)
      show gName 4 (V.int (((10 : Int) ^ (50 : Int).toNat) ^ (3 : Int).toNat * (10 : Int) ^ (49 : Int).toNat + o)) _ _ _
      rw [hO]
      have hpf4 := b4.tup B3 (bu3.tup B2 hpf)
      refine ⟨_, rfl, _, rfl, .ref pf, .int O, (W, 1), (O, 1), rfl, Nv.rat hpf4 (red_one W), Nv.int O, cm, cm11, (by show Int.gcd (W * O) 1 = 1; exact Int.gcd_one_right _), fun p H5 s5 h5 => ?_⟩
      refine ⟨_, rfl, _, rfl, _, _, rfl, rfl, cm, _, _, rfl, p, W * O, _, _, rfl, h5, (B4.same s5).mono (by omega), ?_, ?_⟩
      · have : W * 2 ≤ W * O := Int.mul_le_mul_of_nonneg_left O2 (by omega)
        omega
      · rw [Int.natAbs_mul, show 200 * (i + 1) + 1 = (200 * i + 1) + 200 by omega, Nat.pow_add]
        exact Nat.mul_lt_mul'' W1 hOn
    · rintro σ H2 ⟨pf, W, x3, x4, rfl, hpf, B2, W0, W1⟩
      refine ⟨_, rfl, ?_⟩
      refine ⟨(by show 2 ≤ sizeLine; decide), fun p3 np3 => ⟨_, rfl, b, g, c, _, 2, rfl, B2.same (same_new np3 _), (by omega), (by decide), (by decide), fun r3 H3 r03 r13 B3 bt3 => ?_⟩⟩
      have hp3 := But.new B2 np3 bt3
      have bu3 := But.after np3 bt3
      obtain ⟨v3, hv3, hat3⟩ := at_pick hp3 r03 r13 rfl
      refine ⟨p3, _, r3, v3, rfl, rfl, SqL.of hp3, hat3, ?_⟩
      have hw : ∃ s : Int, v3 = .int s ∧ (s = 1 ∨ s = -1) := by
        simp only [List.mem_cons, List.not_mem_nil, or_false] at hv3
        rcases hv3 with e | e
        · exact ⟨_, e, .inl rfl⟩
        · exact ⟨_, e, .inr rfl⟩
      obtain ⟨s, rfl, hs⟩ := hw
      refine ⟨_, rfl, b, g, c, _, 2, rfl, B3, by omega, by decide, pow8000' 2 2 (by decide) (by decide), fun r6 H4 _ _ B4 b4 => ?_⟩
      refine ⟨rfl, _, _, rfl, ?_⟩
      have hpf4 := b4.tup B3 (bu3.tup B2 hpf)
      generalize decide (V.int r6 = V.int 0) = ab
      have W22 : 22 < W := by omega
      have W4 : W.natAbs < 10 ^ 4802 := Nat.lt_of_lt_of_le W1 (Nat.pow_le_pow_right (by decide) (by omega))
      have W5 : W.natAbs < 10 ^ 5000 := Nat.lt_of_lt_of_le W4 (Nat.pow_le_pow_right (by decide) (by decide))
      have W16 : W.natAbs < 2 ^ 16600 := Nat.lt_trans W4 (by decide +kernel)
      have lW : (TL.numL W.natAbs).length ≤ 4802 := TL.numL_len (by decide) W4
      have s1 : s.natAbs = 1 := by rcases hs with rfl | rfl <;> rfl
      have cs : CMulW s W := wide_mul (a := 4) (b := 16600) (by rw [s1]; decide) W16 (by decide) (by decide) (by decide)
      obtain ⟨zt, hzt⟩ : ∃ zt : Int, zt = if ab = true then s * W else s := ⟨_, rfl⟩
      obtain ⟨zb, hzb⟩ : ∃ zb : Int, zb = if ab = true then 1 else W := ⟨_, rfl⟩
      have rz : Red (zt, zb) := by
        rw [hzt, hzb]
        cases ab with
        | true => exact red_one _
        | false =>
          refine ⟨by show 0 < W; omega, ?_⟩
          show Int.gcd s W = 1
          rcases hs with rfl | rfl
          · exact Int.one_gcd ..
          · rw [Int.neg_gcd]
            exact Int.one_gcd ..
      have gsW : Int.gcd (s * 1) (1 * W) = 1 := by
        rw [Int.mul_one, Int.one_mul]
        rcases hs with rfl | rfl
        · exact Int.one_gcd ..
        · rw [Int.neg_gcd]
          exact Int.one_gcd ..
      refine ⟨fun σ H5 => Same H4 H5 ∧ ∃ pn, σ = [some (.ref b), some (.ref pf), some (.int W), x3, x4, some (.int s), some (.bl ab), some (.ref pn), none] ∧ H5 pn = some (.tup [.int zt, .int zb]), ?_, ?_⟩
      · refine ⟨_, rfl, _, rfl, ?_⟩
        refine ite2 (fun c => ?_) (fun c => ?_)
        · rw [if_pos c] at hzt hzb
          subst hzt
          subst hzb
          exact ⟨_, rfl, _, rfl, .int s, .ref pf, (s, 1), (W, 1), rfl, Nv.int s, Nv.rat hpf4 (red_one W), cs, cm11, (by show Int.gcd (s * W) 1 = 1; exact Int.gcd_one_right _), fun p H5 s5 h5 => ⟨s5, p, rfl, h5⟩⟩
        · rw [if_neg c] at hzt hzb
          subst hzt
          subst hzb
          refine ⟨_, rfl, _, rfl, .int zt, .ref pf, (zt, 1), (zb, 1), rfl, Nv.int zt, Nv.rat hpf4 (red_one zb), (by show 0 < zb; omega), wide_mul (a := 4) (b := 4) (by show zt.natAbs < _; rw [s1]; decide) (by show (1 : Int).natAbs < _; decide) (by decide) (by decide) (by decide), wide_mul (a := 4) (b := 16600) (by show (1 : Int).natAbs < _; decide) W16 (by decide) (by decide) (by decide), gsW, fun p H5 s5 h5 => ⟨s5, p, rfl, ?_⟩⟩
          rw [h5]
          show some (HO.tup [V.int (zt * 1), V.int (1 * zb)]) = _
          rw [Int.mul_one, Int.one_mul]
      rintro σ H5 ⟨s45, pn, rfl, hpn⟩
      have hsg : repL (if s < 0 then 1 else 0) [45] = if s < 0 then [45] else [] := by split <;> rfl
      have hrat : ratL (zt, zb) = (if s < 0 then [45] else []) ++ ((if ab = true then [] else [49, 47]) ++ TL.numL W.natAbs) := by
        have w0 : 0 ≤ W := by omega
        unfold ratL
        rw [hzt, hzb]
        cases ab with
        | true =>
          show intL (s * W) = _
          rcases hs with rfl | rfl
          · rw [Int.one_mul, intL_pos w0]
            rfl
          · unfold intL
            rw [if_pos (by omega), Int.neg_mul, Int.one_mul, Int.natAbs_neg]
            rfl
        | false =>
          show (if W = 1 then intL s else intL s ++ 47 :: intL W) = _
          rw [if_neg (by omega), intL_pos w0]
          rcases hs with rfl | rfl <;> rfl
      have lrat : (ratL (zt, zb)).length ≤ 4806 := by
        rw [hrat, List.length_append, List.length_append]
        have : (if s < 0 then [45] else ([] : List Nat)).length ≤ 1 := by split <;> decide
        have : (if ab = true then [] else [49, 47] : List Nat).length ≤ 2 := by cases ab <;> decide
        omega
      refine ⟨fun σ H6 => Same H5 H6 ∧ ∃ t, σ = [some (.ref b), some (.ref pf), some (.int W), x3, x4, some (.int s), some (.bl ab), some (.ref pn), some (.str t)] ∧ t = SX.S (ratL (zt, zb)), ?_, ?_⟩
      · have minus : Str.ofString "-" = SX.S [45] := by decide +kernel
        refine ⟨_, rfl, _, _, rfl, rfl, .inr ⟨_, rfl, [45], (if s < 0 then 1 else 0), congrArg V.str minus, ?_, ?_, by decide, ?_⟩⟩
        · by_cases c : s < 0
          · rw [if_pos c, decide_eq_true c]
            rfl
          · rw [if_neg c, decide_eq_false c]
            rfl
        · split <;> decide
        · rw [hsg]
          refine ⟨_, rfl, _, rfl, ?_⟩
          have lsg : (if s < 0 then [45] else ([] : List Nat)).length ≤ 1 := by split <;> decide
          generalize (if s < 0 then [45] else ([] : List Nat)) = sg at hrat lsg
          have e10 : Str.ofString "1/" = SX.S [49, 47] := by decide +kernel
          have e0 : Str.ofString "" = SX.S [] := by decide +kernel
          have wn : ((W.natAbs : Nat) : Int) = W := by omega
          refine ite2 (fun c => ?_) (fun c => ?_)
          · rw [if_pos c] at hrat
            refine ⟨_, _, rfl, rfl, (by rw [e0, SX.S_len, SX.S_len]; exact fitN (by show sg.length + 0 ≤ 5000; omega)), ?_⟩
            refine ⟨_, rfl, W.natAbs, by rw [wn]; rfl, W5, fun H6 s6 => ?_⟩
            refine ⟨_, _, rfl, rfl, (by rw [e0, SX.S_cat, SX.S_len, SX.S_len, List.append_nil]; exact fitN (by omega)), s6, _, rfl, ?_⟩
            rw [e0, SX.S_cat, SX.S_cat, hrat, List.append_assoc]
          · rw [if_neg c] at hrat
            refine ⟨_, _, rfl, rfl, (by rw [e10, SX.S_len, SX.S_len]; exact fitN (by show sg.length + 2 ≤ 5000; omega)), ?_⟩
            refine ⟨_, rfl, W.natAbs, by rw [wn]; rfl, W5, fun H6 s6 => ?_⟩
            refine ⟨_, _, rfl, rfl, (by rw [e10, SX.S_cat, SX.S_len, SX.S_len, List.length_append]; exact fitN (by show sg.length + 2 + _ ≤ 5000; omega)), s6, _, rfl, ?_⟩
            rw [e10, SX.S_cat, SX.S_cat, hrat, List.append_assoc]
      rintro σ H6 ⟨s56, t, rfl, rfl⟩
      have hpn6 := s56 _ _ hpn
      have facts : zt.natAbs < 10 ^ 4802 ∧ zb.natAbs < 10 ^ 4802 ∧ zt.natAbs < 10 ^ 5000 ∧ zb.natAbs < 10 ^ 5000 ∧ 0 < zb ∧ (zb = 1 ∨ zt.natAbs = 1) := by
        have one1 : 1 < 10 ^ 4802 := by decide +kernel
        have one2 : 1 < 10 ^ 5000 := by decide +kernel
        rw [hzt, hzb]
        cases ab with
        | true =>
          have e : (s * W).natAbs = W.natAbs := by rw [Int.natAbs_mul, s1, Nat.one_mul]
          refine ⟨?_, one1, ?_, one2, by show (0 : Int) < 1; decide, .inl rfl⟩
          · show (s * W).natAbs < _
            rw [e]
            exact W4
          · show (s * W).natAbs < _
            rw [e]
            exact W5
        | false =>
          refine ⟨?_, W4, ?_, W5, by show 0 < W; omega, .inr s1⟩
          · show s.natAbs < _
            rw [s1]
            exact one1
          · show s.natAbs < _
            rw [s1]
            exact one2
      have hrok : Rok (ratL (zt, zb)) := rok_rat (Nat.le_trans (intL_le (by decide) facts.1) (by decide)) (Nat.le_trans (intL_le (by decide) facts.2.1) (by decide)) facts.2.2.2.2.1 facts.2.2.2.2.2 (by omega)
      refine ⟨_, rfl, _, rfl, ?_⟩
      refine ⟨_, rfl, ?_⟩
      refine ite2 (fun c => ?_) (fun c => ?_)
      · rw [if_pos c] at hzt hzb
        subst hzt
        subst hzb
        refine ⟨_, rfl, _, rfl, _, _, rfl, rfl, cs, (by show 2 ≤ sizeLine; decide), fun p7 np7 => ?_⟩
        have s67 := same_new np7 (.tup [.int (s * W), .int 1])
        refine ⟨_, _, dp_rat (s67 _ _ hpn6), dp_rat upd_same, shp_rat _ _, shp_rat _ _, _, rfl, ?_⟩
        refine iteEqv (eqv_rat _ _) ?_
        refine ⟨_, rfl, .ref pn, ((s * W), 1), rfl, Nv.rat (s67 _ _ hpn6) rz, facts.2.2.1, facts.2.2.2.1, fun H8 s8 => ⟨_, rfl, rfl, _, rfl, ?_⟩⟩
        refine iteDd rfl ?_
        refine ⟨_, rfl, .ref pn, ((s * W), 1), rfl, Nv.rat (s8 _ _ (s67 _ _ hpn6)) rz, facts.2.2.1, facts.2.2.2.1, fun H9 s9 => ⟨_, rfl, hrok, fun z p H10 hz s10 hp => ?_, fun hno => by rw [readL_rat rz] at hno; cases hno⟩⟩
        have ez : ((s * W), 1) = z := Option.some.inj ((readL_rat rz).symm.trans hz)
        subst ez
        refine ⟨_, rfl, _, _, dp_rat hp, dp_rat (s10 _ _ (s9 _ _ (s8 _ _ (s67 _ _ hpn6)))), shp_rat _ _, shp_rat _ _, ?_⟩
        rw [eqv_rat]
        exact q H10
      · rw [if_neg c] at hzt hzb
        subst hzt
        subst hzb
        refine ⟨_, rfl, _, rfl, (by show 2 ≤ sizeLine; decide), fun p7 np7 => ?_⟩
        have s67 := same_new np7 (.tup [.int zt, .int zb])
        refine ⟨_, _, dp_rat (s67 _ _ hpn6), dp_rat upd_same, shp_rat _ _, shp_rat _ _, _, rfl, ?_⟩
        refine iteEqv (eqv_rat _ _) ?_
        refine ⟨_, rfl, .ref pn, (zt, zb), rfl, Nv.rat (s67 _ _ hpn6) rz, facts.2.2.1, facts.2.2.2.1, fun H8 s8 => ⟨_, rfl, rfl, _, rfl, ?_⟩⟩
        refine iteDd rfl ?_
        refine ⟨_, rfl, .ref pn, (zt, zb), rfl, Nv.rat (s8 _ _ (s67 _ _ hpn6)) rz, facts.2.2.1, facts.2.2.2.1, fun H9 s9 => ⟨_, rfl, hrok, fun z p H10 hz s10 hp => ?_, fun hno => by rw [readL_rat rz] at hno; cases hno⟩⟩
        have ez : (zt, zb) = z := Option.some.inj ((readL_rat rz).symm.trans hz)
        subst ez
        refine ⟨_, rfl, _, _, dp_rat hp, dp_rat (s10 _ _ (s9 _ _ (s8 _ _ (s67 _ _ hpn6)))), shp_rat _ _, shp_rat _ _, ?_⟩
        rw [eqv_rat]
        exact q H10
end

theorem int_txt (i : Int) : Str.ofString (toString i) = SX.S (intL i) := by
  cases i with
  | ofNat n => 
    rw [show Int.ofNat n = ((n : Nat) : Int) from rfl, SX.num_S]
    exact congrArg SX.S (intL_pos (n := (n : Int)) (by omega)).symm
  | negSucc n =>
    have e : toString (Int.negSucc n) = "-" ++ toString (((n + 1 : Nat) : Int)) := rfl
    have e2 : Str.ofString (toString (((n + 1 : Nat) : Int))) = SX.S (TL.numL (n + 1)) := SX.num_S (n + 1)
    rw [Str.ofString_eq_toList] at e2
    have e3 := SX.S_inj e2
    rw [e, Str.ofString_eq_toList, String.toList_append, List.map_append, e3]
    have e4 : intL (Int.negSucc n) = 45 :: TL.numL (n + 1) := if_pos (Int.negSucc_lt_zero n)
    rw [e4]
    rfl
theorem log700 {n : Int} (h : n.natAbs < 2 ^ 700) : n.natAbs.log2 < 1920 := PySem.Flt.log2_lt_of (by decide) (Nat.lt_trans h (by decide +kernel))
theorem intL_700 {n : Int} (h : n.natAbs < 2 ^ 700) : (intL n).length ≤ 212 := intL_le (k := 211) (by decide) (Nat.lt_trans h (by decide +kernel))
theorem small5000 {n : Int} (h : n.natAbs < 2 ^ 700) : n.natAbs < 10 ^ 5000 := Nat.lt_trans h (by decide +kernel)
def spLaw (K : PySem.W.Frag) : Sp := fun vs H Q _ => ∃ (a : Addr) (ns : List Int), vs = [.ref a] ∧ SqL K H a (ns.map V.int) ∧ ns.length ≤ 63 ∧ ∀ H', Q (.bl true) H'
def toldD (z : Int × Int) : PyData := .tuple [.str "told", rat z.1 z.2]
def refD (l : List Nat) : PyData := .tuple [.str "refused", .str (SX.S l), .bool true]
theorem lay_told (z : Int × Int) : (toldD z).canLay0 = true := by
  show (PyData.strOk (Str.ofString "told") && (((true && (true && true))) && true)) = true
  decide +kernel
theorem eqv_told (z : Int × Int) : PyData.eqv (toldD z) (toldD z) = true := PySem.SeqAt.eqv_refl _ (lay_told z)
theorem strS {l : List Nat} (h : Asc l) : PyData.strOk (SX.S l) = true := by
  unfold PyData.strOk
  rw [← Array.all_toList, List.all_eq_true]
  intro c hc
  rw [decide_eq_true_eq]
  exact Nat.lt_trans (h c hc) (by decide)
theorem lay_ref {l : List Nat} (h : Asc l) : (refD l).canLay0 = true := by
  show (PyData.strOk (Str.ofString "refused") && (PyData.strOk (SX.S l) && (true && true))) = true
  rw [strS h]
  decide +kernel
theorem eqv_ref {l : List Nat} (h : Asc l) : PyData.eqv (refD l) (refD l) = true := PySem.SeqAt.eqv_refl _ (lay_ref h)
theorem shp_ref {l : List Nat} (h : Asc l) : SeqAt.shaped (refD l) = true := by
  unfold SeqAt.shaped
  rw [lay_ref h]
  rfl
theorem shp_told (z : Int × Int) : SeqAt.shaped (toldD z) = true := by
  unfold SeqAt.shaped
  rw [lay_told]
  rfl
section
variable {P : Program} {w : World} {K : PySem.W.Frag} {mg : Str → Option Value} {base : Heap}
theorem ok_law {C : Addr} (T : Bt mg) (Tt : Ut mg) (GB : Kn P w K mg base CX0 "_law_box" 1 ["_law_script"] (spBox K)) (GN : Kn P w K mg base CX0 "_law_number" 3 ["_law_box_here"] (spNum 6)) (GV : Kn P w K mg base CX0 "_law_given" 3 ["_law_box_here", "_law_number_here"] (spGiven K))
    (GX : Kn P w K mg base CX0 "ratio_text" 4 ["number"] (spRatText K)) (GA : Kn P w K mg base (L2.CX P w) "read_ratio" 3 ["text"] (spReadRat C)) (GW : Kn P w K mg base CX0 "_law_written" 4 ["_law_box_here"] (spDrawT 50 30))
    (GT : Kn P w K mg base CX0 "_law_take" 2 ["_law_box_here", "_law_size"] spTake) (GE : Kn P w K mg base CX0 "_law_bent" 3 ["_law_box_here", "_law_text"] spBent) (GM : Kn P w K mg base CX0 "_law_meant" 3 ["_law_text"] spMeant)
    (GR : Kn P w K mg base CX0 "_law_read" 4 ["_law_text"] spRead) (GG : Kn P w K mg base CX0 "_law_goes_far" 5 ["_law_box_here"] spGoes) {f : Addr} {fd : FuncData} (F : Fun K "law" "law" s_law f fd) : FnOk P w K mg base CX0 10 f fd ["_law_script"] (spLaw K) := by
  obtain ⟨f_l_box, fd_l_box, G_l_box, m_l_box, k_l_box, b_l_box⟩ := GB
  obtain ⟨f_l_number, fd_l_number, G_l_number, m_l_number, k_l_number, b_l_number⟩ := GN
  obtain ⟨f_l_given, fd_l_given, G_l_given, m_l_given, k_l_given, b_l_given⟩ := GV
  obtain ⟨f_ratio_text, fd_ratio_text, G_ratio_text, m_ratio_text, k_ratio_text, b_ratio_text⟩ := GX
  obtain ⟨f_read_ratio, fd_read_ratio, G_read_ratio, m_read_ratio, k_read_ratio, b_read_ratio⟩ := GA
  obtain ⟨f_l_written, fd_l_written, G_l_written, m_l_written, k_l_written, b_l_written⟩ := GW
  obtain ⟨f_l_take, fd_l_take, G_l_take, m_l_take, k_l_take, b_l_take⟩ := GT
  obtain ⟨f_l_bent, fd_l_bent, G_l_bent, m_l_bent, k_l_bent, b_l_bent⟩ := GE
  obtain ⟨f_l_meant, fd_l_meant, G_l_meant, m_l_meant, k_l_meant, b_l_meant⟩ := GM
  obtain ⟨f_l_read, fd_l_read, G_l_read, m_l_read, k_l_read, b_l_read⟩ := GR
  obtain ⟨f_l_goes_far, fd_l_goes_far, G_l_goes_far, m_l_goes_far, k_l_goes_far, b_l_goes_far⟩ := GG
  refine F.ok sc_law (k := 9) (fun vs H Q E h => ?_) (fun cdv A outer s H vs Q E hr h => ?_)
  · obtain ⟨a, ns, rfl, _⟩ := h
    rfl
  · obtain ⟨a, ns, rfl, hS, hl, q⟩ := h
    refine ⟨_, (pss_cons (ps_set (i := 1) sc_law.nd rfl (Or.inl rfl) (pe_call G_l_box (hr.mono (by omega)) rfl m_l_box k_l_box b_l_box .nil pass0 (pa_cons (pv 0) pa_nil)))
      (pss_cons (ps_for PassesOwn.never rfl (pi_range1 rfl T.n_range (pa_cons pe_int pa_nil)) (pg_name (i := 2) sc_law.nd rfl (Or.inl rfl))
        (pss_cons (ps_set (i := 3) sc_law.nd rfl (Or.inl rfl) (pe_call G_l_number (hr.mono (by omega)) rfl m_l_number k_l_number b_l_number .nil pass0 (pa_cons (pv 1) pa_nil)))
      (C8.pss_cut (ps_set (i := 4) sc_law.nd rfl (Or.inl rfl) (pe_op op_add_str (pe_callTy call_str_int (by rfl) Tt.n_str (by decide +kernel) (pa_cons (pe_ix ix_tup (pv 3) pe_int (fun _ _ => rfl)) pa_nil)) (pe_op op_mul_strI (pe_op op_add_str pe_str (pe_callTy call_str_int (by rfl) Tt.n_str (by decide +kernel) (pa_cons (pe_ix ix_tup (pv 3) pe_int (fun _ _ => rfl)) pa_nil))) (pe_callTy call_int1 (by rfl) T.n_int (by decide +kernel) (pa_cons (pe_cmpR op_ne (pe_ix ix_tup (pv 3) pe_int (fun _ _ => rfl)) pe_int (nomark _)) pa_nil)))))
      (pss_cons (ps_if (PW.pt (pw_or (pt_cmpR op_ne (pe_call G_ratio_text (hr.mono (by omega)) rfl m_ratio_text k_ratio_text b_ratio_text .nil pass0 (pa_cons (pe_call G_l_given (hr.mono (by omega)) rfl m_l_given k_l_given b_l_given .nil pass0 (pa_cons (pv 1) (pa_cons (pv 3) pa_nil))) pa_nil)) (pv 4) (nomark _)) (pw_or1 (pt_cmpR (op_neD hr.units) (pe_call G_read_ratio (hr.mono (by omega)) rfl m_read_ratio k_read_ratio b_read_ratio .nil passL (pa_cons (pv 4) pa_nil)) (pv 3) (nomark _))))) (pss_one (ps_ret pe_bl)) pss_nil)
      (pss_cons (ps_set (i := 5) sc_law.nd rfl (Or.inl rfl) (pe_call G_l_written (hr.mono (by omega)) rfl m_l_written k_l_written b_l_written .nil pass0 (pa_cons (pv 1) pa_nil)))
      (pss_cons (ps_for PassesOwn.never rfl (pi_range1 rfl T.n_range (pa_cons (pe_call G_l_take (hr.mono (by omega)) rfl m_l_take k_l_take b_l_take .nil pass0 (pa_cons (pv 1) (pa_cons pe_int pa_nil))) pa_nil)) (pg_name (i := 6) sc_law.nd rfl (Or.inl rfl))
        (pss_one (ps_set (i := 5) sc_law.nd rfl (Or.inl rfl) (pe_call G_l_bent (hr.mono (by omega)) rfl m_l_bent k_l_bent b_l_bent .nil pass0 (pa_cons (pv 1) (pa_cons (pv 5) pa_nil))))))
      (pss_cons (ps_set (i := 7) sc_law.nd rfl (Or.inl rfl) (pe_call G_l_meant (hr.mono (by omega)) rfl m_l_meant k_l_meant b_l_meant .nil pass0 (pa_cons (pv 5) pa_nil)))
      (pss_one (ps_if (pt_cmpR (op_neD hr.units) (pe_call G_l_read (hr.mono (by omega)) rfl m_l_read k_l_read b_l_read .nil pass0 (pa_cons (pv 5) pa_nil)) (pe_ifExp (pt_cmpR op_isN (pv 7) pe_non (nomark _)) (pe_tup (pa_cons pe_str (pa_cons (pv 5) (pa_cons pe_bl pa_nil)))) (pe_tup (pa_cons pe_str (pa_cons (pv 7) pa_nil)))) (nomark _)) (pss_one (ps_ret pe_bl)) pss_nil)))))))))
      (pss_one (ps_ret (pe_call G_l_goes_far (hr.mono (by omega)) rfl m_l_goes_far k_l_goes_far b_l_goes_far .nil pass0 (pa_cons (pv 1) pa_nil)))))), ?_⟩
    have slash : Str.ofString "/" = SX.S [47] := by decide +kernel
    refine ⟨_, rfl, a, ns, rfl, hS, hl, fun b g c H0 B0 _ _ _ _ => ?_⟩
    refine ⟨12, rfl, by decide, by decide, ?_⟩
    refine for_range (lo := 0) (n := 12) (fun i σ H' => ∃ o2 o3 o4 o5 o6 o7, σ = [some (.ref a), some (.ref b), o2, o3, o4, o5, o6, o7] ∧ Box H' b g c (i * 100)) ⟨_, _, _, _, _, _, rfl, B0⟩ ?_ ?_
    · rintro i σ H1 hi ⟨o2, o3, o4, o5, o6, o7, rfl, B1⟩
      refine ⟨_, rfl, b, g, c, _, rfl, B1, by omega, fun pn z H2 rz sz hpn B2 b2 => ?_⟩
      refine ⟨fun σ H3 => H2 = H3 ∧ ∃ t, σ = [some (.ref a), some (.ref b), some (.int (0 + (i : Int))), some (.ref pn), some (.str t), o5, o6, o7] ∧ t = SX.S (ratL z), ?_, ?_⟩
      · refine ⟨_, rfl, pn, _, _, .int z.1, rfl, rfl, SqT.of hpn, rfl, _, rfl, log700 sz.1, ?_⟩
        refine ⟨_, rfl, pn, _, _, .int z.2, rfl, rfl, SqT.of hpn, rfl, _, rfl, log700 sz.2, ?_⟩
        rw [int_txt, int_txt]
        have l1 := intL_700 sz.1
        have l2 := intL_700 sz.2
        refine ⟨_, _, rfl, rfl, (by rw [slash, SX.S_len, SX.S_len]; exact fitN (by show 1 + _ ≤ 5000; omega)), ?_⟩
        rw [slash, SX.S_cat]
        refine ⟨_, rfl, pn, _, _, .int z.2, rfl, rfl, SqT.of hpn, rfl, rfl, .inr ⟨_, rfl, ?_⟩⟩
        by_cases c : z.2 = 1
        · have ec : (!decide (V.int z.2 = V.int 1)) = false := by rw [c]; rfl
          rw [ec]
          refine ⟨47 :: intL z.2, 0, rfl, rfl, by decide, by rw [List.length_cons]; omega, ?_⟩
          refine ⟨_, _, rfl, rfl, (by rw [SX.S_len, SX.S_len]; exact fitN (by show _ + 0 ≤ 5000; omega)), rfl, _, rfl, ?_⟩
          rw [SX.S_cat]
          unfold ratL
          rw [if_pos c]
          show SX.S (intL z.1 ++ []) = _
          rw [List.append_nil]
        · have ec : (!decide (V.int z.2 = V.int 1)) = true := by
            rw [Bool.not_eq_true', decide_eq_false_iff_not]
            intro y
            injection y with y
            exact c y
          rw [ec]
          refine ⟨47 :: intL z.2, 1, rfl, rfl, by decide, by rw [List.length_cons]; omega, ?_⟩
          have e1 : repL 1 (47 :: intL z.2) = 47 :: intL z.2 := by
            show (47 :: intL z.2) ++ [] = _
            rw [List.append_nil]
          rw [e1]
          refine ⟨_, _, rfl, rfl, (by rw [SX.S_len, SX.S_len, List.length_cons]; exact fitN (by omega)), rfl, _, rfl, ?_⟩
          rw [SX.S_cat]
          unfold ratL
          rw [if_neg c]
      · rintro σ H3 ⟨rfl, t, rfl, rfl⟩
        have l1 := intL_700 sz.1
        have l2 := intL_700 sz.2
        have lrat : (ratL z).length ≤ 450 := by
          unfold ratL
          split
          · omega
          · rw [List.length_append, List.length_cons]
            omega
        -- ratio_text(given(..)) != due
        refine ⟨_, rfl, _, rfl, b, g, c, pn, _, z, rfl, B2, by omega, hpn, rz, fun v H3 hv B3 b3 => ?_⟩
        have hpn3 := b3.tup B2 hpn
        refine ⟨v, z, rfl, hv.same (mk_sub b g H3), small5000 sz.1, small5000 sz.2, fun H4 s34 => ?_⟩
        refine ⟨_, rfl, rfl, _, rfl, ?_⟩
        refine iteEqv (decide_eq_true rfl) ?_
        have hpn4 := s34 _ _ hpn3
        have B4 := B3.same s34
        refine ⟨_, rfl, ratL z, rfl, rok_small (by omega), fun z2 p2 H5 hz s45 hp => ?_, fun hno => by rw [readL_rat rz] at hno; cases hno⟩
        have ez : z = z2 := Option.some.inj ((readL_rat rz).symm.trans hz)
        subst ez
        refine ⟨_, rfl, _, _, dp_rat hp, dp_rat (s45 _ _ hpn4), shp_rat _ _, shp_rat _ _, _, rfl, ?_⟩
        refine iteEqv (eqv_rat _ _) ?_
        have B5 := B4.same s45
        -- a text
        refine ⟨_, rfl, b, g, c, _, rfl, B5, by omega, fun l6 H6 len6 asc6 B6 b6 => ?_⟩
        refine ⟨_, rfl, b, g, c, _, 3, rfl, B6, by omega, by decide, pow8000' 3 2 (by decide) (by decide), fun r H7 r0 r1 B7 b7 => ?_⟩
        have p62 : (2 : Int) ^ 62 = 4611686018427387904 := by decide
        refine ⟨r, rfl, by omega, by omega, ?_⟩
        refine for_range (lo := 0) (n := r.toNat) (fun k σ H' => ∃ (l : List Nat) (x6 : Option V), σ = [some (.ref a), some (.ref b), some (.int (0 + (i : Int))), some (.ref pn), some (tx (ratL z)), some (tx l), x6, o7] ∧ l.length ≤ 30 + k ∧ Asc l ∧ Box H' b g c (i * 100 + 80 + 5 * k)) ⟨l6, _, rfl, by omega, asc6, B7.mono (by omega)⟩ ?_ ?_
        · rintro k σ H8 hk ⟨l, x6, rfl, hl, al, B8⟩
          refine ⟨_, rfl, _, rfl, b, g, c, _, l, rfl, B8, by omega, by omega, al, fun l9 H9 len9 asc9 B9 b9 => ?_⟩
          exact ⟨l9, _, rfl, by omega, asc9, B9.mono (by omega)⟩
        · rintro σ H8 ⟨l, x6, rfl, hl, al, B8⟩
          refine ⟨_, rfl, l, rfl, by omega, fun y p9 H9 hy s89 hp9 => ?_, fun hno H9 s89 => ?_⟩
          · refine ⟨_, rfl, l, rfl, by omega, fun y2 pt p10 H10 hy2 s910 hpt hp10 => ?_, fun hno => by rw [hy] at hno; cases hno⟩
            have ey : y = y2 := Option.some.inj (hy.symm.trans hy2)
            subst ey
            refine ⟨_, rfl, rfl, _, rfl, ?_⟩
            refine ite2 (fun cc => ?_) (fun _ => ?_)
            · exact absurd (of_decide_eq_true cc) (fun w => by cases w)
            · refine ⟨_, rfl, (by show 2 ≤ sizeLine; decide), fun p11 np11 => ?_⟩
              have s11 := same_new np11 (.tup [.str "told", .ref p9])
              refine ⟨toldD y, toldD y, .tup (SqT.of (s11 _ _ hpt)) (.cons (.str _) (.cons (dp_rat (s11 _ _ hp10)) .nil)), .tup (SqT.of upd_same) (.cons (.str _) (.cons (dp_rat (s11 _ _ (s910 _ _ hp9))) .nil)), shp_told _, shp_told _, _, rfl, ?_⟩
              refine iteEqv (eqv_told _) ?_
              exact ⟨_, _, _, _, _, _, rfl, (B8.same (s89.trans (s910.trans s11))).mono (by omega)⟩
          · refine ⟨_, rfl, l, rfl, by omega, fun y2 pt p10 H10 hy2 => (by rw [hno] at hy2; cases hy2), fun _ pt H10 s910 hpt => ?_⟩
            refine ⟨_, rfl, rfl, _, rfl, ?_⟩
            refine ite2 (fun _ => ?_) (fun cc => ?_)
            · refine ⟨_, rfl, (by show 3 ≤ sizeLine; decide), fun p11 np11 => ?_⟩
              have s11 := same_new np11 (.tup [.str "refused", tx l, .bl true])
              refine ⟨refD l, refD l, .tup (SqT.of (s11 _ _ hpt)) (.cons (.str _) (.cons (.str _) (.cons (.bl _) .nil))), .tup (SqT.of upd_same) (.cons (.str _) (.cons (.str _) (.cons (.bl _) .nil))), shp_ref al, shp_ref al, _, rfl, ?_⟩
              refine iteEqv (eqv_ref al) ?_
              exact ⟨_, _, _, _, _, _, rfl, (B8.same (s89.trans (s910.trans s11))).mono (by omega)⟩
            · exact absurd (decide_eq_true rfl) cc
    · rintro σ H1 ⟨o2, o3, o4, o5, o6, o7, rfl, B1⟩
      exact ⟨_, rfl, b, g, c, _, rfl, B1, by decide, q⟩
end

theorem walk {l : PySem.W.OpenLaw} {q : Program} {loose : List Str} {XP : (Str → Option Value) → Heap → Prop} {YP : World → Heap → Prop} {d : DefRec} {K : Params → PySem.W.Frag} (hn : l.most = some 63) (hdf : d.params.defaults = [])
    (hY : ∀ (w : World) (h : Heap), YP w h → (K w.params).In h)
    (F : ∀ (w : World) (mg : Str → Option Value) (fa : Addr) (h : Heap), (K w.params).In h → h.Ns mainGlobals mg → mg d.name = some (.ref fa) →
      ∃ fd : FuncData, (∀ (s : Shared) (u : Value), BindsTo s fd ⟨[u], []⟩ [("_law_script", u)]) ∧ ∀ base : Heap, (K w.params).In base → base.Ns mainGlobals mg → FnOk l.prog w (K w.params) mg base CX0 10 fa fd ["_law_script"] (spLaw (K w.params))) :
    PySem.W.WalkO q loose XP YP l.row.toRowW d [] (fun f vs => PySem.call f vs) :=
  L2.walk_of (n := 63) (k := 10) (x := "_law_script") (CX := fun _ => CX0) (sp := fun w => spLaw (K w.params)) hn (by decide) hdf ⟨rfl, by decide, by decide⟩ hY F (fun _ _ a ns hl _ hS => ⟨a, ns, rfl, hS, hl, fun _ => rfl⟩) fun _ _ _ _ _ z => z

theorem UNIT_GROUP_UNIT : (10000000000000000000000000000000000000000000000000000000000000000 : Int) = 10 ^ 64 := by decide +kernel
theorem UNIT_GROUP_DIGITS : (64 : Int) = 64 := rfl
theorem all_mk {l : PySem.W.OpenLaw} {w : World} {K : PySem.W.Frag} {h : Heap} {mg : Str → Option Value} {fa : Addr} (X : K.In h) (G : h.Ns mainGlobals mg) (hfa : mg "law" = some (.ref fa))
    {f_is_whole f_is_ratio f_as_ratio f_multiply f_multiply_ratios f_divide f_ratio_text f_integer_text f_read_ratio f_are_digits f_read_digits f_l_box f_l_mixed f_l_take f_l_shared f_l_ratio f_l_number f_l_given f_l_digits f_l_written f_l_bent f_l_worth_of f_l_meant f_l_read f_l_figures f_l_goes_far f_law f_ratio T_ratio C_SheetError C_ZeroBottom C_InvalidNumber C_InvalidText f_InvalidNumber_init f_InvalidText_init : Addr}
    {od_is_whole : Option Addr}
    {an_is_whole : Option Addr}
    {sl_is_whole : Array (Option Value)}
    {oc_is_whole : Value}
    {kV_is_whole : Value}
    {dc_is_whole : Value}
    {pm_is_whole : Value}
    {cd_is_whole : Value}
    {ct_is_whole : Value}
    {od_is_ratio : Option Addr}
    {an_is_ratio : Option Addr}
    {sl_is_ratio : Array (Option Value)}
    {oc_is_ratio : Value}
    {kV_is_ratio : Value}
    {dc_is_ratio : Value}
    {pm_is_ratio : Value}
    {cd_is_ratio : Value}
    {ct_is_ratio : Value}
    {od_as_ratio : Option Addr}
    {an_as_ratio : Option Addr}
    {sl_as_ratio : Array (Option Value)}
    {oc_as_ratio : Value}
    {kV_as_ratio : Value}
    {dc_as_ratio : Value}
    {pm_as_ratio : Value}
    {cd_as_ratio : Value}
    {ct_as_ratio : Value}
    {od_multiply : Option Addr}
    {an_multiply : Option Addr}
    {sl_multiply : Array (Option Value)}
    {oc_multiply : Value}
    {kV_multiply : Value}
    {dc_multiply : Value}
    {pm_multiply : Value}
    {cd_multiply : Value}
    {ct_multiply : Value}
    {od_multiply_ratios : Option Addr}
    {an_multiply_ratios : Option Addr}
    {sl_multiply_ratios : Array (Option Value)}
    {oc_multiply_ratios : Value}
    {kV_multiply_ratios : Value}
    {dc_multiply_ratios : Value}
    {pm_multiply_ratios : Value}
    {cd_multiply_ratios : Value}
    {ct_multiply_ratios : Value}
    {od_divide : Option Addr}
    {an_divide : Option Addr}
    {sl_divide : Array (Option Value)}
    {oc_divide : Value}
    {kV_divide : Value}
    {dc_divide : Value}
    {pm_divide : Value}
    {cd_divide : Value}
    {ct_divide : Value}
    {od_ratio_text : Option Addr}
    {an_ratio_text : Option Addr}
    {sl_ratio_text : Array (Option Value)}
    {oc_ratio_text : Value}
    {kV_ratio_text : Value}
    {dc_ratio_text : Value}
    {pm_ratio_text : Value}
    {cd_ratio_text : Value}
    {ct_ratio_text : Value}
    {od_integer_text : Option Addr}
    {an_integer_text : Option Addr}
    {sl_integer_text : Array (Option Value)}
    {oc_integer_text : Value}
    {kV_integer_text : Value}
    {dc_integer_text : Value}
    {pm_integer_text : Value}
    {cd_integer_text : Value}
    {ct_integer_text : Value}
    {od_read_ratio : Option Addr}
    {an_read_ratio : Option Addr}
    {sl_read_ratio : Array (Option Value)}
    {oc_read_ratio : Value}
    {kV_read_ratio : Value}
    {dc_read_ratio : Value}
    {pm_read_ratio : Value}
    {cd_read_ratio : Value}
    {ct_read_ratio : Value}
    {od_are_digits : Option Addr}
    {an_are_digits : Option Addr}
    {sl_are_digits : Array (Option Value)}
    {oc_are_digits : Value}
    {kV_are_digits : Value}
    {dc_are_digits : Value}
    {pm_are_digits : Value}
    {cd_are_digits : Value}
    {ct_are_digits : Value}
    {od_read_digits : Option Addr}
    {an_read_digits : Option Addr}
    {sl_read_digits : Array (Option Value)}
    {oc_read_digits : Value}
    {kV_read_digits : Value}
    {dc_read_digits : Value}
    {pm_read_digits : Value}
    {cd_read_digits : Value}
    {ct_read_digits : Value}
    {od_l_box : Option Addr}
    {an_l_box : Option Addr}
    {sl_l_box : Array (Option Value)}
    {oc_l_box : Value}
    {kV_l_box : Value}
    {dc_l_box : Value}
    {pm_l_box : Value}
    {cd_l_box : Value}
    {ct_l_box : Value}
    {od_l_mixed : Option Addr}
    {an_l_mixed : Option Addr}
    {sl_l_mixed : Array (Option Value)}
    {oc_l_mixed : Value}
    {kV_l_mixed : Value}
    {dc_l_mixed : Value}
    {pm_l_mixed : Value}
    {cd_l_mixed : Value}
    {ct_l_mixed : Value}
    {od_l_take : Option Addr}
    {an_l_take : Option Addr}
    {sl_l_take : Array (Option Value)}
    {oc_l_take : Value}
    {kV_l_take : Value}
    {dc_l_take : Value}
    {pm_l_take : Value}
    {cd_l_take : Value}
    {ct_l_take : Value}
    {od_l_shared : Option Addr}
    {an_l_shared : Option Addr}
    {sl_l_shared : Array (Option Value)}
    {oc_l_shared : Value}
    {kV_l_shared : Value}
    {dc_l_shared : Value}
    {pm_l_shared : Value}
    {cd_l_shared : Value}
    {ct_l_shared : Value}
    {od_l_ratio : Option Addr}
    {an_l_ratio : Option Addr}
    {sl_l_ratio : Array (Option Value)}
    {oc_l_ratio : Value}
    {kV_l_ratio : Value}
    {dc_l_ratio : Value}
    {pm_l_ratio : Value}
    {cd_l_ratio : Value}
    {ct_l_ratio : Value}
    {od_l_number : Option Addr}
    {an_l_number : Option Addr}
    {sl_l_number : Array (Option Value)}
    {oc_l_number : Value}
    {kV_l_number : Value}
    {dc_l_number : Value}
    {pm_l_number : Value}
    {cd_l_number : Value}
    {ct_l_number : Value}
    {od_l_given : Option Addr}
    {an_l_given : Option Addr}
    {sl_l_given : Array (Option Value)}
    {oc_l_given : Value}
    {kV_l_given : Value}
    {dc_l_given : Value}
    {pm_l_given : Value}
    {cd_l_given : Value}
    {ct_l_given : Value}
    {od_l_digits : Option Addr}
    {an_l_digits : Option Addr}
    {sl_l_digits : Array (Option Value)}
    {oc_l_digits : Value}
    {kV_l_digits : Value}
    {dc_l_digits : Value}
    {pm_l_digits : Value}
    {cd_l_digits : Value}
    {ct_l_digits : Value}
    {od_l_written : Option Addr}
    {an_l_written : Option Addr}
    {sl_l_written : Array (Option Value)}
    {oc_l_written : Value}
    {kV_l_written : Value}
    {dc_l_written : Value}
    {pm_l_written : Value}
    {cd_l_written : Value}
    {ct_l_written : Value}
    {od_l_bent : Option Addr}
    {an_l_bent : Option Addr}
    {sl_l_bent : Array (Option Value)}
    {oc_l_bent : Value}
    {kV_l_bent : Value}
    {dc_l_bent : Value}
    {pm_l_bent : Value}
    {cd_l_bent : Value}
    {ct_l_bent : Value}
    {od_l_worth_of : Option Addr}
    {an_l_worth_of : Option Addr}
    {sl_l_worth_of : Array (Option Value)}
    {oc_l_worth_of : Value}
    {kV_l_worth_of : Value}
    {dc_l_worth_of : Value}
    {pm_l_worth_of : Value}
    {cd_l_worth_of : Value}
    {ct_l_worth_of : Value}
    {od_l_meant : Option Addr}
    {an_l_meant : Option Addr}
    {sl_l_meant : Array (Option Value)}
    {oc_l_meant : Value}
    {kV_l_meant : Value}
    {dc_l_meant : Value}
    {pm_l_meant : Value}
    {cd_l_meant : Value}
    {ct_l_meant : Value}
    {od_l_read : Option Addr}
    {an_l_read : Option Addr}
    {sl_l_read : Array (Option Value)}
    {oc_l_read : Value}
    {kV_l_read : Value}
    {dc_l_read : Value}
    {pm_l_read : Value}
    {cd_l_read : Value}
    {ct_l_read : Value}
    {od_l_figures : Option Addr}
    {an_l_figures : Option Addr}
    {sl_l_figures : Array (Option Value)}
    {oc_l_figures : Value}
    {kV_l_figures : Value}
    {dc_l_figures : Value}
    {pm_l_figures : Value}
    {cd_l_figures : Value}
    {ct_l_figures : Value}
    {od_l_goes_far : Option Addr}
    {an_l_goes_far : Option Addr}
    {sl_l_goes_far : Array (Option Value)}
    {oc_l_goes_far : Value}
    {kV_l_goes_far : Value}
    {dc_l_goes_far : Value}
    {pm_l_goes_far : Value}
    {cd_l_goes_far : Value}
    {ct_l_goes_far : Value}
    {od_law : Option Addr}
    {an_law : Option Addr}
    {sl_law : Array (Option Value)}
    {oc_law : Value}
    {kV_law : Value}
    {dc_law : Value}
    {pm_law : Value}
    {cd_law : Value}
    {ct_law : Value}
    {od_ratio : Option Addr}
    {an_ratio : Option Addr}
    {sl_ratio : Array (Option Value)}
    {oc_ratio : Value}
    {kV_ratio : Value}
    {dc_ratio : Value}
    {pm_ratio : Value}
    {cd_ratio : Value}
    {ct_ratio : Value}
    {to_ratio : Value}
    {td_ratio : Option Addr}
    {tn_ratio : Nat}
    {ts_ratio : Array (Option Value)}
    {tt_ratio : Tok}
    {nm_InvalidNumber q_InvalidNumber : Str}
    {N_InvalidNumber : Addr}
    {bs_InvalidNumber : List Value}
    {sn_InvalidNumber : List Str}
    {sub_InvalidNumber : List Value}
    {ab_InvalidNumber : Bool}
    {col_InvalidNumber : Option Bool}
    {dd_InvalidNumber : Option Addr}
    {m0_InvalidNumber m1_InvalidNumber m2_InvalidNumber m3_InvalidNumber m5_InvalidNumber : Option Value}
    {od_InvalidNumber_init : Option Addr}
    {an_InvalidNumber_init : Option Addr}
    {sl_InvalidNumber_init : Array (Option Value)}
    {oc_InvalidNumber_init : Value}
    {kV_InvalidNumber_init : Value}
    {dc_InvalidNumber_init : Value}
    {pm_InvalidNumber_init : Value}
    {cd_InvalidNumber_init : Value}
    {ct_InvalidNumber_init : Value}
    {nm_InvalidText q_InvalidText : Str}
    {N_InvalidText : Addr}
    {bs_InvalidText : List Value}
    {sn_InvalidText : List Str}
    {sub_InvalidText : List Value}
    {ab_InvalidText : Bool}
    {col_InvalidText : Option Bool}
    {dd_InvalidText : Option Addr}
    {m0_InvalidText m1_InvalidText m2_InvalidText m3_InvalidText m5_InvalidText : Option Value}
    {od_InvalidText_init : Option Addr}
    {an_InvalidText_init : Option Addr}
    {sl_InvalidText_init : Array (Option Value)}
    {oc_InvalidText_init : Value}
    {kV_InvalidText_init : Value}
    {dc_InvalidText_init : Value}
    {pm_InvalidText_init : Value}
    {cd_InvalidText_init : Value}
    {ct_InvalidText_init : Value}
    {tk_GROUP_UNIT : Tok}
    {tk_GROUP_DIGITS : Tok}
    (a_is_whole : PySem.W.nsIn K mainGlobals "is_whole" = some (some (.ref f_is_whole)))
    (l_is_whole : K.lookup f_is_whole = some ⟨oc_is_whole, od_is_whole, .func (PySem.W.fnOf "is_whole" "is_whole" (defArgs s_is_whole) (defBody s_is_whole) (defScope s_is_whole) .none kV_is_whole dc_is_whole pm_is_whole an_is_whole cd_is_whole ct_is_whole), sl_is_whole⟩)
    (c_is_whole : PySem.W.codeIn K cd_is_whole "is_whole" = true)
    (k_is_whole : PySem.W.keepIn K (.ref f_is_whole) = true)
    (a_is_ratio : PySem.W.nsIn K mainGlobals "is_ratio" = some (some (.ref f_is_ratio)))
    (l_is_ratio : K.lookup f_is_ratio = some ⟨oc_is_ratio, od_is_ratio, .func (PySem.W.fnOf "is_ratio" "is_ratio" (defArgs s_is_ratio) (defBody s_is_ratio) (defScope s_is_ratio) .none kV_is_ratio dc_is_ratio pm_is_ratio an_is_ratio cd_is_ratio ct_is_ratio), sl_is_ratio⟩)
    (c_is_ratio : PySem.W.codeIn K cd_is_ratio "is_ratio" = true)
    (k_is_ratio : PySem.W.keepIn K (.ref f_is_ratio) = true)
    (a_as_ratio : PySem.W.nsIn K mainGlobals "as_ratio" = some (some (.ref f_as_ratio)))
    (l_as_ratio : K.lookup f_as_ratio = some ⟨oc_as_ratio, od_as_ratio, .func (PySem.W.fnOf "as_ratio" "as_ratio" (defArgs s_as_ratio) (defBody s_as_ratio) (defScope s_as_ratio) .none kV_as_ratio dc_as_ratio pm_as_ratio an_as_ratio cd_as_ratio ct_as_ratio), sl_as_ratio⟩)
    (c_as_ratio : PySem.W.codeIn K cd_as_ratio "as_ratio" = true)
    (k_as_ratio : PySem.W.keepIn K (.ref f_as_ratio) = true)
    (a_multiply : PySem.W.nsIn K mainGlobals "multiply" = some (some (.ref f_multiply)))
    (l_multiply : K.lookup f_multiply = some ⟨oc_multiply, od_multiply, .func (PySem.W.fnOf "multiply" "multiply" (defArgs s_multiply) (defBody s_multiply) (defScope s_multiply) .none kV_multiply dc_multiply pm_multiply an_multiply cd_multiply ct_multiply), sl_multiply⟩)
    (c_multiply : PySem.W.codeIn K cd_multiply "multiply" = true)
    (k_multiply : PySem.W.keepIn K (.ref f_multiply) = true)
    (a_multiply_ratios : PySem.W.nsIn K mainGlobals "multiply_ratios" = some (some (.ref f_multiply_ratios)))
    (l_multiply_ratios : K.lookup f_multiply_ratios = some ⟨oc_multiply_ratios, od_multiply_ratios, .func (PySem.W.fnOf "multiply_ratios" "multiply_ratios" (defArgs s_multiply_ratios) (defBody s_multiply_ratios) (defScope s_multiply_ratios) .none kV_multiply_ratios dc_multiply_ratios pm_multiply_ratios an_multiply_ratios cd_multiply_ratios ct_multiply_ratios), sl_multiply_ratios⟩)
    (c_multiply_ratios : PySem.W.codeIn K cd_multiply_ratios "multiply_ratios" = true)
    (k_multiply_ratios : PySem.W.keepIn K (.ref f_multiply_ratios) = true)
    (a_divide : PySem.W.nsIn K mainGlobals "divide" = some (some (.ref f_divide)))
    (l_divide : K.lookup f_divide = some ⟨oc_divide, od_divide, .func (PySem.W.fnOf "divide" "divide" (defArgs s_divide) (defBody s_divide) (defScope s_divide) .none kV_divide dc_divide pm_divide an_divide cd_divide ct_divide), sl_divide⟩)
    (c_divide : PySem.W.codeIn K cd_divide "divide" = true)
    (k_divide : PySem.W.keepIn K (.ref f_divide) = true)
    (a_ratio_text : PySem.W.nsIn K mainGlobals "ratio_text" = some (some (.ref f_ratio_text)))
    (l_ratio_text : K.lookup f_ratio_text = some ⟨oc_ratio_text, od_ratio_text, .func (PySem.W.fnOf "ratio_text" "ratio_text" (defArgs s_ratio_text) (defBody s_ratio_text) (defScope s_ratio_text) .none kV_ratio_text dc_ratio_text pm_ratio_text an_ratio_text cd_ratio_text ct_ratio_text), sl_ratio_text⟩)
    (c_ratio_text : PySem.W.codeIn K cd_ratio_text "ratio_text" = true)
    (k_ratio_text : PySem.W.keepIn K (.ref f_ratio_text) = true)
    (a_integer_text : PySem.W.nsIn K mainGlobals "integer_text" = some (some (.ref f_integer_text)))
    (l_integer_text : K.lookup f_integer_text = some ⟨oc_integer_text, od_integer_text, .func (PySem.W.fnOf "integer_text" "integer_text" (defArgs s_integer_text) (defBody s_integer_text) (defScope s_integer_text) .none kV_integer_text dc_integer_text pm_integer_text an_integer_text cd_integer_text ct_integer_text), sl_integer_text⟩)
    (c_integer_text : PySem.W.codeIn K cd_integer_text "integer_text" = true)
    (k_integer_text : PySem.W.keepIn K (.ref f_integer_text) = true)
    (a_read_ratio : PySem.W.nsIn K mainGlobals "read_ratio" = some (some (.ref f_read_ratio)))
    (l_read_ratio : K.lookup f_read_ratio = some ⟨oc_read_ratio, od_read_ratio, .func (PySem.W.fnOf "read_ratio" "read_ratio" (defArgs s_read_ratio) (defBody s_read_ratio) (defScope s_read_ratio) .none kV_read_ratio dc_read_ratio pm_read_ratio an_read_ratio cd_read_ratio ct_read_ratio), sl_read_ratio⟩)
    (c_read_ratio : PySem.W.codeIn K cd_read_ratio "read_ratio" = true)
    (k_read_ratio : PySem.W.keepIn K (.ref f_read_ratio) = true)
    (a_are_digits : PySem.W.nsIn K mainGlobals "are_digits" = some (some (.ref f_are_digits)))
    (l_are_digits : K.lookup f_are_digits = some ⟨oc_are_digits, od_are_digits, .func (PySem.W.fnOf "are_digits" "are_digits" (defArgs s_are_digits) (defBody s_are_digits) (defScope s_are_digits) .none kV_are_digits dc_are_digits pm_are_digits an_are_digits cd_are_digits ct_are_digits), sl_are_digits⟩)
    (c_are_digits : PySem.W.codeIn K cd_are_digits "are_digits" = true)
    (k_are_digits : PySem.W.keepIn K (.ref f_are_digits) = true)
    (a_read_digits : PySem.W.nsIn K mainGlobals "read_digits" = some (some (.ref f_read_digits)))
    (l_read_digits : K.lookup f_read_digits = some ⟨oc_read_digits, od_read_digits, .func (PySem.W.fnOf "read_digits" "read_digits" (defArgs s_read_digits) (defBody s_read_digits) (defScope s_read_digits) .none kV_read_digits dc_read_digits pm_read_digits an_read_digits cd_read_digits ct_read_digits), sl_read_digits⟩)
    (c_read_digits : PySem.W.codeIn K cd_read_digits "read_digits" = true)
    (k_read_digits : PySem.W.keepIn K (.ref f_read_digits) = true)
    (a_l_box : PySem.W.nsIn K mainGlobals "_law_box" = some (some (.ref f_l_box)))
    (l_l_box : K.lookup f_l_box = some ⟨oc_l_box, od_l_box, .func (PySem.W.fnOf "_law_box" "_law_box" (defArgs s_l_box) (defBody s_l_box) (defScope s_l_box) .none kV_l_box dc_l_box pm_l_box an_l_box cd_l_box ct_l_box), sl_l_box⟩)
    (c_l_box : PySem.W.codeIn K cd_l_box "_law_box" = true)
    (k_l_box : PySem.W.keepIn K (.ref f_l_box) = true)
    (a_l_mixed : PySem.W.nsIn K mainGlobals "_law_mixed" = some (some (.ref f_l_mixed)))
    (l_l_mixed : K.lookup f_l_mixed = some ⟨oc_l_mixed, od_l_mixed, .func (PySem.W.fnOf "_law_mixed" "_law_mixed" (defArgs s_l_mixed) (defBody s_l_mixed) (defScope s_l_mixed) .none kV_l_mixed dc_l_mixed pm_l_mixed an_l_mixed cd_l_mixed ct_l_mixed), sl_l_mixed⟩)
    (c_l_mixed : PySem.W.codeIn K cd_l_mixed "_law_mixed" = true)
    (k_l_mixed : PySem.W.keepIn K (.ref f_l_mixed) = true)
    (a_l_take : PySem.W.nsIn K mainGlobals "_law_take" = some (some (.ref f_l_take)))
    (l_l_take : K.lookup f_l_take = some ⟨oc_l_take, od_l_take, .func (PySem.W.fnOf "_law_take" "_law_take" (defArgs s_l_take) (defBody s_l_take) (defScope s_l_take) .none kV_l_take dc_l_take pm_l_take an_l_take cd_l_take ct_l_take), sl_l_take⟩)
    (c_l_take : PySem.W.codeIn K cd_l_take "_law_take" = true)
    (k_l_take : PySem.W.keepIn K (.ref f_l_take) = true)
    (a_l_shared : PySem.W.nsIn K mainGlobals "_law_shared" = some (some (.ref f_l_shared)))
    (l_l_shared : K.lookup f_l_shared = some ⟨oc_l_shared, od_l_shared, .func (PySem.W.fnOf "_law_shared" "_law_shared" (defArgs s_l_shared) (defBody s_l_shared) (defScope s_l_shared) .none kV_l_shared dc_l_shared pm_l_shared an_l_shared cd_l_shared ct_l_shared), sl_l_shared⟩)
    (c_l_shared : PySem.W.codeIn K cd_l_shared "_law_shared" = true)
    (k_l_shared : PySem.W.keepIn K (.ref f_l_shared) = true)
    (a_l_ratio : PySem.W.nsIn K mainGlobals "_law_ratio" = some (some (.ref f_l_ratio)))
    (l_l_ratio : K.lookup f_l_ratio = some ⟨oc_l_ratio, od_l_ratio, .func (PySem.W.fnOf "_law_ratio" "_law_ratio" (defArgs s_l_ratio) (defBody s_l_ratio) (defScope s_l_ratio) .none kV_l_ratio dc_l_ratio pm_l_ratio an_l_ratio cd_l_ratio ct_l_ratio), sl_l_ratio⟩)
    (c_l_ratio : PySem.W.codeIn K cd_l_ratio "_law_ratio" = true)
    (k_l_ratio : PySem.W.keepIn K (.ref f_l_ratio) = true)
    (a_l_number : PySem.W.nsIn K mainGlobals "_law_number" = some (some (.ref f_l_number)))
    (l_l_number : K.lookup f_l_number = some ⟨oc_l_number, od_l_number, .func (PySem.W.fnOf "_law_number" "_law_number" (defArgs s_l_number) (defBody s_l_number) (defScope s_l_number) .none kV_l_number dc_l_number pm_l_number an_l_number cd_l_number ct_l_number), sl_l_number⟩)
    (c_l_number : PySem.W.codeIn K cd_l_number "_law_number" = true)
    (k_l_number : PySem.W.keepIn K (.ref f_l_number) = true)
    (a_l_given : PySem.W.nsIn K mainGlobals "_law_given" = some (some (.ref f_l_given)))
    (l_l_given : K.lookup f_l_given = some ⟨oc_l_given, od_l_given, .func (PySem.W.fnOf "_law_given" "_law_given" (defArgs s_l_given) (defBody s_l_given) (defScope s_l_given) .none kV_l_given dc_l_given pm_l_given an_l_given cd_l_given ct_l_given), sl_l_given⟩)
    (c_l_given : PySem.W.codeIn K cd_l_given "_law_given" = true)
    (k_l_given : PySem.W.keepIn K (.ref f_l_given) = true)
    (a_l_digits : PySem.W.nsIn K mainGlobals "_law_digits" = some (some (.ref f_l_digits)))
    (l_l_digits : K.lookup f_l_digits = some ⟨oc_l_digits, od_l_digits, .func (PySem.W.fnOf "_law_digits" "_law_digits" (defArgs s_l_digits) (defBody s_l_digits) (defScope s_l_digits) .none kV_l_digits dc_l_digits pm_l_digits an_l_digits cd_l_digits ct_l_digits), sl_l_digits⟩)
    (c_l_digits : PySem.W.codeIn K cd_l_digits "_law_digits" = true)
    (k_l_digits : PySem.W.keepIn K (.ref f_l_digits) = true)
    (a_l_written : PySem.W.nsIn K mainGlobals "_law_written" = some (some (.ref f_l_written)))
    (l_l_written : K.lookup f_l_written = some ⟨oc_l_written, od_l_written, .func (PySem.W.fnOf "_law_written" "_law_written" (defArgs s_l_written) (defBody s_l_written) (defScope s_l_written) .none kV_l_written dc_l_written pm_l_written an_l_written cd_l_written ct_l_written), sl_l_written⟩)
    (c_l_written : PySem.W.codeIn K cd_l_written "_law_written" = true)
    (k_l_written : PySem.W.keepIn K (.ref f_l_written) = true)
    (a_l_bent : PySem.W.nsIn K mainGlobals "_law_bent" = some (some (.ref f_l_bent)))
    (l_l_bent : K.lookup f_l_bent = some ⟨oc_l_bent, od_l_bent, .func (PySem.W.fnOf "_law_bent" "_law_bent" (defArgs s_l_bent) (defBody s_l_bent) (defScope s_l_bent) .none kV_l_bent dc_l_bent pm_l_bent an_l_bent cd_l_bent ct_l_bent), sl_l_bent⟩)
    (c_l_bent : PySem.W.codeIn K cd_l_bent "_law_bent" = true)
    (k_l_bent : PySem.W.keepIn K (.ref f_l_bent) = true)
    (a_l_worth_of : PySem.W.nsIn K mainGlobals "_law_worth_of" = some (some (.ref f_l_worth_of)))
    (l_l_worth_of : K.lookup f_l_worth_of = some ⟨oc_l_worth_of, od_l_worth_of, .func (PySem.W.fnOf "_law_worth_of" "_law_worth_of" (defArgs s_l_worth_of) (defBody s_l_worth_of) (defScope s_l_worth_of) .none kV_l_worth_of dc_l_worth_of pm_l_worth_of an_l_worth_of cd_l_worth_of ct_l_worth_of), sl_l_worth_of⟩)
    (c_l_worth_of : PySem.W.codeIn K cd_l_worth_of "_law_worth_of" = true)
    (k_l_worth_of : PySem.W.keepIn K (.ref f_l_worth_of) = true)
    (a_l_meant : PySem.W.nsIn K mainGlobals "_law_meant" = some (some (.ref f_l_meant)))
    (l_l_meant : K.lookup f_l_meant = some ⟨oc_l_meant, od_l_meant, .func (PySem.W.fnOf "_law_meant" "_law_meant" (defArgs s_l_meant) (defBody s_l_meant) (defScope s_l_meant) .none kV_l_meant dc_l_meant pm_l_meant an_l_meant cd_l_meant ct_l_meant), sl_l_meant⟩)
    (c_l_meant : PySem.W.codeIn K cd_l_meant "_law_meant" = true)
    (k_l_meant : PySem.W.keepIn K (.ref f_l_meant) = true)
    (a_l_read : PySem.W.nsIn K mainGlobals "_law_read" = some (some (.ref f_l_read)))
    (l_l_read : K.lookup f_l_read = some ⟨oc_l_read, od_l_read, .func (PySem.W.fnOf "_law_read" "_law_read" (defArgs s_l_read) (defBody s_l_read) (defScope s_l_read) .none kV_l_read dc_l_read pm_l_read an_l_read cd_l_read ct_l_read), sl_l_read⟩)
    (c_l_read : PySem.W.codeIn K cd_l_read "_law_read" = true)
    (k_l_read : PySem.W.keepIn K (.ref f_l_read) = true)
    (a_l_figures : PySem.W.nsIn K mainGlobals "_law_figures" = some (some (.ref f_l_figures)))
    (l_l_figures : K.lookup f_l_figures = some ⟨oc_l_figures, od_l_figures, .func (PySem.W.fnOf "_law_figures" "_law_figures" (defArgs s_l_figures) (defBody s_l_figures) (defScope s_l_figures) .none kV_l_figures dc_l_figures pm_l_figures an_l_figures cd_l_figures ct_l_figures), sl_l_figures⟩)
    (c_l_figures : PySem.W.codeIn K cd_l_figures "_law_figures" = true)
    (k_l_figures : PySem.W.keepIn K (.ref f_l_figures) = true)
    (a_l_goes_far : PySem.W.nsIn K mainGlobals "_law_goes_far" = some (some (.ref f_l_goes_far)))
    (l_l_goes_far : K.lookup f_l_goes_far = some ⟨oc_l_goes_far, od_l_goes_far, .func (PySem.W.fnOf "_law_goes_far" "_law_goes_far" (defArgs s_l_goes_far) (defBody s_l_goes_far) (defScope s_l_goes_far) .none kV_l_goes_far dc_l_goes_far pm_l_goes_far an_l_goes_far cd_l_goes_far ct_l_goes_far), sl_l_goes_far⟩)
    (c_l_goes_far : PySem.W.codeIn K cd_l_goes_far "_law_goes_far" = true)
    (k_l_goes_far : PySem.W.keepIn K (.ref f_l_goes_far) = true)
    (a_law : PySem.W.nsIn K mainGlobals "law" = some (some (.ref f_law)))
    (l_law : K.lookup f_law = some ⟨oc_law, od_law, .func (PySem.W.fnOf "law" "law" (defArgs s_law) (defBody s_law) (defScope s_law) .none kV_law dc_law pm_law an_law cd_law ct_law), sl_law⟩)
    (c_law : PySem.W.codeIn K cd_law "law" = true)
    (k_law : PySem.W.keepIn K (.ref f_law) = true)
    (a_ratio : PySem.W.nsIn K mainGlobals "ratio" = some (some (.ref f_ratio)))
    (l_ratio : K.lookup f_ratio = some ⟨oc_ratio, od_ratio, .func (PySem.W.fnOf "ratio" "ratio" (defArgs s_ratio) (defBody s_ratio) (defScope s_ratio) (.ref T_ratio) kV_ratio dc_ratio pm_ratio an_ratio cd_ratio ct_ratio), sl_ratio⟩)
    (c_ratio : PySem.W.codeIn K cd_ratio "ratio" = true)
    (k_ratio : PySem.W.keepIn K (.ref f_ratio) = true)
    (t_ratio : K.lookup T_ratio = some ⟨to_ratio, td_ratio, .seq #[.int 1 tt_ratio] tn_ratio, ts_ratio⟩)
    (aC_SheetError : PySem.W.nsIn K mainGlobals "SheetError" = some (some (.ref C_SheetError)))
    (aC_ZeroBottom : PySem.W.nsIn K mainGlobals "ZeroBottom" = some (some (.ref C_ZeroBottom)))
    (aC_InvalidNumber : PySem.W.nsIn K mainGlobals "InvalidNumber" = some (some (.ref C_InvalidNumber)))
    (aC_InvalidText : PySem.W.nsIn K mainGlobals "InvalidText" = some (some (.ref C_InvalidText)))
    (special : PySem.W.specialIn K (.builtin "object.__class__") "__get__" = some (some (.builtin "getset_descriptor.__get__")))
    (takes : PySem.W.takesIn K (.builtin "object.__class__") = some true)
    (kS_ZeroBottom : PySem.W.kitOne K (.ref C_ZeroBottom) (.ref C_SheetError) = some true)
    (ga_ZeroBottom : PySem.W.findIn K (.ref C_ZeroBottom) "__getattribute__" = some (some (.builtin "BaseException.__getattribute__")))
    (gg_ZeroBottom : PySem.W.findIn K (.ref C_ZeroBottom) "__getattr__" = some none)
    (sb_ZeroBottom : PySem.W.subIn K (.ref C_ZeroBottom) (.type "BaseException") = some true)
    (hd_ZeroBottom : PySem.W.hasDictIn K C_ZeroBottom = true)
    (ha_ZeroBottom : PySem.W.findIn K (.ref C_ZeroBottom) "__class__" = some (some (.builtin "object.__class__")))
    (hm_ZeroBottom : PySem.W.mroIn K C_ZeroBottom (.type "object") = some true)
    (ty_ZeroBottom : PySem.W.typeIn K (.ref C_ZeroBottom) = some (.type "type"))
    (kp_ZeroBottom : PySem.W.keepIn K (.ref C_ZeroBottom) = true)
    (ex_ZeroBottom : PySem.W.exmOne K (.ref C_ZeroBottom) (.ref C_ZeroBottom) = some true)
    (xp_ZeroBottom : PySem.W.excIn K C_ZeroBottom [.type "ValueError", .type "Exception", .type "BaseException", .type "object"] "ValueError.__new__" = true)
    (kS_InvalidNumber : PySem.W.kitOne K (.ref C_InvalidNumber) (.ref C_SheetError) = some true)
    (ga_InvalidNumber : PySem.W.findIn K (.ref C_InvalidNumber) "__getattribute__" = some (some (.builtin "BaseException.__getattribute__")))
    (gg_InvalidNumber : PySem.W.findIn K (.ref C_InvalidNumber) "__getattr__" = some none)
    (sb_InvalidNumber : PySem.W.subIn K (.ref C_InvalidNumber) (.type "BaseException") = some true)
    (hd_InvalidNumber : PySem.W.hasDictIn K C_InvalidNumber = true)
    (ha_InvalidNumber : PySem.W.findIn K (.ref C_InvalidNumber) "__class__" = some (some (.builtin "object.__class__")))
    (hm_InvalidNumber : PySem.W.mroIn K C_InvalidNumber (.type "object") = some true)
    (ty_InvalidNumber : PySem.W.typeIn K (.ref C_InvalidNumber) = some (.type "type"))
    (kp_InvalidNumber : PySem.W.keepIn K (.ref C_InvalidNumber) = true)
    (ex_InvalidNumber : PySem.W.exmOne K (.ref C_InvalidNumber) (.ref C_InvalidNumber) = some true)
    (x_InvalidNumber : K.lookup C_InvalidNumber = some (excClassObj nm_InvalidNumber q_InvalidNumber C_InvalidNumber N_InvalidNumber bs_InvalidNumber [.ref C_SheetError, .type "ValueError", .type "Exception", .type "BaseException", .type "object"] true sn_InvalidNumber sub_InvalidNumber ab_InvalidNumber col_InvalidNumber dd_InvalidNumber m0_InvalidNumber m1_InvalidNumber m2_InvalidNumber m3_InvalidNumber m5_InvalidNumber "ValueError.__new__"))
    (sa_InvalidNumber : PySem.W.findIn K (.ref C_InvalidNumber) "__setattr__" = some (some (.builtin "object.__setattr__")))
    (no_InvalidNumber : PySem.W.findIn K (.ref C_InvalidNumber) "value" = some none)
    (i_InvalidNumber : PySem.W.findIn K (.ref C_InvalidNumber) "__init__" = some (some (.ref f_InvalidNumber_init)))
    (ti_InvalidNumber : PySem.W.typeIn K (.ref f_InvalidNumber_init) = some (.type "function"))
    (l_InvalidNumber_init : K.lookup f_InvalidNumber_init = some ⟨oc_InvalidNumber_init, od_InvalidNumber_init, .func (PySem.W.fnOf "__init__" "InvalidNumber.__init__" (defArgs s_InvalidNumber_init) (defBody s_InvalidNumber_init) (defScope s_InvalidNumber_init) .none kV_InvalidNumber_init dc_InvalidNumber_init pm_InvalidNumber_init an_InvalidNumber_init cd_InvalidNumber_init ct_InvalidNumber_init), sl_InvalidNumber_init⟩)
    (c_InvalidNumber_init : PySem.W.codeIn K cd_InvalidNumber_init "InvalidNumber.__init__" = true)
    (k_InvalidNumber_init : PySem.W.keepIn K (.ref f_InvalidNumber_init) = true)
    (kS_InvalidText : PySem.W.kitOne K (.ref C_InvalidText) (.ref C_SheetError) = some true)
    (ga_InvalidText : PySem.W.findIn K (.ref C_InvalidText) "__getattribute__" = some (some (.builtin "BaseException.__getattribute__")))
    (gg_InvalidText : PySem.W.findIn K (.ref C_InvalidText) "__getattr__" = some none)
    (sb_InvalidText : PySem.W.subIn K (.ref C_InvalidText) (.type "BaseException") = some true)
    (hd_InvalidText : PySem.W.hasDictIn K C_InvalidText = true)
    (ha_InvalidText : PySem.W.findIn K (.ref C_InvalidText) "__class__" = some (some (.builtin "object.__class__")))
    (hm_InvalidText : PySem.W.mroIn K C_InvalidText (.type "object") = some true)
    (ty_InvalidText : PySem.W.typeIn K (.ref C_InvalidText) = some (.type "type"))
    (kp_InvalidText : PySem.W.keepIn K (.ref C_InvalidText) = true)
    (ex_InvalidText : PySem.W.exmOne K (.ref C_InvalidText) (.ref C_InvalidText) = some true)
    (x_InvalidText : K.lookup C_InvalidText = some (excClassObj nm_InvalidText q_InvalidText C_InvalidText N_InvalidText bs_InvalidText [.ref C_SheetError, .type "ValueError", .type "Exception", .type "BaseException", .type "object"] true sn_InvalidText sub_InvalidText ab_InvalidText col_InvalidText dd_InvalidText m0_InvalidText m1_InvalidText m2_InvalidText m3_InvalidText m5_InvalidText "ValueError.__new__"))
    (sa_InvalidText : PySem.W.findIn K (.ref C_InvalidText) "__setattr__" = some (some (.builtin "object.__setattr__")))
    (no_InvalidText : PySem.W.findIn K (.ref C_InvalidText) "text" = some none)
    (i_InvalidText : PySem.W.findIn K (.ref C_InvalidText) "__init__" = some (some (.ref f_InvalidText_init)))
    (ti_InvalidText : PySem.W.typeIn K (.ref f_InvalidText_init) = some (.type "function"))
    (l_InvalidText_init : K.lookup f_InvalidText_init = some ⟨oc_InvalidText_init, od_InvalidText_init, .func (PySem.W.fnOf "__init__" "InvalidText.__init__" (defArgs s_InvalidText_init) (defBody s_InvalidText_init) (defScope s_InvalidText_init) .none kV_InvalidText_init dc_InvalidText_init pm_InvalidText_init an_InvalidText_init cd_InvalidText_init ct_InvalidText_init), sl_InvalidText_init⟩)
    (c_InvalidText_init : PySem.W.codeIn K cd_InvalidText_init "InvalidText.__init__" = true)
    (k_InvalidText_init : PySem.W.keepIn K (.ref f_InvalidText_init) = true)
    (v_GROUP_UNIT : PySem.W.nsIn K mainGlobals "GROUP_UNIT" = some (some (.int 10000000000000000000000000000000000000000000000000000000000000000 tk_GROUP_UNIT)))
    (v_GROUP_DIGITS : PySem.W.nsIn K mainGlobals "GROUP_DIGITS" = some (some (.int 64 tk_GROUP_DIGITS)))
    (n_len : PySem.W.nsIn K mainGlobals "len" = some none)
    (n_max : PySem.W.nsIn K mainGlobals "max" = some none)
    (n_abs : PySem.W.nsIn K mainGlobals "abs" = some none)
    (n_any : PySem.W.nsIn K mainGlobals "any" = some none)
    (n_all : PySem.W.nsIn K mainGlobals "all" = some none)
    (n_isinstance : PySem.W.nsIn K mainGlobals "isinstance" = some none)
    (n_range : PySem.W.nsIn K mainGlobals "range" = some none)
    (n_zip : PySem.W.nsIn K mainGlobals "zip" = some none)
    (n_int : PySem.W.nsIn K mainGlobals "int" = some none)
    (n_bool : PySem.W.nsIn K mainGlobals "bool" = some none)
    (n_tuple : PySem.W.nsIn K mainGlobals "tuple" = some none)
    (n_list : PySem.W.nsIn K mainGlobals "list" = some none)
    (n_divmod : PySem.W.nsIn K mainGlobals "divmod" = some none)
    (n_str : PySem.W.nsIn K mainGlobals "str" = some none)
    (g_gcd : PySem.W.nsIn K mainGlobals "gcd" = some (some (.builtin "math.gcd"))) :
    ∃ fd : FuncData, (∀ (s : Shared) (v : Value), BindsTo s fd ⟨[v], []⟩ [("_law_script", v)]) ∧ ∀ base : Heap, K.In base → base.Ns mainGlobals mg → FnOk l.prog w K mg base CX0 10 fa fd ["_law_script"] (spLaw K) := by
  have e := hfa.symm.trans (PySem.W.mg_of X G a_law)
  cases e
  have T : Bt mg := ⟨PySem.W.mg_none_of X G n_len, PySem.W.mg_none_of X G n_max, PySem.W.mg_none_of X G n_abs, PySem.W.mg_none_of X G n_any, PySem.W.mg_none_of X G n_all, PySem.W.mg_none_of X G n_isinstance, PySem.W.mg_none_of X G n_range, PySem.W.mg_none_of X G n_zip, PySem.W.mg_none_of X G n_int, PySem.W.mg_none_of X G n_bool, PySem.W.mg_none_of X G n_tuple, PySem.W.mg_none_of X G n_list⟩
  have w_GROUP_UNIT : ∃ t, mg "GROUP_UNIT" = some (.int 10000000000000000000000000000000000000000000000000000000000000000 t) := ⟨_, PySem.W.mg_of X G v_GROUP_UNIT⟩
  have w_GROUP_DIGITS : ∃ t, mg "GROUP_DIGITS" = some (.int 64 t) := ⟨_, PySem.W.mg_of X G v_GROUP_DIGITS⟩
  have Tt : Ut mg := ⟨PySem.W.mg_none_of X G n_divmod, PySem.W.mg_none_of X G n_str, by have z := w_GROUP_UNIT; rw [UNIT_GROUP_UNIT] at z; exact z, by have z := w_GROUP_DIGITS; rw [UNIT_GROUP_DIGITS] at z; exact z⟩
  have Tg : Gt mg := ⟨PySem.W.mg_of X G g_gcd⟩
  have F_is_whole := fun_mk (st := s_is_whole) l_is_whole c_is_whole k_is_whole
  have D_is_whole : Df K mg "is_whole" s_is_whole ["value"] := ⟨_, _, F_is_whole, PySem.W.mg_of X G a_is_whole, F_is_whole.binds fun _ _ _ _ _ _ us hl => match us, hl with | [_], _ => rfl⟩
  have F_is_ratio := fun_mk (st := s_is_ratio) l_is_ratio c_is_ratio k_is_ratio
  have D_is_ratio : Df K mg "is_ratio" s_is_ratio ["value"] := ⟨_, _, F_is_ratio, PySem.W.mg_of X G a_is_ratio, F_is_ratio.binds fun _ _ _ _ _ _ us hl => match us, hl with | [_], _ => rfl⟩
  have F_as_ratio := fun_mk (st := s_as_ratio) l_as_ratio c_as_ratio k_as_ratio
  have D_as_ratio : Df K mg "as_ratio" s_as_ratio ["value"] := ⟨_, _, F_as_ratio, PySem.W.mg_of X G a_as_ratio, F_as_ratio.binds fun _ _ _ _ _ _ us hl => match us, hl with | [_], _ => rfl⟩
  have F_multiply := fun_mk (st := s_multiply) l_multiply c_multiply k_multiply
  have D_multiply : Df K mg "multiply" s_multiply ["one", "other"] := ⟨_, _, F_multiply, PySem.W.mg_of X G a_multiply, F_multiply.binds fun _ _ _ _ _ _ us hl => match us, hl with | [_, _], _ => rfl⟩
  have F_multiply_ratios := fun_mk (st := s_multiply_ratios) l_multiply_ratios c_multiply_ratios k_multiply_ratios
  have D_multiply_ratios : Df K mg "multiply_ratios" s_multiply_ratios ["one", "other"] := ⟨_, _, F_multiply_ratios, PySem.W.mg_of X G a_multiply_ratios, F_multiply_ratios.binds fun _ _ _ _ _ _ us hl => match us, hl with | [_, _], _ => rfl⟩
  have F_divide := fun_mk (st := s_divide) l_divide c_divide k_divide
  have D_divide : Df K mg "divide" s_divide ["one", "other"] := ⟨_, _, F_divide, PySem.W.mg_of X G a_divide, F_divide.binds fun _ _ _ _ _ _ us hl => match us, hl with | [_, _], _ => rfl⟩
  have F_ratio_text := fun_mk (st := s_ratio_text) l_ratio_text c_ratio_text k_ratio_text
  have D_ratio_text : Df K mg "ratio_text" s_ratio_text ["number"] := ⟨_, _, F_ratio_text, PySem.W.mg_of X G a_ratio_text, F_ratio_text.binds fun _ _ _ _ _ _ us hl => match us, hl with | [_], _ => rfl⟩
  have F_integer_text := fun_mk (st := s_integer_text) l_integer_text c_integer_text k_integer_text
  have D_integer_text : Df K mg "integer_text" s_integer_text ["number"] := ⟨_, _, F_integer_text, PySem.W.mg_of X G a_integer_text, F_integer_text.binds fun _ _ _ _ _ _ us hl => match us, hl with | [_], _ => rfl⟩
  have F_read_ratio := fun_mk (st := s_read_ratio) l_read_ratio c_read_ratio k_read_ratio
  have D_read_ratio : Df K mg "read_ratio" s_read_ratio ["text"] := ⟨_, _, F_read_ratio, PySem.W.mg_of X G a_read_ratio, F_read_ratio.binds fun _ _ _ _ _ _ us hl => match us, hl with | [_], _ => rfl⟩
  have F_are_digits := fun_mk (st := s_are_digits) l_are_digits c_are_digits k_are_digits
  have D_are_digits : Df K mg "are_digits" s_are_digits ["text"] := ⟨_, _, F_are_digits, PySem.W.mg_of X G a_are_digits, F_are_digits.binds fun _ _ _ _ _ _ us hl => match us, hl with | [_], _ => rfl⟩
  have F_read_digits := fun_mk (st := s_read_digits) l_read_digits c_read_digits k_read_digits
  have D_read_digits : Df K mg "read_digits" s_read_digits ["digits"] := ⟨_, _, F_read_digits, PySem.W.mg_of X G a_read_digits, F_read_digits.binds fun _ _ _ _ _ _ us hl => match us, hl with | [_], _ => rfl⟩
  have F_l_box := fun_mk (st := s_l_box) l_l_box c_l_box k_l_box
  have D_l_box : Df K mg "_law_box" s_l_box ["_law_script"] := ⟨_, _, F_l_box, PySem.W.mg_of X G a_l_box, F_l_box.binds fun _ _ _ _ _ _ us hl => match us, hl with | [_], _ => rfl⟩
  have F_l_mixed := fun_mk (st := s_l_mixed) l_l_mixed c_l_mixed k_l_mixed
  have D_l_mixed : Df K mg "_law_mixed" s_l_mixed ["_law_cell", "_law_k"] := ⟨_, _, F_l_mixed, PySem.W.mg_of X G a_l_mixed, F_l_mixed.binds fun _ _ _ _ _ _ us hl => match us, hl with | [_, _], _ => rfl⟩
  have F_l_take := fun_mk (st := s_l_take) l_l_take c_l_take k_l_take
  have D_l_take : Df K mg "_law_take" s_l_take ["_law_box_here", "_law_size"] := ⟨_, _, F_l_take, PySem.W.mg_of X G a_l_take, F_l_take.binds fun _ _ _ _ _ _ us hl => match us, hl with | [_, _], _ => rfl⟩
  have F_l_shared := fun_mk (st := s_l_shared) l_l_shared c_l_shared k_l_shared
  have D_l_shared : Df K mg "_law_shared" s_l_shared ["_law_one", "_law_other"] := ⟨_, _, F_l_shared, PySem.W.mg_of X G a_l_shared, F_l_shared.binds fun _ _ _ _ _ _ us hl => match us, hl with | [_, _], _ => rfl⟩
  have F_l_ratio := fun_mk (st := s_l_ratio) l_l_ratio c_l_ratio k_l_ratio
  have D_l_ratio : Df K mg "_law_ratio" s_l_ratio ["_law_top", "_law_bottom"] := ⟨_, _, F_l_ratio, PySem.W.mg_of X G a_l_ratio, F_l_ratio.binds fun _ _ _ _ _ _ us hl => match us, hl with | [_, _], _ => rfl⟩
  have F_l_number := fun_mk (st := s_l_number) l_l_number c_l_number k_l_number
  have D_l_number : Df K mg "_law_number" s_l_number ["_law_box_here"] := ⟨_, _, F_l_number, PySem.W.mg_of X G a_l_number, F_l_number.binds fun _ _ _ _ _ _ us hl => match us, hl with | [_], _ => rfl⟩
  have F_l_given := fun_mk (st := s_l_given) l_l_given c_l_given k_l_given
  have D_l_given : Df K mg "_law_given" s_l_given ["_law_box_here", "_law_number_here"] := ⟨_, _, F_l_given, PySem.W.mg_of X G a_l_given, F_l_given.binds fun _ _ _ _ _ _ us hl => match us, hl with | [_, _], _ => rfl⟩
  have F_l_digits := fun_mk (st := s_l_digits) l_l_digits c_l_digits k_l_digits
  have D_l_digits : Df K mg "_law_digits" s_l_digits ["_law_box_here"] := ⟨_, _, F_l_digits, PySem.W.mg_of X G a_l_digits, F_l_digits.binds fun _ _ _ _ _ _ us hl => match us, hl with | [_], _ => rfl⟩
  have F_l_written := fun_mk (st := s_l_written) l_l_written c_l_written k_l_written
  have D_l_written : Df K mg "_law_written" s_l_written ["_law_box_here"] := ⟨_, _, F_l_written, PySem.W.mg_of X G a_l_written, F_l_written.binds fun _ _ _ _ _ _ us hl => match us, hl with | [_], _ => rfl⟩
  have F_l_bent := fun_mk (st := s_l_bent) l_l_bent c_l_bent k_l_bent
  have D_l_bent : Df K mg "_law_bent" s_l_bent ["_law_box_here", "_law_text"] := ⟨_, _, F_l_bent, PySem.W.mg_of X G a_l_bent, F_l_bent.binds fun _ _ _ _ _ _ us hl => match us, hl with | [_, _], _ => rfl⟩
  have F_l_worth_of := fun_mk (st := s_l_worth_of) l_l_worth_of c_l_worth_of k_l_worth_of
  have D_l_worth_of : Df K mg "_law_worth_of" s_l_worth_of ["_law_digits_here"] := ⟨_, _, F_l_worth_of, PySem.W.mg_of X G a_l_worth_of, F_l_worth_of.binds fun _ _ _ _ _ _ us hl => match us, hl with | [_], _ => rfl⟩
  have F_l_meant := fun_mk (st := s_l_meant) l_l_meant c_l_meant k_l_meant
  have D_l_meant : Df K mg "_law_meant" s_l_meant ["_law_text"] := ⟨_, _, F_l_meant, PySem.W.mg_of X G a_l_meant, F_l_meant.binds fun _ _ _ _ _ _ us hl => match us, hl with | [_], _ => rfl⟩
  have F_l_read := fun_mk (st := s_l_read) l_l_read c_l_read k_l_read
  have D_l_read : Df K mg "_law_read" s_l_read ["_law_text"] := ⟨_, _, F_l_read, PySem.W.mg_of X G a_l_read, F_l_read.binds fun _ _ _ _ _ _ us hl => match us, hl with | [_], _ => rfl⟩
  have F_l_figures := fun_mk (st := s_l_figures) l_l_figures c_l_figures k_l_figures
  have D_l_figures : Df K mg "_law_figures" s_l_figures ["_law_number_here"] := ⟨_, _, F_l_figures, PySem.W.mg_of X G a_l_figures, F_l_figures.binds fun _ _ _ _ _ _ us hl => match us, hl with | [_], _ => rfl⟩
  have F_l_goes_far := fun_mk (st := s_l_goes_far) l_l_goes_far c_l_goes_far k_l_goes_far
  have D_l_goes_far : Df K mg "_law_goes_far" s_l_goes_far ["_law_box_here"] := ⟨_, _, F_l_goes_far, PySem.W.mg_of X G a_l_goes_far, F_l_goes_far.binds fun _ _ _ _ _ _ us hl => match us, hl with | [_], _ => rfl⟩
  have F_law := fun_mk (st := s_law) l_law c_law k_law
  have D_law : Df K mg "law" s_law ["_law_script"] := ⟨_, _, F_law, PySem.W.mg_of X G a_law, F_law.binds fun _ _ _ _ _ _ us hl => match us, hl with | [_], _ => rfl⟩
  have F_ratio : FunD K "ratio" "ratio" (defArgs s_ratio) (defBody s_ratio) (defScope s_ratio) [.int 1] [] f_ratio _ := ⟨⟨_, _, _, _, _, _, _, _, _, _, rfl, l_ratio, c_ratio, .inr ⟨List.cons_ne_nil _ _, T_ratio, _, [.int 1 tt_ratio], _, rfl, t_ratio, rfl, .cons ⟨_, rfl⟩ .nil⟩, .inl rfl⟩, k_ratio⟩
  have D_ratio : Df1 K mg "ratio" s_ratio ["top", "bottom"] := by
    obtain ⟨ds0, v0, b0⟩ := F_ratio.binds1 (ps := ["top", "bottom"]) 2 1 (List.cons_ne_nil _ _) rfl fun _ _ _ _ _ _ _ us its hl hi => match us, its, hl, hi with | [_, _], [_], _, _ => ⟨_, rfl, rfl⟩
    obtain ⟨ds1, v1, b1⟩ := F_ratio.binds1 (ps := ["top", "bottom"]) 1 0 (List.cons_ne_nil _ _) rfl fun _ _ _ _ _ _ _ us its hl hi => match us, its, hl, hi with | [_], [_], _, _ => ⟨_, rfl, rfl⟩
    cases v0
    exact ⟨_, _, F_ratio, PySem.W.mg_of X G a_ratio, b0, ds1, v1, b1⟩
  have ec_ZeroBottom : ExcC K C_ZeroBottom := ⟨ga_ZeroBottom, gg_ZeroBottom, sb_ZeroBottom, hd_ZeroBottom, ha_ZeroBottom, special, takes, hm_ZeroBottom⟩
  have Z_ZeroBottom : ErrZ K mg "ZeroBottom" C_ZeroBottom := ⟨PySem.W.mg_of X G aC_ZeroBottom, xp_ZeroBottom, kp_ZeroBottom, sb_ZeroBottom, ty_ZeroBottom, ec_ZeroBottom, ex_ZeroBottom⟩
  have ec_InvalidNumber : ExcC K C_InvalidNumber := ⟨ga_InvalidNumber, gg_InvalidNumber, sb_InvalidNumber, hd_InvalidNumber, ha_InvalidNumber, special, takes, hm_InvalidNumber⟩
  have ox_InvalidNumber : OexC K C_InvalidNumber := ⟨⟨nm_InvalidNumber, q_InvalidNumber, N_InvalidNumber, bs_InvalidNumber, _, sn_InvalidNumber, sub_InvalidNumber, ab_InvalidNumber, col_InvalidNumber, dd_InvalidNumber, m0_InvalidNumber, m1_InvalidNumber, m2_InvalidNumber, m3_InvalidNumber, m5_InvalidNumber, x_InvalidNumber, by show PySem.HandSPX.refsVE _ = true; rfl⟩, sa_InvalidNumber, sb_InvalidNumber, ty_InvalidNumber, kp_InvalidNumber⟩
  have Fi_InvalidNumber := fun_mk (st := s_InvalidNumber_init) l_InvalidNumber_init c_InvalidNumber_init k_InvalidNumber_init
  have ec_InvalidText : ExcC K C_InvalidText := ⟨ga_InvalidText, gg_InvalidText, sb_InvalidText, hd_InvalidText, ha_InvalidText, special, takes, hm_InvalidText⟩
  have ox_InvalidText : OexC K C_InvalidText := ⟨⟨nm_InvalidText, q_InvalidText, N_InvalidText, bs_InvalidText, _, sn_InvalidText, sub_InvalidText, ab_InvalidText, col_InvalidText, dd_InvalidText, m0_InvalidText, m1_InvalidText, m2_InvalidText, m3_InvalidText, m5_InvalidText, x_InvalidText, by show PySem.HandSPX.refsVE _ = true; rfl⟩, sa_InvalidText, sb_InvalidText, ty_InvalidText, kp_InvalidText⟩
  have Fi_InvalidText := fun_mk (st := s_InvalidText_init) l_InvalidText_init c_InvalidText_init k_InvalidText_init
  refine ⟨PySem.W.fnOf "law" "law" (defArgs s_law) (defBody s_law) (defScope s_law) .none kV_law dc_law pm_law an_law cd_law ct_law, fun s v => .of_eq rfl, fun base _ _ => ?_⟩
  have K_mixed := ok_mixed (P := l.prog) (w := w) (base := base) D_l_mixed
  have K_shared := ok_shared (P := l.prog) (w := w) (base := base) T D_l_shared
  have K_take := ok_take T K_mixed D_l_take
  have K_box := ok_box (P := l.prog) (w := w) (base := base) D_l_box
  have K_lratio := ok_lratio K_shared D_l_ratio
  have K_num := ok_number K_take K_lratio D_l_number
  have K_given := ok_given K_take D_l_given
  have K_whole := ok_is_whole (P := l.prog) (w := w) (base := base) T D_is_whole
  have K_isr := ok_is_ratio T Tg K_whole D_is_ratio
  have E_inv : ErrF l.prog w K mg base "InvalidNumber" "value" C_InvalidNumber := ⟨PySem.W.mg_of X G aC_InvalidNumber, ox_InvalidNumber, ⟨ga_InvalidNumber, gg_InvalidNumber, sb_InvalidNumber, hd_InvalidNumber⟩, no_InvalidNumber, ec_InvalidNumber, ex_InvalidNumber,
    ⟨_, _, i_InvalidNumber, ti_InvalidNumber, ok_errinit Fi_InvalidNumber ox_InvalidNumber no_InvalidNumber, Fi_InvalidNumber.binds fun _ _ _ _ _ _ us hl => match us, hl with | [_, _], _ => rfl⟩⟩
  have E_txt : ErrF l.prog w K mg base "InvalidText" "text" C_InvalidText := ⟨PySem.W.mg_of X G aC_InvalidText, ox_InvalidText, ⟨ga_InvalidText, gg_InvalidText, sb_InvalidText, hd_InvalidText⟩, no_InvalidText, ec_InvalidText, ex_InvalidText,
    ⟨_, _, i_InvalidText, ti_InvalidText, ok_errinitT Fi_InvalidText ox_InvalidText no_InvalidText, Fi_InvalidText.binds fun _ _ _ _ _ _ us hl => match us, hl with | [_, _], _ => rfl⟩⟩
  have K_as := ok_as_ratio T E_inv K_whole K_isr D_as_ratio
  have K_ratio := ok_ratio (P := l.prog) (w := w) (base := base) T Tg Z_ZeroBottom D_ratio
  have K_mulr := ok_multiply_ratiosW K_ratio D_multiply_ratios
  have K_mul := ok_multiplyW K_as K_mulr D_multiply
  have K_div := ok_divideW K_as K_ratio D_divide
  have K_int := ok_integer_text (P := l.prog) (w := w) (base := base) T Tt D_integer_text
  have K_are := ok_are_digits (P := l.prog) (w := w) (base := base) D_are_digits
  have K_read := ok_read_digits (P := l.prog) (w := w) (base := base) T Tt D_read_digits
  have K_text := ok_ratio_text K_as K_int D_ratio_text
  have K_rr := ok_read_ratio T E_txt K_are K_read K_ratio D_read_ratio
  have K_digits := ok_digits T K_take D_l_digits
  have K_written := ok_written T K_take K_digits D_l_written
  have K_bent := ok_bent T K_take D_l_bent
  have K_worth := ok_worth (P := l.prog) (w := w) (base := base) D_l_worth_of
  have K_meant := ok_meant T K_worth K_lratio D_l_meant
  have K_lread := ok_read T E_txt (PySem.W.mg_of X G aC_SheetError) kS_InvalidText K_rr D_l_read
  have K_fig := ok_figures (P := l.prog) (w := w) (base := base) T Tt D_l_figures
  have K_goes := ok_goes T K_take K_mul K_div K_fig K_text K_rr D_l_goes_far
  exact ok_law T Tt K_box K_num K_given K_text K_rr K_written K_take K_bent K_meant K_lread K_goes F_law

end Bs
open PySem PySem.W PyProof.Rows
set_option maxRecDepth 100000 in
set_option maxHeartbeats 0 in
theorem PySem.Challenge.cw_backsheet_k03_ratios_as_text_holds : PySem.Challenge.rw_backsheet_k03_ratios_as_text.Holds := by
  w_on; o_law; k_head; (case hw => w_witness2)
  k_fill
  refine Bs.walk (l := PySem.Challenge.rw_backsheet_k03_ratios_as_text) rfl rfl (fun w h Y => PySem.W.kIn_of Y) ?F
  case F =>
    intro w mg fa h KX G hmg
    refine' Bs.all_mk KX G hmg ?a_is_whole ?l_is_whole ?c_is_whole ?k_is_whole ?a_is_ratio ?l_is_ratio ?c_is_ratio ?k_is_ratio ?a_as_ratio ?l_as_ratio ?c_as_ratio ?k_as_ratio ?a_multiply ?l_multiply ?c_multiply ?k_multiply ?a_multiply_ratios ?l_multiply_ratios ?c_multiply_ratios ?k_multiply_ratios ?a_divide ?l_divide ?c_divide ?k_divide ?a_ratio_text ?l_ratio_text ?c_ratio_text ?k_ratio_text ?a_integer_text ?l_integer_text ?c_integer_text ?k_integer_text ?a_read_ratio ?l_read_ratio ?c_read_ratio ?k_read_ratio ?a_are_digits ?l_are_digits ?c_are_digits ?k_are_digits ?a_read_digits ?l_read_digits ?c_read_digits ?k_read_digits ?a_l_box ?l_l_box ?c_l_box ?k_l_box ?a_l_mixed ?l_l_mixed ?c_l_mixed ?k_l_mixed ?a_l_take ?l_l_take ?c_l_take ?k_l_take ?a_l_shared ?l_l_shared ?c_l_shared ?k_l_shared ?a_l_ratio ?l_l_ratio ?c_l_ratio ?k_l_ratio ?a_l_number ?l_l_number ?c_l_number ?k_l_number ?a_l_given ?l_l_given ?c_l_given ?k_l_given ?a_l_digits ?l_l_digits ?c_l_digits ?k_l_digits ?a_l_written ?l_l_written ?c_l_written ?k_l_written ?a_l_bent ?l_l_bent ?c_l_bent ?k_l_bent ?a_l_worth_of ?l_l_worth_of ?c_l_worth_of ?k_l_worth_of ?a_l_meant ?l_l_meant ?c_l_meant ?k_l_meant ?a_l_read ?l_l_read ?c_l_read ?k_l_read ?a_l_figures ?l_l_figures ?c_l_figures ?k_l_figures ?a_l_goes_far ?l_l_goes_far ?c_l_goes_far ?k_l_goes_far ?a_law ?l_law ?c_law ?k_law ?a_ratio ?l_ratio ?c_ratio ?k_ratio ?t_ratio ?aC_SheetError ?aC_ZeroBottom ?aC_InvalidNumber ?aC_InvalidText ?special ?takes ?kS_ZeroBottom ?ga_ZeroBottom ?gg_ZeroBottom ?sb_ZeroBottom ?hd_ZeroBottom ?ha_ZeroBottom ?hm_ZeroBottom ?ty_ZeroBottom ?kp_ZeroBottom ?ex_ZeroBottom ?xp_ZeroBottom ?kS_InvalidNumber ?ga_InvalidNumber ?gg_InvalidNumber ?sb_InvalidNumber ?hd_InvalidNumber ?ha_InvalidNumber ?hm_InvalidNumber ?ty_InvalidNumber ?kp_InvalidNumber ?ex_InvalidNumber ?x_InvalidNumber ?sa_InvalidNumber ?no_InvalidNumber ?i_InvalidNumber ?ti_InvalidNumber ?l_InvalidNumber_init ?c_InvalidNumber_init ?k_InvalidNumber_init ?kS_InvalidText ?ga_InvalidText ?gg_InvalidText ?sb_InvalidText ?hd_InvalidText ?ha_InvalidText ?hm_InvalidText ?ty_InvalidText ?kp_InvalidText ?ex_InvalidText ?x_InvalidText ?sa_InvalidText ?no_InvalidText ?i_InvalidText ?ti_InvalidText ?l_InvalidText_init ?c_InvalidText_init ?k_InvalidText_init ?v_GROUP_UNIT ?v_GROUP_DIGITS ?n_len ?n_max ?n_abs ?n_any ?n_all ?n_isinstance ?n_range ?n_zip ?n_int ?n_bool ?n_tuple ?n_list ?n_divmod ?n_str ?g_gcd
    (case a_is_whole => k_is)
    (case l_is_whole => k_is)
    (case c_is_whole => k_is)
    (case k_is_whole => k_is)
    (case a_is_ratio => k_is)
    (case l_is_ratio => k_is)
    (case c_is_ratio => k_is)
    (case k_is_ratio => k_is)
    (case a_as_ratio => k_is)
    (case l_as_ratio => k_is)
    (case c_as_ratio => k_is)
    (case k_as_ratio => k_is)
    (case a_multiply => k_is)
    (case l_multiply => k_is)
    (case c_multiply => k_is)
    (case k_multiply => k_is)
    (case a_multiply_ratios => k_is)
    (case l_multiply_ratios => k_is)
    (case c_multiply_ratios => k_is)
    (case k_multiply_ratios => k_is)
    (case a_divide => k_is)
    (case l_divide => k_is)
    (case c_divide => k_is)
    (case k_divide => k_is)
    (case a_ratio_text => k_is)
    (case l_ratio_text => k_is)
    (case c_ratio_text => k_is)
    (case k_ratio_text => k_is)
    (case a_integer_text => k_is)
    (case l_integer_text => k_is)
    (case c_integer_text => k_is)
    (case k_integer_text => k_is)
    (case a_read_ratio => k_is)
    (case l_read_ratio => k_is)
    (case c_read_ratio => k_is)
    (case k_read_ratio => k_is)
    (case a_are_digits => k_is)
    (case l_are_digits => k_is)
    (case c_are_digits => k_is)
    (case k_are_digits => k_is)
    (case a_read_digits => k_is)
    (case l_read_digits => k_is)
    (case c_read_digits => k_is)
    (case k_read_digits => k_is)
    (case a_l_box => k_is)
    (case l_l_box => k_is)
    (case c_l_box => k_is)
    (case k_l_box => k_is)
    (case a_l_mixed => k_is)
    (case l_l_mixed => k_is)
    (case c_l_mixed => k_is)
    (case k_l_mixed => k_is)
    (case a_l_take => k_is)
    (case l_l_take => k_is)
    (case c_l_take => k_is)
    (case k_l_take => k_is)
    (case a_l_shared => k_is)
    (case l_l_shared => k_is)
    (case c_l_shared => k_is)
    (case k_l_shared => k_is)
    (case a_l_ratio => k_is)
    (case l_l_ratio => k_is)
    (case c_l_ratio => k_is)
    (case k_l_ratio => k_is)
    (case a_l_number => k_is)
    (case l_l_number => k_is)
    (case c_l_number => k_is)
    (case k_l_number => k_is)
    (case a_l_given => k_is)
    (case l_l_given => k_is)
    (case c_l_given => k_is)
    (case k_l_given => k_is)
    (case a_l_digits => k_is)
    (case l_l_digits => k_is)
    (case c_l_digits => k_is)
    (case k_l_digits => k_is)
    (case a_l_written => k_is)
    (case l_l_written => k_is)
    (case c_l_written => k_is)
    (case k_l_written => k_is)
    (case a_l_bent => k_is)
    (case l_l_bent => k_is)
    (case c_l_bent => k_is)
    (case k_l_bent => k_is)
    (case a_l_worth_of => k_is)
    (case l_l_worth_of => k_is)
    (case c_l_worth_of => k_is)
    (case k_l_worth_of => k_is)
    (case a_l_meant => k_is)
    (case l_l_meant => k_is)
    (case c_l_meant => k_is)
    (case k_l_meant => k_is)
    (case a_l_read => k_is)
    (case l_l_read => k_is)
    (case c_l_read => k_is)
    (case k_l_read => k_is)
    (case a_l_figures => k_is)
    (case l_l_figures => k_is)
    (case c_l_figures => k_is)
    (case k_l_figures => k_is)
    (case a_l_goes_far => k_is)
    (case l_l_goes_far => k_is)
    (case c_l_goes_far => k_is)
    (case k_l_goes_far => k_is)
    (case a_law => k_is)
    (case l_law => k_is)
    (case c_law => k_is)
    (case k_law => k_is)
    (case a_ratio => k_is)
    (case l_ratio => k_is)
    (case c_ratio => k_is)
    (case k_ratio => k_is)
    (case t_ratio => k_is)
    (case aC_SheetError => k_is)
    (case aC_ZeroBottom => k_is)
    (case aC_InvalidNumber => k_is)
    (case aC_InvalidText => k_is)
    (case special => first | rfl | k_is)
    (case takes => first | rfl | k_is)
    (case kS_ZeroBottom => first | rfl | k_is)
    (case ga_ZeroBottom => k_is)
    (case gg_ZeroBottom => k_is)
    (case sb_ZeroBottom => k_is)
    (case hd_ZeroBottom => k_is)
    (case ha_ZeroBottom => k_is)
    (case hm_ZeroBottom => k_is)
    (case ty_ZeroBottom => k_is)
    (case kp_ZeroBottom => k_is)
    (case ex_ZeroBottom => first | rfl | k_is)
    (case xp_ZeroBottom => k_exc)
    (case kS_InvalidNumber => first | rfl | k_is)
    (case ga_InvalidNumber => k_is)
    (case gg_InvalidNumber => k_is)
    (case sb_InvalidNumber => k_is)
    (case hd_InvalidNumber => k_is)
    (case ha_InvalidNumber => k_is)
    (case hm_InvalidNumber => k_is)
    (case ty_InvalidNumber => k_is)
    (case kp_InvalidNumber => k_is)
    (case ex_InvalidNumber => first | rfl | k_is)
    (case x_InvalidNumber => k_is)
    (case sa_InvalidNumber => k_is)
    (case no_InvalidNumber => k_is)
    (case i_InvalidNumber => k_is)
    (case ti_InvalidNumber => k_is)
    (case l_InvalidNumber_init => k_is)
    (case c_InvalidNumber_init => k_is)
    (case k_InvalidNumber_init => k_is)
    (case kS_InvalidText => first | rfl | k_is)
    (case ga_InvalidText => k_is)
    (case gg_InvalidText => k_is)
    (case sb_InvalidText => k_is)
    (case hd_InvalidText => k_is)
    (case ha_InvalidText => k_is)
    (case hm_InvalidText => k_is)
    (case ty_InvalidText => k_is)
    (case kp_InvalidText => k_is)
    (case ex_InvalidText => first | rfl | k_is)
    (case x_InvalidText => k_is)
    (case sa_InvalidText => k_is)
    (case no_InvalidText => k_is)
    (case i_InvalidText => k_is)
    (case ti_InvalidText => k_is)
    (case l_InvalidText_init => k_is)
    (case c_InvalidText_init => k_is)
    (case k_InvalidText_init => k_is)
    (case v_GROUP_UNIT => k_is)
    (case v_GROUP_DIGITS => k_is)
    (case n_len => k_is)
    (case n_max => k_is)
    (case n_abs => k_is)
    (case n_any => k_is)
    (case n_all => k_is)
    (case n_isinstance => k_is)
    (case n_range => k_is)
    (case n_zip => k_is)
    (case n_int => k_is)
    (case n_bool => k_is)
    (case n_tuple => k_is)
    (case n_list => k_is)
    (case n_divmod => k_is)
    (case n_str => k_is)
    (case g_gcd => k_is)
