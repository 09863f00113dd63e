import PyProof.Rows.All
import KE.KDictPairs
import HandS.Head0
import HandS.Head1
import HandS.Head2
import HandS.Head3
import HandS.HeadEnd
import HandS.HeadHook1
import HandS.HeadHook2
import HandS.HeadHook3
import HandS.Text
import Wide.All
import OpenK.AllK
import Wide.FinOn
import HandS.ForMost
import HandS.Exc
import HandS.TryOnly
import HandS.ExcOwn
import HandS.WordsExc
import HandS.Wide
import HandS.Gcd
import HandS.IsInst
import HandS.EndBits
import HandS.Codes
import HandS.Flow
import HandS.TupAny
import HandS.Defaults
import HandS.Small
import HandS.NoneIn
import HandS.StrMore
import HandS.Style
import HandS.WideBits
import HandS.Replace
import HandS.Zip
import HandS.Walk
import HandS.ExcInit
import HandS.ExcField
import HandS.ExcIs
import HandS.SetTxt0
import HandS.Set
import HandS.SetFor
import HandS.More
import HandS.Strs
import KE.GoesMore
import HandS.DictComp
import PySem.Challenge.RW_backsheet_k16_circles
set_option Elab.async false
set_option linter.all false
set_option maxRecDepth 100000
set_option exponentiation.threshold 20000
namespace Bs
open PySem
def top (i : Nat) : Stmt := PySem.Challenge.pw_backsheet_k16_circles.main.body.getD i (.Pass ⟨0, 0, 0, 0⟩)
open L2
abbrev s_wall : Stmt := top 1
theorem sc_wall : FnScope ["k"] ["k"] (defScope s_wall) := ⟨rfl, rfl, rfl, by decide +kernel, rfl, by decide +kernel, by decide +kernel⟩
abbrev s_InvalidNumber_init : Stmt := inClass (top 5) 0
theorem sc_InvalidNumber_init : FnScope ["self", "value"] ["self", "value"] (defScope s_InvalidNumber_init) := ⟨rfl, rfl, rfl, by decide +kernel, rfl, by decide +kernel, by decide +kernel⟩
abbrev s_InvalidText_init : Stmt := inClass (top 6) 0
theorem sc_InvalidText_init : FnScope ["self", "text"] ["self", "text"] (defScope s_InvalidText_init) := ⟨rfl, rfl, rfl, by decide +kernel, rfl, by decide +kernel, by decide +kernel⟩
abbrev s_FormulaSyntax_init : Stmt := inClass (top 7) 0
theorem sc_FormulaSyntax_init : FnScope ["self", "position"] ["self", "position"] (defScope s_FormulaSyntax_init) := ⟨rfl, rfl, rfl, by decide +kernel, rfl, by decide +kernel, by decide +kernel⟩
abbrev s_NotLinear_init : Stmt := inClass (top 8) 0
theorem sc_NotLinear_init : FnScope ["self", "position"] ["self", "position"] (defScope s_NotLinear_init) := ⟨rfl, rfl, rfl, by decide +kernel, rfl, by decide +kernel, by decide +kernel⟩
abbrev s_ZeroDivisor_init : Stmt := inClass (top 9) 0
theorem sc_ZeroDivisor_init : FnScope ["self", "position"] ["self", "position"] (defScope s_ZeroDivisor_init) := ⟨rfl, rfl, rfl, by decide +kernel, rfl, by decide +kernel, by decide +kernel⟩
abbrev s_InvalidRow_init : Stmt := inClass (top 10) 0
theorem sc_InvalidRow_init : FnScope ["self", "index"] ["self", "index"] (defScope s_InvalidRow_init) := ⟨rfl, rfl, rfl, by decide +kernel, rfl, by decide +kernel, by decide +kernel⟩
abbrev s_InvalidName_init : Stmt := inClass (top 11) 0
theorem sc_InvalidName_init : FnScope ["self", "name"] ["self", "name"] (defScope s_InvalidName_init) := ⟨rfl, rfl, rfl, by decide +kernel, rfl, by decide +kernel, by decide +kernel⟩
abbrev s_DuplicateCell_init : Stmt := inClass (top 12) 0
theorem sc_DuplicateCell_init : FnScope ["self", "name"] ["self", "name"] (defScope s_DuplicateCell_init) := ⟨rfl, rfl, rfl, by decide +kernel, rfl, by decide +kernel, by decide +kernel⟩
abbrev s_BadFormula_init : Stmt := inClass (top 13) 0
theorem sc_BadFormula_init : FnScope ["self", "name", "word", "position"] ["self", "name", "word", "position"] (defScope s_BadFormula_init) := ⟨rfl, rfl, rfl, by decide +kernel, rfl, by decide +kernel, by decide +kernel⟩
abbrev s_UnknownCell_init : Stmt := inClass (top 14) 0
theorem sc_UnknownCell_init : FnScope ["self", "name"] ["self", "name"] (defScope s_UnknownCell_init) := ⟨rfl, rfl, rfl, by decide +kernel, rfl, by decide +kernel, by decide +kernel⟩
abbrev s_CircularCell_init : Stmt := inClass (top 15) 0
theorem sc_CircularCell_init : FnScope ["self", "name"] ["self", "name"] (defScope s_CircularCell_init) := ⟨rfl, rfl, rfl, by decide +kernel, rfl, by decide +kernel, by decide +kernel⟩
abbrev s_is_whole : Stmt := top 21
theorem sc_is_whole : FnScope ["value"] ["value"] (defScope s_is_whole) := ⟨rfl, rfl, rfl, by decide +kernel, rfl, by decide +kernel, by decide +kernel⟩
abbrev s_is_ratio : Stmt := top 22
theorem sc_is_ratio : FnScope ["value", "top", "bottom"] ["value"] (defScope s_is_ratio) := ⟨rfl, rfl, rfl, by decide +kernel, rfl, by decide +kernel, by decide +kernel⟩
abbrev s_is_number : Stmt := top 23
theorem sc_is_number : FnScope ["value"] ["value"] (defScope s_is_number) := ⟨rfl, rfl, rfl, by decide +kernel, rfl, by decide +kernel, by decide +kernel⟩
abbrev s_as_ratio : Stmt := top 24
theorem sc_as_ratio : FnScope ["value"] ["value"] (defScope s_as_ratio) := ⟨rfl, rfl, rfl, by decide +kernel, rfl, by decide +kernel, by decide +kernel⟩
abbrev s_ratio : Stmt := top 25
theorem sc_ratio : FnScope ["top", "bottom", "common"] ["top", "bottom"] (defScope s_ratio) := ⟨rfl, rfl, rfl, by decide +kernel, rfl, by decide +kernel, by decide +kernel⟩
abbrev s_add_ratios : Stmt := top 26
theorem sc_add_ratios : FnScope ["one", "other", "one_top", "one_bottom", "other_top", "other_bottom"] ["one", "other"] (defScope s_add_ratios) := ⟨rfl, rfl, rfl, by decide +kernel, rfl, by decide +kernel, by decide +kernel⟩
abbrev s_multiply_ratios : Stmt := top 27
theorem sc_multiply_ratios : FnScope ["one", "other", "one_top", "one_bottom", "other_top", "other_bottom"] ["one", "other"] (defScope s_multiply_ratios) := ⟨rfl, rfl, rfl, by decide +kernel, rfl, by decide +kernel, by decide +kernel⟩
abbrev s_divide : Stmt := top 28
theorem sc_divide : FnScope ["one", "other", "one_top", "one_bottom", "other_top", "other_bottom"] ["one", "other"] (defScope s_divide) := ⟨rfl, rfl, rfl, by decide +kernel, rfl, by decide +kernel, by decide +kernel⟩
abbrev s_read_ratio : Stmt := top 29
theorem sc_read_ratio : FnScope ["text", "unsigned", "mark", "ahead", "found", "behind", "top", "bottom"] ["text"] (defScope s_read_ratio) := ⟨rfl, rfl, rfl, by decide +kernel, rfl, by decide +kernel, by decide +kernel⟩
abbrev s_are_digits : Stmt := top 30
theorem sc_are_digits : FnScope ["text"] ["text"] (defScope s_are_digits) := ⟨rfl, rfl, rfl, by decide +kernel, rfl, by decide +kernel, by decide +kernel⟩
abbrev s_read_digits : Stmt := top 31
theorem sc_read_digits : FnScope ["digits", "first", "number", "at"] ["digits"] (defScope s_read_digits) := ⟨rfl, rfl, rfl, by decide +kernel, rfl, by decide +kernel, by decide +kernel⟩
abbrev s_is_name : Stmt := top 35
theorem sc_is_name : FnScope ["value"] ["value"] (defScope s_is_name) := ⟨rfl, rfl, rfl, by decide +kernel, rfl, by decide +kernel, by decide +kernel⟩
abbrev s_constant_form : Stmt := top 36
theorem sc_constant_form : FnScope ["number"] ["number"] (defScope s_constant_form) := ⟨rfl, rfl, rfl, by decide +kernel, rfl, by decide +kernel, by decide +kernel⟩
abbrev s_cell_form : Stmt := top 37
theorem sc_cell_form : FnScope ["name"] ["name"] (defScope s_cell_form) := ⟨rfl, rfl, rfl, by decide +kernel, rfl, by decide +kernel, by decide +kernel⟩
abbrev s_names_in : Stmt := top 38
theorem sc_names_in : FnScope ["form", "name", "_"] ["form"] (defScope s_names_in) := ⟨rfl, rfl, rfl, by decide +kernel, rfl, by decide +kernel, by decide +kernel⟩
abbrev s_add_forms : Stmt := top 39
theorem sc_add_forms : FnScope ["one", "other", "one_terms", "one_constant", "other_terms", "other_constant", "factors", "name", "factor", "terms"] ["one", "other"] (defScope s_add_forms) := ⟨rfl, rfl, rfl, by decide +kernel, rfl, by decide +kernel, by decide +kernel⟩
abbrev s_subtract_forms : Stmt := top 40
theorem sc_subtract_forms : FnScope ["one", "other"] ["one", "other"] (defScope s_subtract_forms) := ⟨rfl, rfl, rfl, by decide +kernel, rfl, by decide +kernel, by decide +kernel⟩
abbrev s_scale_form : Stmt := top 41
theorem sc_scale_form : FnScope ["number", "form", "scale", "terms", "constant", "scaled", "name", "factor"] ["number", "form"] (defScope s_scale_form) := ⟨rfl, rfl, rfl, by decide +kernel, rfl, by decide +kernel, by decide +kernel⟩
abbrev s_value_at : Stmt := top 42
theorem sc_value_at : FnScope ["form", "values", "numbers", "terms", "total", "name", "factor"] ["form", "values"] (defScope s_value_at) := ⟨rfl, rfl, rfl, by decide +kernel, rfl, by decide +kernel, by decide +kernel⟩
abbrev s_parse_formula : Stmt := top 53
theorem sc_parse_formula : FnScope ["text", "order", "word", "position"] ["text"] (defScope s_parse_formula) := ⟨rfl, rfl, rfl, by decide +kernel, rfl, by decide +kernel, by decide +kernel⟩
abbrev s_tokens_of : Stmt := top 54
theorem sc_tokens_of : FnScope ["text", "tokens", "at", "end"] ["text"] (defScope s_tokens_of) := ⟨rfl, rfl, rfl, by decide +kernel, rfl, by decide +kernel, by decide +kernel⟩
abbrev s_token_end : Stmt := top 55
theorem sc_token_end : FnScope ["text", "at", "end"] ["text", "at"] (defScope s_token_end) := ⟨rfl, rfl, rfl, by decide +kernel, rfl, by decide +kernel, by decide +kernel⟩
abbrev s_number_end : Stmt := top 56
theorem sc_number_end : FnScope ["text", "at", "point", "end"] ["text", "at"] (defScope s_number_end) := ⟨rfl, rfl, rfl, by decide +kernel, rfl, by decide +kernel, by decide +kernel⟩
abbrev s_run_end : Stmt := top 57
theorem sc_run_end : FnScope ["text", "at", "characters"] ["text", "at", "characters"] (defScope s_run_end) := ⟨rfl, rfl, rfl, by decide +kernel, rfl, by decide +kernel, by decide +kernel⟩
abbrev s_StepOrder_init : Stmt := inClass (top 58) 0
theorem sc_StepOrder_init : FnScope ["self"] ["self"] (defScope s_StepOrder_init) := ⟨rfl, rfl, rfl, by decide +kernel, rfl, by decide +kernel, by decide +kernel⟩
abbrev s_StepOrder_take : Stmt := inClass (top 58) 1
theorem sc_StepOrder_take : FnScope ["self", "word", "position"] ["self", "word", "position"] (defScope s_StepOrder_take) := ⟨rfl, rfl, rfl, by decide +kernel, rfl, by decide +kernel, by decide +kernel⟩
abbrev s_StepOrder_take_factor : Stmt := inClass (top 58) 2
theorem sc_StepOrder_take_factor : FnScope ["self", "word", "position"] ["self", "word", "position"] (defScope s_StepOrder_take_factor) := ⟨rfl, rfl, rfl, by decide +kernel, rfl, by decide +kernel, by decide +kernel⟩
abbrev s_StepOrder_take_list : Stmt := inClass (top 58) 3
theorem sc_StepOrder_take_list : FnScope ["self", "word", "position"] ["self", "word", "position"] (defScope s_StepOrder_take_list) := ⟨rfl, rfl, rfl, by decide +kernel, rfl, by decide +kernel, by decide +kernel⟩
abbrev s_StepOrder_take_end : Stmt := inClass (top 58) 4
theorem sc_StepOrder_take_end : FnScope ["self", "word", "position", "opened", "begin", "parts"] ["self", "word", "position"] (defScope s_StepOrder_take_end) := ⟨rfl, rfl, rfl, by decide +kernel, rfl, by decide +kernel, by decide +kernel⟩
abbrev s_StepOrder_release : Stmt := inClass (top 58) 5
theorem sc_StepOrder_release : FnScope ["self", "rank"] ["self", "rank"] (defScope s_StepOrder_release) := ⟨rfl, rfl, rfl, by decide +kernel, rfl, by decide +kernel, by decide +kernel⟩
abbrev s_StepOrder_finish : Stmt := inClass (top 58) 6
theorem sc_StepOrder_finish : FnScope ["self", "length"] ["self", "length"] (defScope s_StepOrder_finish) := ⟨rfl, rfl, rfl, by decide +kernel, rfl, by decide +kernel, by decide +kernel⟩
abbrev s_result_of : Stmt := top 59
theorem sc_result_of : FnScope ["steps", "forms", "word", "position", "count", "first", "parts"] ["steps"] (defScope s_result_of) := ⟨rfl, rfl, rfl, by decide +kernel, rfl, by decide +kernel, by decide +kernel⟩
abbrev s_performed : Stmt := top 60
theorem sc_performed : FnScope ["word", "position", "parts"] ["word", "position", "parts"] (defScope s_performed) := ⟨rfl, rfl, rfl, by decide +kernel, rfl, by decide +kernel, by decide +kernel⟩
abbrev s_total_form : Stmt := top 61
theorem sc_total_form : FnScope ["parts", "total", "part"] ["parts"] (defScope s_total_form) := ⟨rfl, rfl, rfl, by decide +kernel, rfl, by decide +kernel, by decide +kernel⟩
abbrev s_product_form : Stmt := top 62
theorem sc_product_form : FnScope ["one", "other", "position", "one_terms", "one_constant", "other_terms", "other_constant"] ["one", "other", "position"] (defScope s_product_form) := ⟨rfl, rfl, rfl, by decide +kernel, rfl, by decide +kernel, by decide +kernel⟩
abbrev s_quotient_form : Stmt := top 63
theorem sc_quotient_form : FnScope ["one", "other", "position", "terms", "constant"] ["one", "other", "position"] (defScope s_quotient_form) := ⟨rfl, rfl, rfl, by decide +kernel, rfl, by decide +kernel, by decide +kernel⟩
abbrev s_Sheet_init : Stmt := inClass (top 65) 0
theorem sc_Sheet_init : FnScope ["self", "rows", "formulas", "numbers", "name", "kind", "content"] ["self", "rows"] (defScope s_Sheet_init) := ⟨rfl, rfl, rfl, by decide +kernel, rfl, by decide +kernel, by decide +kernel⟩
abbrev s_Sheet_len : Stmt := inClass (top 65) 1
theorem sc_Sheet_len : FnScope ["self"] ["self"] (defScope s_Sheet_len) := ⟨rfl, rfl, rfl, by decide +kernel, rfl, by decide +kernel, by decide +kernel⟩
abbrev s_Sheet_eq : Stmt := inClass (top 65) 2
theorem sc_Sheet_eq : FnScope ["self", "other"] ["self", "other"] (defScope s_Sheet_eq) := ⟨rfl, rfl, rfl, by decide +kernel, rfl, by decide +kernel, by decide +kernel⟩
abbrev s_Sheet_rows : Stmt := inClass (top 65) 3
theorem sc_Sheet_rows : FnScope ["self"] ["self"] (defScope s_Sheet_rows) := ⟨rfl, rfl, rfl, by decide +kernel, rfl, by decide +kernel, by decide +kernel⟩
abbrev s_Sheet_cell_names : Stmt := inClass (top 65) 4
theorem sc_Sheet_cell_names : FnScope ["self", "name", "_"] ["self"] (defScope s_Sheet_cell_names) := ⟨rfl, rfl, rfl, by decide +kernel, rfl, by decide +kernel, by decide +kernel⟩
abbrev s_Sheet_input_names : Stmt := inClass (top 65) 5
theorem sc_Sheet_input_names : FnScope ["self"] ["self"] (defScope s_Sheet_input_names) := ⟨rfl, rfl, rfl, by decide +kernel, rfl, by decide +kernel, by decide +kernel⟩
abbrev s_Sheet_computed_names : Stmt := inClass (top 65) 6
theorem sc_Sheet_computed_names : FnScope ["self", "name", "kind", "_"] ["self"] (defScope s_Sheet_computed_names) := ⟨rfl, rfl, rfl, by decide +kernel, rfl, by decide +kernel, by decide +kernel⟩
abbrev s_Sheet_form_of : Stmt := inClass (top 65) 7
theorem sc_Sheet_form_of : FnScope ["self", "name"] ["self", "name"] (defScope s_Sheet_form_of) := ⟨rfl, rfl, rfl, by decide +kernel, rfl, by decide +kernel, by decide +kernel⟩
abbrev s_Sheet_form_by_inputs : Stmt := inClass (top 65) 8
theorem sc_Sheet_form_by_inputs : FnScope ["self", "name"] ["self", "name"] (defScope s_Sheet_form_by_inputs) := ⟨rfl, rfl, rfl, by decide +kernel, rfl, by decide +kernel, by decide +kernel⟩
abbrev s_Sheet_drivers_of : Stmt := inClass (top 65) 9
theorem sc_Sheet_drivers_of : FnScope ["self", "name"] ["self", "name"] (defScope s_Sheet_drivers_of) := ⟨rfl, rfl, rfl, by decide +kernel, rfl, by decide +kernel, by decide +kernel⟩
abbrev s_Sheet_ordered_names : Stmt := inClass (top 65) 10
theorem sc_Sheet_ordered_names : FnScope ["self"] ["self"] (defScope s_Sheet_ordered_names) := ⟨rfl, rfl, rfl, by decide +kernel, rfl, by decide +kernel, by decide +kernel⟩
abbrev s_Sheet_users_of : Stmt := inClass (top 65) 11
theorem sc_Sheet_users_of : FnScope ["self", "name"] ["self", "name"] (defScope s_Sheet_users_of) := ⟨rfl, rfl, rfl, by decide +kernel, rfl, by decide +kernel, by decide +kernel⟩
abbrev s_Sheet_own_table : Stmt := inClass (top 65) 12
theorem sc_Sheet_own_table : FnScope ["self"] ["self"] (defScope s_Sheet_own_table) := ⟨rfl, rfl, rfl, by decide +kernel, rfl, by decide +kernel, by decide +kernel⟩
abbrev s_Sheet_value_of : Stmt := inClass (top 65) 13
theorem sc_Sheet_value_of : FnScope ["self", "name"] ["self", "name"] (defScope s_Sheet_value_of) := ⟨rfl, rfl, rfl, by decide +kernel, rfl, by decide +kernel, by decide +kernel⟩
abbrev s_Sheet_with_input : Stmt := inClass (top 65) 14
theorem sc_Sheet_with_input : FnScope ["self", "name", "number"] ["self", "name", "number"] (defScope s_Sheet_with_input) := ⟨rfl, rfl, rfl, by decide +kernel, rfl, by decide +kernel, by decide +kernel⟩
abbrev s_Sheet_with_table : Stmt := inClass (top 65) 15
theorem sc_Sheet_with_table : FnScope ["self", "table"] ["self", "table"] (defScope s_Sheet_with_table) := ⟨rfl, rfl, rfl, by decide +kernel, rfl, by decide +kernel, by decide +kernel⟩
abbrev s_Sheet_with_row : Stmt := inClass (top 65) 16
theorem sc_Sheet_with_row : FnScope ["self", "row"] ["self", "row"] (defScope s_Sheet_with_row) := ⟨rfl, rfl, rfl, by decide +kernel, rfl, by decide +kernel, by decide +kernel⟩
abbrev s_Sheet_without_cell : Stmt := inClass (top 65) 17
theorem sc_Sheet_without_cell : FnScope ["self", "name"] ["self", "name"] (defScope s_Sheet_without_cell) := ⟨rfl, rfl, rfl, by decide +kernel, rfl, by decide +kernel, by decide +kernel⟩
abbrev s_Sheet_check_name : Stmt := inClass (top 65) 18
theorem sc_Sheet_check_name : FnScope ["self", "name"] ["self", "name"] (defScope s_Sheet_check_name) := ⟨rfl, rfl, rfl, by decide +kernel, rfl, by decide +kernel, by decide +kernel⟩
abbrev s_read_rows : Stmt := top 66
theorem sc_read_rows : FnScope ["rows", "good", "forms", "index", "row", "name", "kind", "content"] ["rows"] (defScope s_read_rows) := ⟨rfl, rfl, rfl, by decide +kernel, rfl, by decide +kernel, by decide +kernel⟩
abbrev s_is_row : Stmt := top 67
theorem sc_is_row : FnScope ["value", "name", "kind", "content"] ["value"] (defScope s_is_row) := ⟨rfl, rfl, rfl, by decide +kernel, rfl, by decide +kernel, by decide +kernel⟩
abbrev s_formula_form : Stmt := top 68
theorem sc_formula_form : FnScope ["name", "text", "fault", "failure", "division"] ["name", "text"] (defScope s_formula_form) := ⟨rfl, rfl, rfl, by decide +kernel, rfl, by decide +kernel, by decide +kernel⟩
abbrev s_check_unknown : Stmt := top 69
theorem sc_check_unknown : FnScope ["forms", "name", "driver"] ["forms"] (defScope s_check_unknown) := ⟨rfl, rfl, rfl, by decide +kernel, rfl, by decide +kernel, by decide +kernel⟩
abbrev s_check_circles : Stmt := top 70
theorem sc_check_circles : FnScope ["formulas", "name"] ["formulas"] (defScope s_check_circles) := ⟨rfl, rfl, rfl, by decide +kernel, rfl, by decide +kernel, by decide +kernel⟩
abbrev s_reached_names : Stmt := top 71
theorem sc_reached_names : FnScope ["formulas", "name", "reached", "waiting", "drivers", "driver"] ["formulas", "name"] (defScope s_reached_names) := ⟨rfl, rfl, rfl, by decide +kernel, rfl, by decide +kernel, by decide +kernel⟩
abbrev s_forms_by_inputs : Stmt := top 72
theorem sc_forms_by_inputs : FnScope ["forms", "formulas", "found", "name", "driver"] ["forms", "formulas"] (defScope s_forms_by_inputs) := ⟨rfl, rfl, rfl, by decide +kernel, rfl, by decide +kernel, by decide +kernel⟩
abbrev s_replaced_form : Stmt := top 73
theorem sc_replaced_form : FnScope ["form", "found", "terms", "constant", "total", "name", "factor"] ["form", "found"] (defScope s_replaced_form) := ⟨rfl, rfl, rfl, by decide +kernel, rfl, by decide +kernel, by decide +kernel⟩
abbrev s_filled_table : Stmt := top 74
theorem sc_filled_table : FnScope ["sheet", "numbers", "name"] ["sheet", "numbers"] (defScope s_filled_table) := ⟨rfl, rfl, rfl, by decide +kernel, rfl, by decide +kernel, by decide +kernel⟩
abbrev s_l_box : Stmt := top 76
theorem sc_l_box : FnScope ["_law_script", "_law_great", "_law_cell"] ["_law_script"] (defScope s_l_box) := ⟨rfl, rfl, rfl, by decide +kernel, rfl, by decide +kernel, by decide +kernel⟩
abbrev s_l_mixed : Stmt := top 77
theorem sc_l_mixed : FnScope ["_law_cell", "_law_k", "_law_whole"] ["_law_cell", "_law_k"] (defScope s_l_mixed) := ⟨rfl, rfl, rfl, by decide +kernel, rfl, by decide +kernel, by decide +kernel⟩
abbrev s_l_take : Stmt := top 78
theorem sc_l_take : FnScope ["_law_box_here", "_law_size", "_law_found", "_law_cell", "_law_reach"] ["_law_box_here", "_law_size"] (defScope s_l_take) := ⟨rfl, rfl, rfl, by decide +kernel, rfl, by decide +kernel, by decide +kernel⟩
abbrev s_l_shuffled : Stmt := top 79
theorem sc_l_shuffled : FnScope ["_law_box_here", "_law_things", "_law_pile", "_law_k"] ["_law_box_here", "_law_things"] (defScope s_l_shuffled) := ⟨rfl, rfl, rfl, by decide +kernel, rfl, by decide +kernel, by decide +kernel⟩
abbrev s_l_names : Stmt := top 80
theorem sc_l_names : FnScope ["_law_box_here", "_law_many", "_law_letters", "_law_found", "_law_k", "_law_size", "_law_name", "_law_j", "_law_one"] ["_law_box_here", "_law_many"] (defScope s_l_names) := ⟨rfl, rfl, rfl, by decide +kernel, rfl, by decide +kernel, by decide +kernel⟩
abbrev s_l_rows_of : Stmt := top 81
theorem sc_l_rows_of : FnScope ["_law_box_here", "_law_names_here", "_law_many", "_law_rows", "_law_at", "_law_name", "_law_after", "_law_text", "_law_one", "_law_other", "_law_gone"] ["_law_box_here", "_law_names_here", "_law_many"] (defScope s_l_rows_of) := ⟨rfl, rfl, rfl, by decide +kernel, rfl, by decide +kernel, by decide +kernel⟩
abbrev s_l_round : Stmt := top 82
theorem sc_l_round : FnScope ["_law_rows", "_law_found", "e"] ["_law_rows"] (defScope s_l_round) := ⟨rfl, rfl, rfl, by decide +kernel, rfl, by decide +kernel, by decide +kernel⟩
abbrev s_law : Stmt := top 83
theorem sc_law : FnScope ["_law_script", "_law_box_here", "_law_turn", "_law_names_here", "_law_many", "_law_rows", "_law_due", "_law_cut", "_law_row"] ["_law_script"] (defScope s_law) := ⟨rfl, rfl, rfl, by decide +kernel, rfl, by decide +kernel, by decide +kernel⟩
/-! ### the head by one run of the kernel: what the run looks at -/
/-- an own exception class that has a dict -/
def oexB (K : PySem.W.Frag) (C : Addr) : Bool := match K.lookup C with
  | some ⟨.type t, _, .cls cd, sl⟩ => decide (t = "type") && ((match cd.mro with
    | .ref c :: bm => decide (c = C) && PySem.HandSPX.refsVE bm
    | _ => false) && (cd.hasDict && (!cd.hasDel && (match sl.toList with
    | [_, _, _, _, some (.builtin b), _] => decide (b = "ValueError.__new__")
    | _ => false))))
  | _ => false
def spcB (K : PySem.W.Frag) : Bool := He.eqO (PySem.W.specialIn K (.builtin "object.__class__") "__get__") (some (some (.builtin "getset_descriptor.__get__"))) && decide (PySem.W.takesIn K (.builtin "object.__class__") = some true)
/-- what every own exception class has -/
def excB (K : PySem.W.Frag) (C S : Addr) : Bool := He.eqO (PySem.W.findIn K (.ref C) "__getattribute__") (some (some (.builtin "BaseException.__getattribute__"))) && (He.eqO (PySem.W.findIn K (.ref C) "__getattr__") (some none) &&
  (decide (PySem.W.subIn K (.ref C) (.type "BaseException") = some true) && (PySem.W.hasDictIn K C && (He.eqO (PySem.W.findIn K (.ref C) "__class__") (some (some (.builtin "object.__class__"))) && (decide (PySem.W.mroIn K C (.type "object") = some true) &&
  (decide (PySem.W.kitOne K (.ref C) (.ref S) = some true) && (decide (PySem.W.exmOne K (.ref C) (.ref C) = some true) && (decide (PySem.W.typeIn K (.ref C) = some (.type "type")) && PySem.W.keepIn K (.ref C)))))))))
/-- an own exception class with a field and an __init__ -/
def errB (K : PySem.W.Frag) (C S I : Addr) (fld : Str) : Bool := excB K C S && (oexB K C && (He.eqO (PySem.W.findIn K (.ref C) "__setattr__") (some (some (.builtin "object.__setattr__"))) && (He.eqO (PySem.W.findIn K (.ref C) fld) (some none) &&
  (He.eqO (PySem.W.findIn K (.ref C) "__init__") (some (some (.ref I))) && decide (PySem.W.typeIn K (.ref I) = some (.type "function"))))))
abbrev AlZ : Type := He.AlT × Bool
def obsZ (fs : List He.Fa) (fn : List He.DefD) (ts : List He.Tab) (xs : List (PySem.W.Frag → Bool)) (K : PySem.W.Frag) : AlZ := (He.obsT fs fn ts K, xs.all fun x => x K)
def obsZG (as : List Addr) (fs : List He.Fa) (fn : List He.DefD) (ts : List He.Tab) (xs : List (PySem.W.Frag → Bool)) (g : Addr → Option Obj) : AlZ := obsZ fs fn ts xs (He.frG g as)
structure SaysZ (fs : List He.Fa) (fn : List He.DefD) (ts : List He.Tab) (xs : List (PySem.W.Frag → Bool)) (w : World) (K : PySem.W.Frag) : Prop where
  t : He.SaysT fs fn ts w K
  x : xs.all (fun x => x K) = true
/-- List.map by another name: the kernel is not to compare the two maps' functions -/
def mapA {α β : Type} (f : α → β) : List α → List β
  | [] => []
  | a :: r => f a :: mapA f r
theorem mapA_eq {α β : Type} (f : α → β) : ∀ l : List α, mapA f l = l.map f
  | [] => rfl
  | a :: r => by
    show f a :: mapA f r = _
    rw [mapA_eq f r]
    rfl
def valZ (fn : List He.DefD) (ts : List He.Tab) (w : World) : AlZ := (((true, mapA He.DefD.val fn), mapA (fun t : He.Tab => some (He.keysIn w.params t.2)) ts), true)
theorem valZ_eq (fn : List He.DefD) (ts : List He.Tab) (w : World) : valZ fn ts w = (He.valT fn ts w, true) := by
  unfold valZ
  rw [mapA_eq, mapA_eq]
  rfl
def hookZ (as : List Addr) (fs : List He.Fa) (fn : List He.DefD) (ts : List He.Tab) (xs : List (PySem.W.Frag → Bool)) : PySem.W.Hook where
  α := AlZ
  obs := fun s => obsZG as fs fn ts xs s.heap.get?
  val := fun w => valZ fn ts w
  says := fun w h => ∃ K : PySem.W.Frag, K.In h ∧ SaysZ fs fn ts xs w K
  of := fun w s e => ⟨_, He.frG_in, ⟨congrArg (fun z : AlZ => z.1) (Eq.trans e (valZ_eq fn ts w)), congrArg (fun z : AlZ => z.2) (Eq.trans e (valZ_eq fn ts w))⟩⟩
  keeps := fun _ _ _ ⟨K, hK, c⟩ k => ⟨K, PySem.W.Frag.In.keeps hK k, c⟩
theorem obsZG_eq {as : List Addr} {fs : List He.Fa} {fn : List He.DefD} {ts : List He.Tab} {xs : List (PySem.W.Frag → Bool)} {g : Addr → Option Obj} {s : Shared} (h : ∀ a, g a = s.heap.get? a) : obsZG as fs fn ts xs g = (hookZ as fs fn ts xs).obs s := by
  have e : g = s.heap.get? := funext h
  rw [e] <;> rfl
/-! ### the run in two looks: each run alone wants less room -/
theorem map_both {α β γ δ : Type} {X : Option α} {A : α → β} {B : α → γ} {C : α → δ} {a : β} {b : γ} {c : δ} (h : X.map (fun x => (A x, B x)) = some (a, b)) (k : X.map C = some c) : X.map (fun x => (A x, B x, C x)) = some (a, b, c) := by
  cases X with
  | none => cases h
  | some x =>
    have h1 : (A x, B x) = (a, b) := Option.some.inj h
    have k1 : C x = c := Option.some.inj k
    have h2 : A x = a := congrArg Prod.fst h1
    have h3 : B x = b := congrArg Prod.snd h1
    show some (A x, B x, C x) = _
    rw [h2, h3, k1]
section
open HandSHeadRun PySem.W PyProof.Rows PySem.Calls
/-- behind the run: the looks at the text's own names -/
def RunL (r : PySem.W.OpenRow) (q : Program) (M : Nat) (loose : List PySem.Str) (w : World) : Prop :=
  (wholeF (fun p => stepQ (denQ tabQ) p w) fenceQ M r.prog).map (fun x => (looksF r.prog x.1.heap x.2.abs, seenQ q loose (importedModules r.prog.main.body) (fun s => xlAt q [] s && recOk r.toRowW.records s) x.2.abs)) = some (true, openGood q loose)
/-- behind the run: what my own look sees -/
def RunO (r : PySem.W.OpenRow) (H : PySem.W.Hook) (ob : PySem.W.SharedT → H.α) (M : Nat) (w : World) : Prop :=
  (wholeF (fun p => stepQ (denQ tabQ) p w) fenceQ M r.prog).map (fun x => ob x.2) = some (H.val w)
theorem run_both {r : PySem.W.OpenRow} {q : Program} {H : PySem.W.Hook} {ob : PySem.W.SharedT → H.α} {M : Nat} {loose : List PySem.Str} {w : World} (h : RunL r q M loose w) (k : RunO r H ob M w) : RunEqI r q H ob M loose w := by
  unfold RunL at h
  unfold RunO at k
  unfold RunEqI
  exact map_both h k
end

abbrev rowZ : PySem.W.OpenRow := PySem.W.OpenLaw.row PySem.Challenge.rw_backsheet_k16_circles
abbrev qView : Program := PySem.W.view rowZ.prog [83]
def nmZ0 : List PySem.Str := ["gcd", "_wall", "SheetError", "ZeroBottom", "InvalidNumber", "InvalidText", "FormulaSyntax", "NotLinear", "ZeroDivisor", "InvalidRow", "InvalidName", "DuplicateCell", "BadFormula", "UnknownCell", "CircularCell", "ZERO", "ONE", "GROUP_DIGITS", "GROUP_UNIT", "is_whole", "is_ratio", "is_number", "as_ratio", "ratio", "add_ratios", "multiply_ratios", "divide", "read_ratio", "are_digits", "read_digits"]
def nmZ1 : List PySem.Str := ["NAME_LETTERS", "FUNCTION_WORDS", "is_name", "constant_form", "cell_form", "names_in", "add_forms", "subtract_forms", "scale_form", "value_at", "DIGITS", "LETTERS", "SIGNS", "OPPOSITE", "RANKS", "LOWEST_RANK", "FACTOR", "LIST", "OPERATOR", "parse_formula", "tokens_of", "token_end", "number_end", "run_end", "StepOrder", "result_of", "performed", "total_form", "product_form", "quotient_form"]
def nmZ2 : List PySem.Str := ["Sheet", "read_rows", "is_row", "formula_form", "check_unknown", "check_circles", "reached_names", "forms_by_inputs", "replaced_form", "filled_table", "_law_box", "_law_mixed", "_law_take", "_law_shuffled", "_law_names", "_law_rows_of", "_law_round"]
def nmZ : List PySem.Str := nmZ0 ++ nmZ1 ++ nmZ2
def fcZ0 : List He.Fa := [.free "len", .free "max", .free "abs", .free "any", .free "all", .free "isinstance", .free "range", .free "zip", .free "int", .free "bool", .free "tuple", .free "list", .free "str", .free "set", .free "sorted", .free "dict", .free "divmod", .free "enumerate", .free "min", .int "GROUP_DIGITS" 64, .int "GROUP_UNIT" 10000000000000000000000000000000000000000000000000000000000000000, .int "NAME_LETTERS" 8, .int "LOWEST_RANK" 1, .str "DIGITS" "0123456789", .str "LETTERS" "abcdefghijklmnopqrstuvwxyz", .str "SIGNS" "+-*/(),", .str "OPPOSITE" "- factor", .str "FACTOR" "a factor", .str "LIST" "the opening parenthesis of a list", .str "OPERATOR" "an operator, a comma, a closing parenthesis or the end"]
def fcZ1 : List He.Fa := [.glo "ZERO", .glo "ONE", .glo "FUNCTION_WORDS", .glo "RANKS", .glo "is_whole", .glo "is_ratio", .glo "is_number", .glo "as_ratio", .glo "add_ratios", .glo "multiply_ratios", .glo "divide", .glo "read_ratio", .glo "are_digits", .glo "read_digits", .glo "is_name", .glo "constant_form", .glo "cell_form", .glo "names_in", .glo "add_forms", .glo "subtract_forms", .glo "scale_form", .glo "value_at", .glo "parse_formula", .glo "tokens_of", .glo "token_end", .glo "number_end", .glo "run_end", .glo "result_of", .glo "performed", .glo "total_form"]
def fcZ2 : List He.Fa := [.glo "product_form", .glo "quotient_form", .glo "read_rows", .glo "is_row", .glo "formula_form", .glo "check_unknown", .glo "check_circles", .glo "reached_names", .glo "forms_by_inputs", .glo "replaced_form", .glo "filled_table", .glo "_law_box", .glo "_law_mixed", .glo "_law_take", .glo "_law_shuffled", .glo "_law_names", .glo "_law_rows_of", .glo "_law_round", .glo "law", .glo "ratio", .glo "SheetError", .glo "ZeroBottom", .exc "ZeroBottom", .glo "InvalidNumber", .glo "InvalidText", .glo "FormulaSyntax", .glo "NotLinear", .glo "ZeroDivisor", .glo "UnknownCell", .glo "CircularCell"]
def fcZ3 : List He.Fa := [.glo "StepOrder", .cls "StepOrder", .noat "StepOrder" "steps", .noat "StepOrder" "waiting", .noat "StepOrder" "expected", .mkr "StepOrder", .glo "Sheet", .cls "Sheet", .noat "Sheet" "_by_inputs", .noat "Sheet" "_table", .noat "Sheet" "_rows", .noat "Sheet" "_forms", .mkr "Sheet", .meth "StepOrder" "take", .meth "StepOrder" "take_factor", .meth "StepOrder" "take_list", .meth "StepOrder" "take_end", .meth "StepOrder" "release", .meth "StepOrder" "finish", .meth "Sheet" "__len__", .meth "Sheet" "cell_names", .meth "Sheet" "computed_names", .meth "Sheet" "form_by_inputs", .meth "Sheet" "check_name"]
def fcZ : List He.Fa := fcZ0 ++ fcZ1 ++ fcZ2 ++ fcZ3
def dd_is_whole : He.DefD := ⟨("is_whole", none), "is_whole", "is_whole", defArgs s_is_whole, defBody s_is_whole, defScope s_is_whole, [], []⟩
def dd_is_ratio : He.DefD := ⟨("is_ratio", none), "is_ratio", "is_ratio", defArgs s_is_ratio, defBody s_is_ratio, defScope s_is_ratio, [], []⟩
def dd_is_number : He.DefD := ⟨("is_number", none), "is_number", "is_number", defArgs s_is_number, defBody s_is_number, defScope s_is_number, [], []⟩
def dd_as_ratio : He.DefD := ⟨("as_ratio", none), "as_ratio", "as_ratio", defArgs s_as_ratio, defBody s_as_ratio, defScope s_as_ratio, [], []⟩
def dd_add_ratios : He.DefD := ⟨("add_ratios", none), "add_ratios", "add_ratios", defArgs s_add_ratios, defBody s_add_ratios, defScope s_add_ratios, [], []⟩
def dd_multiply_ratios : He.DefD := ⟨("multiply_ratios", none), "multiply_ratios", "multiply_ratios", defArgs s_multiply_ratios, defBody s_multiply_ratios, defScope s_multiply_ratios, [], []⟩
def dd_divide : He.DefD := ⟨("divide", none), "divide", "divide", defArgs s_divide, defBody s_divide, defScope s_divide, [], []⟩
def dd_read_ratio : He.DefD := ⟨("read_ratio", none), "read_ratio", "read_ratio", defArgs s_read_ratio, defBody s_read_ratio, defScope s_read_ratio, [], []⟩
def dd_are_digits : He.DefD := ⟨("are_digits", none), "are_digits", "are_digits", defArgs s_are_digits, defBody s_are_digits, defScope s_are_digits, [], []⟩
def dd_read_digits : He.DefD := ⟨("read_digits", none), "read_digits", "read_digits", defArgs s_read_digits, defBody s_read_digits, defScope s_read_digits, [], []⟩
def dd_is_name : He.DefD := ⟨("is_name", none), "is_name", "is_name", defArgs s_is_name, defBody s_is_name, defScope s_is_name, [], []⟩
def dd_constant_form : He.DefD := ⟨("constant_form", none), "constant_form", "constant_form", defArgs s_constant_form, defBody s_constant_form, defScope s_constant_form, [], []⟩
def dd_cell_form : He.DefD := ⟨("cell_form", none), "cell_form", "cell_form", defArgs s_cell_form, defBody s_cell_form, defScope s_cell_form, [], []⟩
def dd_names_in : He.DefD := ⟨("names_in", none), "names_in", "names_in", defArgs s_names_in, defBody s_names_in, defScope s_names_in, [], []⟩
def dd_add_forms : He.DefD := ⟨("add_forms", none), "add_forms", "add_forms", defArgs s_add_forms, defBody s_add_forms, defScope s_add_forms, [], []⟩
def dd_subtract_forms : He.DefD := ⟨("subtract_forms", none), "subtract_forms", "subtract_forms", defArgs s_subtract_forms, defBody s_subtract_forms, defScope s_subtract_forms, [], []⟩
def dd_scale_form : He.DefD := ⟨("scale_form", none), "scale_form", "scale_form", defArgs s_scale_form, defBody s_scale_form, defScope s_scale_form, [], []⟩
def dd_value_at : He.DefD := ⟨("value_at", none), "value_at", "value_at", defArgs s_value_at, defBody s_value_at, defScope s_value_at, [], []⟩
def dd_parse_formula : He.DefD := ⟨("parse_formula", none), "parse_formula", "parse_formula", defArgs s_parse_formula, defBody s_parse_formula, defScope s_parse_formula, [], []⟩
def dd_tokens_of : He.DefD := ⟨("tokens_of", none), "tokens_of", "tokens_of", defArgs s_tokens_of, defBody s_tokens_of, defScope s_tokens_of, [], []⟩
def dd_token_end : He.DefD := ⟨("token_end", none), "token_end", "token_end", defArgs s_token_end, defBody s_token_end, defScope s_token_end, [], []⟩
def dd_number_end : He.DefD := ⟨("number_end", none), "number_end", "number_end", defArgs s_number_end, defBody s_number_end, defScope s_number_end, [], []⟩
def dd_run_end : He.DefD := ⟨("run_end", none), "run_end", "run_end", defArgs s_run_end, defBody s_run_end, defScope s_run_end, [], []⟩
def dd_result_of : He.DefD := ⟨("result_of", none), "result_of", "result_of", defArgs s_result_of, defBody s_result_of, defScope s_result_of, [], []⟩
def dd_performed : He.DefD := ⟨("performed", none), "performed", "performed", defArgs s_performed, defBody s_performed, defScope s_performed, [], []⟩
def dd_total_form : He.DefD := ⟨("total_form", none), "total_form", "total_form", defArgs s_total_form, defBody s_total_form, defScope s_total_form, [], []⟩
def dd_product_form : He.DefD := ⟨("product_form", none), "product_form", "product_form", defArgs s_product_form, defBody s_product_form, defScope s_product_form, [], []⟩
def dd_quotient_form : He.DefD := ⟨("quotient_form", none), "quotient_form", "quotient_form", defArgs s_quotient_form, defBody s_quotient_form, defScope s_quotient_form, [], []⟩
def dd_read_rows : He.DefD := ⟨("read_rows", none), "read_rows", "read_rows", defArgs s_read_rows, defBody s_read_rows, defScope s_read_rows, [], []⟩
def dd_is_row : He.DefD := ⟨("is_row", none), "is_row", "is_row", defArgs s_is_row, defBody s_is_row, defScope s_is_row, [], []⟩
def dd_formula_form : He.DefD := ⟨("formula_form", none), "formula_form", "formula_form", defArgs s_formula_form, defBody s_formula_form, defScope s_formula_form, [], []⟩
def dd_check_unknown : He.DefD := ⟨("check_unknown", none), "check_unknown", "check_unknown", defArgs s_check_unknown, defBody s_check_unknown, defScope s_check_unknown, [], []⟩
def dd_check_circles : He.DefD := ⟨("check_circles", none), "check_circles", "check_circles", defArgs s_check_circles, defBody s_check_circles, defScope s_check_circles, [], []⟩
def dd_reached_names : He.DefD := ⟨("reached_names", none), "reached_names", "reached_names", defArgs s_reached_names, defBody s_reached_names, defScope s_reached_names, [], []⟩
def dd_forms_by_inputs : He.DefD := ⟨("forms_by_inputs", none), "forms_by_inputs", "forms_by_inputs", defArgs s_forms_by_inputs, defBody s_forms_by_inputs, defScope s_forms_by_inputs, [], []⟩
def dd_replaced_form : He.DefD := ⟨("replaced_form", none), "replaced_form", "replaced_form", defArgs s_replaced_form, defBody s_replaced_form, defScope s_replaced_form, [], []⟩
def dd_filled_table : He.DefD := ⟨("filled_table", none), "filled_table", "filled_table", defArgs s_filled_table, defBody s_filled_table, defScope s_filled_table, [], []⟩
def dd_l_box : He.DefD := ⟨("_law_box", none), "_law_box", "_law_box", defArgs s_l_box, defBody s_l_box, defScope s_l_box, [], []⟩
def dd_l_mixed : He.DefD := ⟨("_law_mixed", none), "_law_mixed", "_law_mixed", defArgs s_l_mixed, defBody s_l_mixed, defScope s_l_mixed, [], []⟩
def dd_l_take : He.DefD := ⟨("_law_take", none), "_law_take", "_law_take", defArgs s_l_take, defBody s_l_take, defScope s_l_take, [], []⟩
def dd_l_shuffled : He.DefD := ⟨("_law_shuffled", none), "_law_shuffled", "_law_shuffled", defArgs s_l_shuffled, defBody s_l_shuffled, defScope s_l_shuffled, [], []⟩
def dd_l_names : He.DefD := ⟨("_law_names", none), "_law_names", "_law_names", defArgs s_l_names, defBody s_l_names, defScope s_l_names, [], []⟩
def dd_l_rows_of : He.DefD := ⟨("_law_rows_of", none), "_law_rows_of", "_law_rows_of", defArgs s_l_rows_of, defBody s_l_rows_of, defScope s_l_rows_of, [], []⟩
def dd_l_round : He.DefD := ⟨("_law_round", none), "_law_round", "_law_round", defArgs s_l_round, defBody s_l_round, defScope s_l_round, [], []⟩
def dd_law : He.DefD := ⟨("law", none), "law", "law", defArgs s_law, defBody s_law, defScope s_law, [], []⟩
def dd_ratio : He.DefD := ⟨("ratio", none), "ratio", "ratio", defArgs s_ratio, defBody s_ratio, defScope s_ratio, [.int 1], []⟩
def dd_InvalidNumber_init : He.DefD := ⟨("InvalidNumber", some "__init__"), "__init__", "InvalidNumber.__init__", defArgs s_InvalidNumber_init, defBody s_InvalidNumber_init, defScope s_InvalidNumber_init, [], []⟩
def dd_InvalidText_init : He.DefD := ⟨("InvalidText", some "__init__"), "__init__", "InvalidText.__init__", defArgs s_InvalidText_init, defBody s_InvalidText_init, defScope s_InvalidText_init, [], []⟩
def dd_FormulaSyntax_init : He.DefD := ⟨("FormulaSyntax", some "__init__"), "__init__", "FormulaSyntax.__init__", defArgs s_FormulaSyntax_init, defBody s_FormulaSyntax_init, defScope s_FormulaSyntax_init, [], []⟩
def dd_NotLinear_init : He.DefD := ⟨("NotLinear", some "__init__"), "__init__", "NotLinear.__init__", defArgs s_NotLinear_init, defBody s_NotLinear_init, defScope s_NotLinear_init, [], []⟩
def dd_ZeroDivisor_init : He.DefD := ⟨("ZeroDivisor", some "__init__"), "__init__", "ZeroDivisor.__init__", defArgs s_ZeroDivisor_init, defBody s_ZeroDivisor_init, defScope s_ZeroDivisor_init, [], []⟩
def dd_UnknownCell_init : He.DefD := ⟨("UnknownCell", some "__init__"), "__init__", "UnknownCell.__init__", defArgs s_UnknownCell_init, defBody s_UnknownCell_init, defScope s_UnknownCell_init, [], []⟩
def dd_CircularCell_init : He.DefD := ⟨("CircularCell", some "__init__"), "__init__", "CircularCell.__init__", defArgs s_CircularCell_init, defBody s_CircularCell_init, defScope s_CircularCell_init, [], []⟩
def dd_StepOrder_init : He.DefD := ⟨("StepOrder", some "__init__"), "__init__", "StepOrder.__init__", defArgs s_StepOrder_init, defBody s_StepOrder_init, defScope s_StepOrder_init, [], []⟩
def dd_Sheet_init : He.DefD := ⟨("Sheet", some "__init__"), "__init__", "Sheet.__init__", defArgs s_Sheet_init, defBody s_Sheet_init, defScope s_Sheet_init, [.adr (He.dflAt ("Sheet", some "__init__") 0)], []⟩
def dd_StepOrder_take : He.DefD := ⟨("StepOrder", some "take"), "take", "StepOrder.take", defArgs s_StepOrder_take, defBody s_StepOrder_take, defScope s_StepOrder_take, [], []⟩
def dd_StepOrder_take_factor : He.DefD := ⟨("StepOrder", some "take_factor"), "take_factor", "StepOrder.take_factor", defArgs s_StepOrder_take_factor, defBody s_StepOrder_take_factor, defScope s_StepOrder_take_factor, [], []⟩
def dd_StepOrder_take_list : He.DefD := ⟨("StepOrder", some "take_list"), "take_list", "StepOrder.take_list", defArgs s_StepOrder_take_list, defBody s_StepOrder_take_list, defScope s_StepOrder_take_list, [], []⟩
def dd_StepOrder_take_end : He.DefD := ⟨("StepOrder", some "take_end"), "take_end", "StepOrder.take_end", defArgs s_StepOrder_take_end, defBody s_StepOrder_take_end, defScope s_StepOrder_take_end, [], []⟩
def dd_StepOrder_release : He.DefD := ⟨("StepOrder", some "release"), "release", "StepOrder.release", defArgs s_StepOrder_release, defBody s_StepOrder_release, defScope s_StepOrder_release, [], []⟩
def dd_StepOrder_finish : He.DefD := ⟨("StepOrder", some "finish"), "finish", "StepOrder.finish", defArgs s_StepOrder_finish, defBody s_StepOrder_finish, defScope s_StepOrder_finish, [], []⟩
def dd_Sheet_len : He.DefD := ⟨("Sheet", some "__len__"), "__len__", "Sheet.__len__", defArgs s_Sheet_len, defBody s_Sheet_len, defScope s_Sheet_len, [], []⟩
def dd_Sheet_cell_names : He.DefD := ⟨("Sheet", some "cell_names"), "cell_names", "Sheet.cell_names", defArgs s_Sheet_cell_names, defBody s_Sheet_cell_names, defScope s_Sheet_cell_names, [], []⟩
def dd_Sheet_computed_names : He.DefD := ⟨("Sheet", some "computed_names"), "computed_names", "Sheet.computed_names", defArgs s_Sheet_computed_names, defBody s_Sheet_computed_names, defScope s_Sheet_computed_names, [], []⟩
def dd_Sheet_form_by_inputs : He.DefD := ⟨("Sheet", some "form_by_inputs"), "form_by_inputs", "Sheet.form_by_inputs", defArgs s_Sheet_form_by_inputs, defBody s_Sheet_form_by_inputs, defScope s_Sheet_form_by_inputs, [], []⟩
def dd_Sheet_check_name : He.DefD := ⟨("Sheet", some "check_name"), "check_name", "Sheet.check_name", defArgs s_Sheet_check_name, defBody s_Sheet_check_name, defScope s_Sheet_check_name, [], []⟩
def fnZ0 : List He.DefD := [dd_is_whole, dd_is_ratio, dd_is_number, dd_as_ratio, dd_add_ratios, dd_multiply_ratios, dd_divide, dd_read_ratio, dd_are_digits, dd_read_digits, dd_is_name, dd_constant_form, dd_cell_form, dd_names_in, dd_add_forms, dd_subtract_forms, dd_scale_form, dd_value_at, dd_parse_formula, dd_tokens_of, dd_token_end, dd_number_end, dd_run_end, dd_result_of, dd_performed, dd_total_form, dd_product_form, dd_quotient_form, dd_read_rows, dd_is_row]
def fnZ1 : List He.DefD := [dd_formula_form, dd_check_unknown, dd_check_circles, dd_reached_names, dd_forms_by_inputs, dd_replaced_form, dd_filled_table, dd_l_box, dd_l_mixed, dd_l_take, dd_l_shuffled, dd_l_names, dd_l_rows_of, dd_l_round, dd_law, dd_ratio, dd_InvalidNumber_init, dd_InvalidText_init, dd_FormulaSyntax_init, dd_NotLinear_init, dd_ZeroDivisor_init, dd_UnknownCell_init, dd_CircularCell_init, dd_StepOrder_init, dd_Sheet_init, dd_StepOrder_take, dd_StepOrder_take_factor, dd_StepOrder_take_list, dd_StepOrder_take_end, dd_StepOrder_release]
def fnZ2 : List He.DefD := [dd_StepOrder_finish, dd_Sheet_len, dd_Sheet_cell_names, dd_Sheet_computed_names, dd_Sheet_form_by_inputs, dd_Sheet_check_name]
def fnZ : List He.DefD := fnZ0 ++ fnZ1 ++ fnZ2
def tsZ : List He.Tab := [((fun K => He.ga K "RANKS"), ["+", "-", "*", "/", "- factor"])]
def xsZ0 : List (PySem.W.Frag → Bool) := [(fun K => He.tupB K "ZERO" [.int 0, .int 1]), (fun K => He.tupB K "ONE" [.int 1, .int 1]), (fun K => He.tupB K "FUNCTION_WORDS" [.str "sum", .str "average"]), (fun K => He.valsB K (He.ga K "RANKS") [("+", .int 1), ("-", .int 1), ("*", .int 2), ("/", .int 2), ("- factor", .int 3)]), (fun K => He.eqO (PySem.W.nsIn K mainGlobals "gcd") (some (some (.builtin "math.gcd")))), (fun K => spcB K), (fun K => excB K (He.ga K "ZeroBottom") (He.ga K "SheetError")), (fun K => errB K (He.ga K "InvalidNumber") (He.ga K "SheetError") (He.ma K (He.ga K "InvalidNumber") "__init__") "value"), (fun K => errB K (He.ga K "InvalidText") (He.ga K "SheetError") (He.ma K (He.ga K "InvalidText") "__init__") "text"), (fun K => errB K (He.ga K "FormulaSyntax") (He.ga K "SheetError") (He.ma K (He.ga K "FormulaSyntax") "__init__") "position"), (fun K => errB K (He.ga K "NotLinear") (He.ga K "SheetError") (He.ma K (He.ga K "NotLinear") "__init__") "position"), (fun K => errB K (He.ga K "ZeroDivisor") (He.ga K "SheetError") (He.ma K (He.ga K "ZeroDivisor") "__init__") "position"), (fun K => errB K (He.ga K "UnknownCell") (He.ga K "SheetError") (He.ma K (He.ga K "UnknownCell") "__init__") "name"), (fun K => errB K (He.ga K "CircularCell") (He.ga K "SheetError") (He.ma K (He.ga K "CircularCell") "__init__") "name")]
def xsZ : List (PySem.W.Frag → Bool) := xsZ0
def asZ0 : List Addr := [3, 59, 72, 91, 110, 129, 148, 167, 262, 281, 284, 285, 292, 299, 306, 313, 321, 328, 335, 342, 349, 356, 363, 364, 371, 378, 385, 390, 395, 402]
def asZ1 : List Addr := [407, 414, 415, 422, 429, 436, 443, 450, 509, 520, 527, 534, 541, 548, 687, 698, 705, 712, 719, 726, 731, 736, 743, 748, 753, 760, 767, 772, 777, 784]
def asZ2 : List Addr := [791, 796, 58, 71, 90, 109, 128, 147, 166, 261, 280, 291, 298, 305, 312, 320, 314, 327, 334, 341, 348, 355, 362, 370, 377, 384, 389, 394, 401, 406]
def asZ3 : List Addr := [413, 421, 428, 435, 442, 449, 508, 519, 526, 533, 540, 547, 686, 697, 704, 711, 718, 725, 730, 735, 742, 747, 752, 759, 766, 771, 776, 783, 790, 795]
def asZ4 : List Addr := [88, 107, 126, 145, 164, 259, 278, 464, 471, 478, 485, 492, 499, 506, 562, 569, 588, 600, 614, 684, 87, 106, 125, 144, 163, 258, 277, 463, 470, 477]
def asZ5 : List Addr := [484, 491, 498, 505, 561, 557, 568, 587, 599, 613, 683]
def asZ : List Addr := asZ0 ++ asZ1 ++ asZ2 ++ asZ3 ++ asZ4 ++ asZ5
abbrev hkZ : PySem.W.Hook := hookZ asZ fcZ fnZ tsZ xsZ
def obZ (s : PySem.W.SharedT) : AlZ := obsZG asZ fcZ fnZ tsZ xsZ (HandSHeadRun.getT s)
theorem obZ_eq (s : PySem.W.SharedT) : obZ s = hkZ.obs s.abs := obsZG_eq (HandSHeadRun.getT_eq s)
set_option maxHeartbeats 0 in
theorem runL1 (w : World) : RunL rowZ qView 20000 nmZ (w.withFollow "special-get-raises" false) := by
  unfold RunL
  kernel_rfl
set_option maxHeartbeats 0 in
theorem runO1 (w : World) : RunO rowZ hkZ obZ 20000 (w.withFollow "special-get-raises" false) := by
  unfold RunO
  kernel_rfl
theorem runZ1 (w : World) : HandSHeadRun.RunEqI rowZ qView hkZ obZ 20000 nmZ (w.withFollow "special-get-raises" false) := run_both (runL1 w) (runO1 w)
set_option maxHeartbeats 0 in
theorem runL2 (w : World) : RunL rowZ qView 20000 nmZ (w.withFollow "special-get-raises" true) := by
  unfold RunL
  kernel_rfl
set_option maxHeartbeats 0 in
theorem runO2 (w : World) : RunO rowZ hkZ obZ 20000 (w.withFollow "special-get-raises" true) := by
  unfold RunO
  kernel_rfl
theorem runZ2 (w : World) : HandSHeadRun.RunEqI rowZ qView hkZ obZ 20000 nmZ (w.withFollow "special-get-raises" true) := run_both (runL2 w) (runO2 w)
theorem runZ (w : World) : HandSHeadRun.RunEqI rowZ qView hkZ obZ 20000 nmZ w := PySem.W.byRow2 "special-get-raises" runZ1 runZ2 w
end Bs
namespace Bs
open PySem L2
/-! ### sets of texts, made of a list; their members in order -/
section
open PySem.Spec PyProof.Rows
variable {P : Program} {w : World} {A : Around} {E : Value → Shared → Prop} {s : Shared}
/-- the table of a payload rises, and its order is that of the texts or led -/
def Wkb (w : World) (D : Froz.SD) : Prop := Ris D.2.2.place.toList ∧ (w.params.followText "set-order" = true ∨ D.2.2.led = true)
theorem wkb_add {D : Froz.SD} (hs : Int) (x : Value) (k : Wkb w D) : Wkb w (Froz.addTx hs x D) := by
  obtain ⟨es, ep, t⟩ := D
  have rise := layNew_ris t es hs x k.1
  have lead := layNew_led t es hs x
  unfold Froz.addTx Froz.tailTx
  dsimp only
  generalize layNew t es hs x = N at rise lead ⊢
  obtain ⟨es', t', wd, gv⟩ := N
  dsimp only at rise lead ⊢
  have both : ∀ t2 : SetTable, t2.place = t'.place → t2.led = t'.led → Wkb w (if (!wd && t2.tooFull) = true then ((relayAll t2 es' (SetTable.grown es'.size)).1, ep + 2, (relayAll t2 es' (SetTable.grown es'.size)).2.1) else (es', ep + 1, t2)) := fun t2 e1 e2 => by
    split
    · exact ⟨relayAll_ris t2 es' _, k.2.imp id fun z => by show (relayAll t2 es' _).2.1.led = true; rw [relayAll_led, e2, lead]; exact z⟩
    · exact ⟨by show Ris t2.place.toList; rw [e1]; exact rise, k.2.imp id fun z => by show t2.led = true; rw [e2, lead]; exact z⟩
  by_cases pl : t'.plain = true
  · rw [if_pos pl]
    exact both _ rfl rfl
  · rw [if_neg pl]
    exact both _ rfl rfl
/-- the set at a holds the texts l, each once -/
def Txts (P : Program) (w : World) (h : Heap) (a : Addr) (l : List Str) : Prop := ∃ D, h.get? a = some (Froz.sObj "set" D) ∧ Froz.TxOk P w D l ∧ Wkb w D ∧ l.Nodup
theorem Txts.at {h h' : Heap} {a : Addr} {l : List Str} (x : Txts P w h a l) (k : ∀ o, h.get? a = some o → h'.get? a = some o) : Txts P w h' a l := by
  obtain ⟨D, ho, r⟩ := x
  exact ⟨D, k _ ho, r⟩
/-- one text more -/
def addOne (l : List Str) (k : Str) : List Str := if k ∈ l then l else k :: l
theorem addOne_mem {l : List Str} {k j : Str} : j ∈ addOne l k ↔ j = k ∨ j ∈ l := by
  unfold addOne
  split
  · rename_i c
    exact ⟨.inr, fun z => z.elim (fun e => e ▸ c) id⟩
  · exact List.mem_cons
theorem addOne_len (l : List Str) (k : Str) : (addOne l k).length ≤ l.length + 1 := by
  unfold addOne
  split
  · exact Nat.le_succ _
  · exact Nat.le_refl _
/-- a text that is there already -/
theorem add_known {a : Addr} {D : Froz.SD} {l : List Str} {k : Str} {u : Tok} {Q : Bool → Shared → Prop} (at0 : s.heap.get? a = some (Froz.sObj "set" D)) (F : Froz.TxOk P w D l) (known : k ∈ l) (few : l.length < scanBound) (done : Q false s) :
    wpAny (model P w) A (setAddHashed a (.str k u) (hashStr w k)) Q E s := by
  obtain ⟨es, ep, t⟩ := D
  have dat : (Froz.sObj "set" (es, ep, t)).data = .set es ep t := rfl
  have size : es.size < scanBound := by rw [show es.size = l.length from F.sz]; exact few
  obtain ⟨e, he, hk⟩ := (F.mem k).mp known
  unfold setAddHashed setAddHashedIn
  refine wpAny_holding (wpAny_bind (wpAny_setState_of at0 dat F.fit ?_))
  dsimp only
  rw [byScan_of (x := .str k u) rfl size F.el, if_pos rfl]
  unfold setAddByScan
  refine wpAny_bind (wpAny_bind (wpAny_rule (wpAny_bind (wpAny_setScan_of (knd := strKind P w) (k := k) (Froz.is_str k u) at0 dat F.fit F.el ?_))))
  cases seek : List.findIdx? (fun e => (strKind P w).is k e.2) es.toList with
  | none =>
    have no := List.findIdx?_eq_none_iff.mp seek e he
    rw [hk] at no
    cases no
  | some j =>
    dsimp only
    exact wpAny_pure (wpAny_pure done)
theorem txts_add {a : Addr} {l : List Str} {k : Str} {u : Tok} {Q : Bool → Shared → Prop} (x : Txts P w s.heap a l) (few : l.length + 1 < scanBound)
    (goal : ∀ b h', Heap.SameBut a s.heap h' → Txts P w h' a (addOne l k) → Q b { s with heap := h' }) : wpAny (model P w) A (setAddHashed a (.str k u) (hashStr w k)) Q E s := by
  obtain ⟨D, at0, F, kb, nd⟩ := x
  by_cases known : k ∈ l
  · refine add_known at0 F known (by omega) (goal false s.heap (Heap.SameBut.refl a s.heap) ⟨D, at0, ?_⟩)
    rw [show addOne l k = l from if_pos known]
    exact ⟨F, kb, nd⟩
  · refine Froz.add_x at0 F known few (goal true _ (Heap.SameBut.update s.heap a _) ⟨_, Froz.get_upd _ at0 rfl, ?_⟩)
    rw [show addOne l k = k :: l from if_neg known]
    exact ⟨Froz.add_ok u F, wkb_add _ _ kb, List.nodup_cons.mpr ⟨known, nd⟩⟩
end
section
open PySem.Spec PyProof.Rows
variable {P : Program} {w : World} {A : Around} {E : Value → Shared → Prop} {s : Shared}
/-- what a set holds behind the first i texts -/
def Held (P : Program) (w : World) (xs : List Str) (i : Nat) (h : Heap) (a : Addr) : Prop := ∃ l, l.length ≤ i ∧ (∀ k, k ∈ l ↔ k ∈ xs.take i) ∧ Txts P w h a l
theorem Held.at {xs : List Str} {i : Nat} {h h' : Heap} {a : Addr} (x : Held P w xs i h a) (k : ∀ o, h.get? a = some o → h'.get? a = some o) : Held P w xs i h' a := by
  obtain ⟨l, e1, e2, e3⟩ := x
  exact ⟨l, e1, e2, e3.at k⟩
theorem fill_txts {I : Addr} {fp wr : List Addr} {G : Array GenState → Array GenState → Prop} {n : Nat} {Pv : Nat → Value → Prop} {St : Nat → Shared → Prop} {R : Result → Shared → Prop}
    (W : WalksS P w A.in1 I fp wr G n Pv St) (a : Addr) (out : a ∉ fp) (xs : List Str) (len : xs.length = n) (few : n + 1 < scanBound) (item : ∀ i v, Pv i v → ∃ k t, xs[i]? = some k ∧ v = .str k t) :
    ∀ (left i : Nat) (s : Shared), i + left = n → St i s → Held P w xs i s.heap a → (∀ s', Moved (a :: wr) G s s' → Held P w xs n s'.heap a → R (.ok (.ret .none)) s') →
      codeAny (model P w) A (.builtin "set.update.loop" ⟨[.ref a, .ref I], []⟩) R s := by
  have outw : a ∉ wr := fun m => out (W.sub _ m)
  have wide : ∀ b ∈ wr, b ∈ a :: wr := fun b m => List.mem_cons_of_mem _ m
  intro left
  induction left with
  | zero =>
    intro i s sum st held fin
    obtain rfl : i = n := by omega
    refine (codeAny_builtin F.entry_set_update_loop ?_); rw [Around.under_plainId (id F.plain_set_update_loop)]
    refine wpAny_bind (show wpAny _ A.in1 (pyNext (.ref I)) _ _ s from W.done s _ _ st fun s' mv => wpAny_pure (fin s' (mv.mono wide) ?_))
    exact held.at fun o e => mv.heap a o outw e
  | succ left ih =>
    intro i s sum st held fin
    have lt : i < n := by omega
    refine (codeAny_builtin F.entry_set_update_loop ?_); rw [Around.under_plainId (id F.plain_set_update_loop)]
    refine wpAny_bind (show wpAny _ A.in1 (pyNext (.ref I)) _ _ s from W.item i s _ _ lt st fun v s1 pv st1 mv => ?_)
    obtain ⟨k, t, hk, rfl⟩ := item i v pv
    obtain ⟨l, few1, same, tx⟩ := held.at (h' := s1.heap) fun o e => mv.heap a o outw e
    refine wpAny_bind (show wpAny _ A.in1 (holding [Value.str k t] (setAdd a (.str k t))) _ _ s1 from wpAny_holding ?_)
    unfold setAdd
    refine wpAny_holding (wpAny_bind ((strKind P w).pyHash (k := k) (strKind_is _ _ _ _) ?_))
    refine txts_add (s := { s1 with toks := s1.toks + 1 }) tx (by omega) fun _ h2 but tx2 => wpAny_pure ⟨plainId_quiet F.plain_set_update_loop _, ?_⟩
    have oth : ∀ b o, b ≠ a → s1.heap.get? b = some o → h2.get? b = some o := fun b o ne e => (but.2 b ne).trans e
    refine ih (i + 1) _ (by omega) (W.frame _ s1 _ _ st1 (Nat.le_succ _) fun b m o e => oth b o (fun z => out (z ▸ m)) e) ⟨_, Nat.le_trans (addOne_len l k) (by omega), fun j => ?_, tx2⟩ fun s3 mv3 held3 => ?_
    · rw [addOne_mem, same, List.take_add_one, hk, List.mem_append, Option.toList_some, List.mem_singleton]
      exact Or.comm
    · exact fin s3 (Moved.trans W.gtrans ((mv.mono wide).then_heap (Nat.le_succ _) fun b o m e => oth b o (fun z => m (z ▸ List.mem_cons_self ..)) e) mv3) held3
end

end Bs
namespace Bs
open PySem L2
section
open PySem.Spec PyProof.Rows
variable {P : Program} {w : World} {A : Around} {E : Value → Shared → Prop} {s : Shared}
/-- an empty set as set.__new__ leaves it -/
abbrev bare (w : World) : Obj := { cls := .type "set", dict := none, data := .set #[] 0 (.fresh 0 0 (!w.params.followText "set-order")) }
theorem bare_txts {h : Heap} {a : Addr} (e : h.get? a = some (bare w)) (xs : List Str) : Held P w xs 0 h a := by
  refine ⟨[], Nat.le_refl _, fun k => by rw [List.take_zero], (#[], 0, .fresh 0 0 (!w.params.followText "set-order")), e, Froz.TxOk.nil (by rfl), ⟨List.Pairwise.nil, ?_⟩, List.nodup_nil⟩
  show _ ∨ (!w.params.followText "set-order") = true
  cases w.params.followText "set-order" <;> simp
set_option maxHeartbeats 3200000 in
theorem set_of_list {l : Addr} {items : Array Value} {xs : List Str} {Q : Value → Shared → Prop} (nh : A.handled = none) (isl : s.heap.IsList l items) (txt : StrsAre items.toList xs) (few : xs.length + 1 < scanBound)
    (goal : ∀ h' tk, Held P w xs xs.length h' s.heap.objs.size → (∀ b o, s.heap.get? b = some o → h'.get? b = some o) → Q (.ref s.heap.objs.size) { s with heap := h', toks := tk }) :
    wpAny (model P w) A (call (.type "set") [.ref l]) Q E s := by
  have len : xs.length = items.size := by rw [← StrsAre.len_eq txt, Array.length_toList]
  have item : ∀ (i : Nat) (v : Value), items[i]? = some v → ∃ k t, xs[i]? = some k ∧ v = .str k t := fun i v e => by
    have lt : i < xs.length := by rw [len]; exact (Array.getElem?_eq_some_iff.mp e).1
    obtain ⟨t, z⟩ := SS.strs_at txt i v (by rw [Array.getElem?_toList]; exact e)
    exact ⟨xs[i], t, List.getElem?_eq_getElem lt, by rw [z, List.getD_eq_getElem?_getD, List.getElem?_eq_getElem lt]; rfl⟩
  obtain ⟨c0, c1, c2⟩ := PySem.F.called_set.mro
  have c3 := PySem.F.called_set.made
  have c4 := PySem.F.called_set.sub
  have c5 := PySem.F.called_set.notType
  have c6 := PySem.F.called_set.canCreate
  have c7 := PySem.F.typeCall_set_1 (.ref l)
  refine wpAny_call (codeAny_of_tree (show wpAny _ _ (callAny (.type "set") _) _ _ _ from wpAny_pure ⟨Code.quiet_builtin _ (by decide +kernel), codeAny_builtin PySem.F.entry_type_call ?_⟩))
  rw [Around.under_plain (weight_type_call_type "set" [Value.ref l] []) rfl]
  repeat (any_goals (first | assumption | wp_step))
  refine codeAny_mono (code_set_led1 (P := P) (w := w) (Value.ref l) (E := E) (Q₁ := fun o s1 => o = .ref s.heap.objs.size ∧ s1 = { s with heap := s.heap.push (bare w) }) ⟨rfl, rfl⟩) fun r1 s1 hr => ?_
  cases r1 with
  | error e => exact hr
  | ok fl =>
    cases fl with
    | ret o =>
      obtain ⟨rfl, rfl⟩ := hr
      have new : (s.heap.push (bare w)).get? s.heap.objs.size = some (bare w) := Heap.get?_push_size _ rfl
      have ty : Shared.TypeIs { s with heap := s.heap.push (bare w) } (.ref s.heap.objs.size) "set" := ⟨_, new, rfl⟩
      have d1 := PySem.F.called_set.init.lookup
      have d2 := PySem.F.called_set.init.bind (.ref s.heap.objs.size)
      repeat (any_goals (first | assumption | wp_step))
      refine codeAny_mono (codeAny_call_builtin (R := wants (fun r s2 => r = .none ∧ ∃ h' tk, s2 = { s with heap := h', toks := tk } ∧ Held P w xs xs.length h' s.heap.objs.size ∧ (∀ b o, s.heap.get? b = some o → h'.get? b = some o)) E)
        PySem.F.called_set.init.plain PySem.F.entry_set_init (check_set_init_1 ty ?_)) fun r2 s2 h2 => ?_
      · obtain ⟨⟨oc, od, odat, osl⟩, at0, oc0, nl, od0⟩ := isl
        simp only at oc0 od0
        subst oc0 od0
        have at1 : (s.heap.push (bare w)).get? l = some { cls := .type "list", dict := od, data := .seq items nl, slots := osl } := Heap.get?_push_of_some _ at0
        have e1 := PySem.F.sub_list_set
        have e2 := PySem.F.sub_list_frozenset
        have e3 : (Value.type "list" == Value.type "dict") = false := by decide
        have is1 : (s.heap.push (bare w)).IsList l items := ⟨_, at1, rfl, nl, rfl⟩
        have below : l < s.heap.objs.size := Heap.lt_size at0
        have size1 : (s.heap.push (bare w)).objs.size = s.heap.objs.size + 1 := Heap.size_push ..
        unfold Builtin.«set.__init__» noKeywords Builtin.Frozenset.updateFrom
        generalize keep : pyIter = it0
        wp_walk
        subst keep
        refine wpAny_pyIter_list is1 (wpAny_bind (wpAny_runValue ?_))
        have nh3 : A.in1.in1.in1.handled = none := nh
        have apart : l ≠ (s.heap.push (bare w)).objs.size := by rw [size1]; exact Nat.ne_of_lt (Nat.lt_succ_of_lt below)
        refine fill_txts ((Walks.list nh3 _ l apart items).toS) s.heap.objs.size (fun m => ?_) xs len (by omega) item items.size 0 _ (Nat.zero_add _) ⟨⟨_, Heap.get?_push_size _ rfl, rfl, rfl⟩, (is1.push _)⟩ ?h0 ?hR
        · rcases List.mem_cons.mp m with z | z
          · rw [size1] at z
            exact absurd z (Nat.ne_of_lt (Nat.lt_succ_self _))
          · exact absurd (List.mem_singleton.mp z) (Nat.ne_of_gt below)
        case h0 => exact bare_txts (Heap.get?_push_of_some _ new) xs
        case hR =>
          intro s3 mv held
          obtain ⟨h3, g3, d3, t3, o3⟩ := s3
          obtain rfl : g3 = s.gens := mv.gens
          obtain rfl : d3 = s.drawn := mv.drawn
          obtain rfl : o3 = s.os := mv.os
          refine wpAny_pure (show wpAny _ _ (ret Value.none) _ _ _ from wpAny_pure ⟨rfl, h3, t3, rfl, by rw [len]; exact held, fun b o e => ?_⟩)
          have bl : b < s.heap.objs.size := Heap.lt_size e
          refine mv.heap b o (fun m => ?_) (Heap.get?_push_of_some _ (Heap.get?_push_of_some _ e))
          rcases List.mem_cons.mp m with z | z
          · exact absurd z (Nat.ne_of_lt bl)
          · have z2 := List.mem_singleton.mp z
            rw [size1] at z2
            exact absurd z2 (Nat.ne_of_lt (Nat.lt_succ_of_lt bl))
      · cases r2 with
        | error e => exact h2
        | ok f2 =>
          cases f2 with
          | ret v2 =>
            obtain ⟨rfl, h3, t3, rfl, held, kept⟩ := h2
            repeat (any_goals (first | assumption | wp_step))
            exact goal _ _ held kept
          | _ => exact h2.elim
    | _ => exact hr.elim
end

end Bs
namespace Bs
open PySem L2
section
open PySem.Spec PyProof.Rows
/-- the set of texts at a: each of xs, nothing else -/
def SetT (P : Program) (w : World) (a : Addr) (xs : List Str) : HO := .ext fun h => Held P w xs xs.length h a
theorem setT_new {P : Program} {w : World} {H : Hp} {h : Heap} {a : Addr} {xs : List Str} (x : Held P w xs xs.length h a) : ObjOk P w H h a (SetT P w a xs) := by
  obtain ⟨l, _, _, D, at0, _⟩ := id x
  exact ⟨x, ⟨_, at0⟩, fun h1 h2 p k => p.at k⟩
theorem perm_rest {α : Type} [BEq α] [LawfulBEq α] : ∀ {l ks : List α}, l.Nodup → (∀ k, k ∈ l → k ∈ ks) → ∃ r, ks.Perm (l ++ r)
  | [], ks, _, _ => ⟨ks, List.Perm.refl _⟩
  | x :: l, ks, nd, inn => by
    obtain ⟨n1, n2⟩ := List.nodup_cons.mp nd
    obtain ⟨r, p⟩ := perm_rest (ks := ks.erase x) n2 fun k hk => (List.mem_erase_of_ne (fun e => n1 (by rw [← e]; exact hk))).mpr (inn k (List.mem_cons_of_mem _ hk))
    exact ⟨r, (List.perm_cons_erase (inn x (List.mem_cons_self ..))).trans (p.cons x)⟩
theorem all_txt : ∀ (vs : List Value) (l : List Str), (∀ v ∈ vs, ∃ k u, v = Value.str k u) → (∀ k ∈ l, ∃ u, Value.str k u ∈ vs) → ∃ ks, StrsAre vs ks ∧ ∀ k, k ∈ l → k ∈ ks := fun vs l all inn => by
  have key : ∀ vs : List Value, (∀ v ∈ vs, ∃ k u, v = Value.str k u) → ∃ ks, StrsAre vs ks ∧ ∀ k u, Value.str k u ∈ vs → k ∈ ks := by
    intro vs
    induction vs with
    | nil => exact fun _ => ⟨[], .nil, fun k u m => by cases m⟩
    | cons v vs ih =>
      intro all
      obtain ⟨ks, t, m⟩ := ih fun v hv => all v (List.mem_cons_of_mem _ hv)
      obtain ⟨k, u, rfl⟩ := all v (List.mem_cons_self ..)
      refine ⟨k :: ks, .cons k u t, fun j u2 mj => ?_⟩
      rcases List.mem_cons.mp mj with z | z
      · injection z with z1
        rw [z1]
        exact List.mem_cons_self ..
      · exact List.mem_cons_of_mem _ (m j u2 z)
  obtain ⟨ks, t, m⟩ := key vs all
  exact ⟨ks, t, fun k hk => by
    obtain ⟨u, z⟩ := inn k hk
    exact m k u z⟩
variable {X : Cx}
/-- set(a list of texts) -/
def rSetTxt (K : PySem.W.Frag) (P : Program) (w : World) : List V → Hp → VK → Prop := fun vs H Q => ∃ (a : Addr) (xs : List Str), vs = [.ref a] ∧ SqL K H a (xs.map V.str) ∧ xs.length < 1000 ∧ ∀ p, H p = none → Q (.ref p) (upd H p (SetT P w p xs))
theorem cr_setTxt (calm : X.calm = true) : CallR X (.type "set") (rSetTxt X.K X.prog X.w) := by
  intro pins s σ H vs us Q I r q
  obtain ⟨a, xs, rfl, hs, few, q⟩ := q
  rw [Vals.ref1 r]
  obtain ⟨its, rv, pl, _⟩ := I.list hs
  refine set_of_list (I.ok.hd calm) pl.isList (by simpa using strsAre_of rv) (Nat.lt_of_lt_of_le (Nat.succ_lt_succ few) (by unfold scanBound; decide)) fun h' tk held kept => ?_
  exact ⟨.ref _, _, I.laid (t' := tk) kept (Nat.le_refl _) (setT_new held), rfl, q _ (I.hok.fresh (Nat.le_refl _))⟩
/-- sorted(that set) -/
def rSortTxt (P : Program) (w : World) : List V → Hp → VK → Prop := fun vs H Q => ∃ (a : Addr) (xs : List Str), vs = [.ref a] ∧ H a = some (SetT P w a xs) ∧ xs.length < 64 ∧
  ∀ (ys : List Str) p, ys.Nodup → (∀ k, k ∈ ys ↔ k ∈ xs) → sortedS ys = true → H p = none → Q (.ref p) (upd H p (.lst (ys.map V.str)))
theorem cr_sortTxt (calm : X.calm = true) : CallR X (.builtin "sorted") (rSortTxt X.prog X.w) := by
  intro pins s σ H vs us Q I r q
  obtain ⟨a, xs, rfl, at0, few, q⟩ := q
  rw [Vals.ref1 r]
  obtain ⟨l, len, same, D, set0, F, kb, nd⟩ := (I.hok a _ at0).1
  rw [List.take_length] at same
  obtain ⟨es, ep, t⟩ := D
  have size : es.size = l.length := F.sz
  have few2 : l.length < 64 := by omega
  refine Calls.call_function_entry kind_sorted plain_sorted entry_sorted (args_sorted1 _) ?_
  unfold Builtin.«sorted»
  refine wpAny_bind (show wpAny _ _ (checkCount "sorted" 1 1 _) _ _ _ from wpAny_pure (wpAny_bind (collect_set (A := X.A.in1) (I.ok.hd calm) ⟨_, set0, rfl, rfl⟩ F.fit (by rw [size]; unfold scanBound; omega) kb.1 kb.2 fun s1 vs kept grow gens os pm => ?_)))
  obtain ⟨ks, txt, pk⟩ : ∃ ks, StrsAre vs ks ∧ ks.Perm l := by
    obtain ⟨ks, txt, inn⟩ : ∃ ks, StrsAre vs ks ∧ ∀ k, k ∈ l → k ∈ ks := by
      refine all_txt vs l (fun v hv => ?_) fun k hk => ?_
      · obtain ⟨e, he, ev⟩ := List.mem_map.mp (pm.mem_iff.mp hv)
        obtain ⟨⟨k, hk, _⟩, _⟩ := F.el e he
        obtain ⟨u, z⟩ := Value.isStrOf_shape hk
        exact ⟨k, u, by rw [← ev]; exact z⟩
      · obtain ⟨e, he, z⟩ := (F.mem k).mp hk
        obtain ⟨u, ev⟩ := Value.isStrOf_shape z
        exact ⟨u, pm.mem_iff.mpr (List.mem_map.mpr ⟨e, he, ev⟩)⟩
    obtain ⟨r, pr⟩ := perm_rest nd inn
    have : ks.length = l.length := by rw [← StrsAre.len_eq txt, pm.length_eq, List.length_map, Array.length_toList, size]
    have : r = [] := by
      have z := pr.length_eq
      rw [List.length_append] at z
      exact List.length_eq_zero_iff.mp (by omega)
    rw [this, List.append_nil] at pr
    exact ⟨ks, txt, pr⟩
  have lv : vs.length = l.length := by rw [StrsAre.len_eq txt, pk.length_eq]
  refine wpAny_bind (wpAny_newList ?_ (by rw [lv, sizeLine_eq]; omega))
  have atL : (s1.heap.push (seqObj "list" vs.toArray 0)).get? s1.heap.objs.size = some (seqObj "list" vs.toArray 0) := Heap.get?_push_size _ rfl
  refine wpAny_bind (wpAny_holding (wpAny_call_entry slot_list_sort ⟨_, atL, rfl⟩ entry_list_sort
    (list_sort_treeK strKind_oneLt atL txt.keysOf (fun v1 v2 rest e => keyKind_strs (by rw [← e]; exact txt)) (by rw [lv]; exact few2) fun st ps so => ⟨_, rfl, ?_⟩) (args_list_sort _)))
  obtain ⟨ys, y1, y2, y3⟩ := sorted_out_str txt ps so
  obtain ⟨c, at2⟩ := sortedHeap_at (vs := vs) (out := (arrOf st).map (·.2)) atL
  have yl := y2.trans pk
  refine wpAny_pure ⟨_, rfl, ?_⟩
  have old : ∀ b o, s.heap.get? b = some o → (sortedHeap (s1.heap.push (seqObj "list" vs.toArray 0)) s1.heap.objs.size vs ((arrOf st).map (·.2))).get? b = some o := fun b o e => by
    have lt := Heap.lt_size (kept b o e)
    rw [sortedHeap_old (Nat.ne_of_lt lt) (by rw [size_push']; exact Nat.lt_succ_of_lt lt)]
    exact Heap.get?_push_of_some _ (kept b o e)
  show EP X pins σ Q _ { s1 with heap := sortedHeap (s1.heap.push (seqObj "list" vs.toArray 0)) s1.heap.objs.size vs ((arrOf st).map (·.2)) }
  generalize sortedHeap (s1.heap.push (seqObj "list" vs.toArray 0)) s1.heap.objs.size vs ((arrOf st).map (·.2)) = hp at at2 old ⊢
  have fresh := I.hok.fresh grow
  have fits : (ys.map V.str).length ≤ sizeLine := by rw [List.length_map, yl.length_eq]; exact Nat.le_trans (Nat.le_of_lt few2) (by decide)
  have J : Inv X pins σ (upd H s1.heap.objs.size (.lst (ys.map V.str))) { s with heap := hp, gens := s1.gens, drawn := s1.drawn, toks := s1.toks } :=
    I.call (ch := []) (Un.laid old grow fresh) (I.hok.laid old grow ⟨fits, _, c, vals_of_strs y1, by rw [Array.toArray_toList]; exact at2⟩) (by rw [gens]; exact I.bare) (fun _ z => nomatch z)
  have whole : ({ s1 with heap := hp } : Shared) = { s with heap := hp, gens := s1.gens, drawn := s1.drawn, toks := s1.toks } := by
    cases s1
    cases s
    cases os
    rfl
  rw [whole]
  exact ⟨.ref _, _, J, rfl, q ys _ (yl.nodup_iff.mpr nd) (fun k => by rw [yl.mem_iff, same]) y3 fresh⟩
end

end Bs
namespace Bs
open PySem L2
/-! ### names: small letters; lists of texts in order -/
section
open PySem.Spec PyProof.Rows
def az (c : Nat) : Bool := decide (97 ≤ c) && decide (c ≤ 122)
def nameL (l : List Nat) : Bool := decide (l ≠ []) && decide (l.length < 9) && l.all az && decide (l ≠ [115, 117, 109]) && decide (l ≠ [97, 118, 101, 114, 97, 103, 101])
theorem alphaC : ∀ c : Nat, c < 128 → Unicode.isAlpha c = (az c || (decide (65 ≤ c) && decide (c ≤ 90))) := by decide +kernel
theorem lowerC : ∀ c : Nat, c < 128 → Unicode.isLower c = az c := by decide +kernel
theorem upperC : ∀ c : Nat, c < 128 → (Unicode.isUpper c || Unicode.isTitle c) = (decide (65 ≤ c) && decide (c ≤ 90)) := by decide +kernel
theorem az_ascii {c : Nat} (h : az c = true) : c < 128 := by
  unfold az at h
  rw [Bool.and_eq_true, decide_eq_true_eq, decide_eq_true_eq] at h
  omega
/-- the three checks of a text's signs -/
theorem small_signs (l : List Nat) : (if l.all (· < 128) = true then (if (decide (0 < l.length) && l.all Unicode.isAlpha) = true then (l.any Unicode.isLower && !l.any fun c => Unicode.isUpper c || Unicode.isTitle c) else false) else false) = (decide (l ≠ []) && l.all az) := by
  by_cases h : l.all (· < 128) = true
  · rw [if_pos h]
    have asc : ∀ c ∈ l, c < 128 := fun c hc => by
      have := List.all_eq_true.mp h c hc
      simpa using this
    rw [Bool.eq_iff_iff]
    constructor
    · intro z
      split at z
      · rename_i z1
        rw [Bool.and_eq_true, decide_eq_true_eq] at z1
        rw [Bool.and_eq_true, Bool.not_eq_true'] at z
        rw [Bool.and_eq_true, decide_eq_true_eq]
        refine ⟨fun e => by rw [e] at z1; exact absurd z1.1 (by decide), List.all_eq_true.mpr fun c hc => ?_⟩
        have a1 := List.all_eq_true.mp z1.2 c hc
        rw [alphaC c (asc c hc), Bool.or_eq_true] at a1
        rcases a1 with a1 | a1
        · exact a1
        · have a2 := List.any_eq_false.mp z.2 c hc
          rw [upperC c (asc c hc)] at a2
          exact absurd a1 a2
      · cases z
    · intro z
      rw [Bool.and_eq_true, decide_eq_true_eq] at z
      obtain ⟨ne, all⟩ := z
      have al := List.all_eq_true.mp all
      have p1 : (decide (0 < l.length) && l.all Unicode.isAlpha) = true := by
        rw [Bool.and_eq_true, decide_eq_true_eq]
        refine ⟨List.length_pos_iff.mpr ne, List.all_eq_true.mpr fun c hc => ?_⟩
        rw [alphaC c (asc c hc), al c hc]
        rfl
      rw [if_pos p1, Bool.and_eq_true, Bool.not_eq_true']
      obtain ⟨c, r, rfl⟩ : ∃ c r, l = c :: r := by
        cases l with
        | nil => exact absurd rfl ne
        | cons c r => exact ⟨c, r, rfl⟩
      refine ⟨?_, List.any_eq_false.mpr fun d hd => ?_⟩
      · rw [List.any_cons, lowerC c (asc c (List.mem_cons_self ..)), al c (List.mem_cons_self ..)]
        rfl
      · rw [upperC d (asc d hd)]
        have := al d hd
        unfold az at this
        rw [Bool.and_eq_true, decide_eq_true_eq, decide_eq_true_eq] at this
        rw [Bool.and_eq_true, decide_eq_true_eq, decide_eq_true_eq]
        omega
  · rw [if_neg h]
    symm
    rw [Bool.and_eq_false_iff]
    refine .inr ?_
    rw [Bool.eq_false_iff]
    intro z
    refine h (List.all_eq_true.mpr fun c hc => ?_)
    rw [decide_eq_true_eq]
    exact az_ascii (List.all_eq_true.mp z c hc)
/-- the order of texts -/
def leS (x y : Str) : Prop := ¬ y.cps.toList < x.cps.toList
theorem leS_anti {x y : Str} (a : leS x y) (b : leS y x) : x = y := by
  have e : x.cps.toList = y.cps.toList := List.le_antisymm (List.not_lt.mp a) (List.not_lt.mp b)
  cases x
  cases y
  congr
  exact Array.toList_inj.mp e
theorem leS_trans {x y z : Str} (a : leS x y) (b : leS y z) : leS x z := List.not_lt.mpr (List.le_trans (List.not_lt.mp a) (List.not_lt.mp b))
theorem rising_pw : ∀ (l : List Str) (x : Str), risingS x l = true → (x :: l).Pairwise leS
  | [], x, _ => List.pairwise_singleton _ _
  | y :: l, x, h => by
    have h2 : (!ltCps y.cps.toList x.cps.toList && risingS y l) = true := h
    rw [Bool.and_eq_true, Bool.not_eq_true', ltCps_eq, decide_eq_false_iff_not] at h2
    have ih := rising_pw l y h2.2
    refine List.pairwise_cons.mpr ⟨fun z hz => ?_, ih⟩
    rcases List.mem_cons.mp hz with rfl | hz
    · exact h2.1
    · exact leS_trans h2.1 ((List.pairwise_cons.mp ih).1 z hz)
theorem sorted_pw {l : List Str} (h : sortedS l = true) : l.Pairwise leS := by
  cases l with
  | nil => exact List.Pairwise.nil
  | cons x l => exact rising_pw l x h
theorem pw_uniq : ∀ {l m : List Str}, l.Pairwise leS → m.Pairwise leS → l.Nodup → m.Nodup → (∀ k, k ∈ l ↔ k ∈ m) → l = m
  | [], [], _, _, _, _, _ => rfl
  | [], y :: m, _, _, _, _, h => absurd ((h y).mpr (List.mem_cons_self ..)) (by simp)
  | x :: l, [], _, _, _, _, h => absurd ((h x).mp (List.mem_cons_self ..)) (by simp)
  | x :: l, y :: m, p, q, n, o, h => by
    obtain ⟨p1, p2⟩ := List.pairwise_cons.mp p
    obtain ⟨q1, q2⟩ := List.pairwise_cons.mp q
    obtain ⟨n1, n2⟩ := List.nodup_cons.mp n
    obtain ⟨o1, o2⟩ := List.nodup_cons.mp o
    have e : x = y := by
      rcases List.mem_cons.mp ((h x).mp (List.mem_cons_self ..)) with z | z
      · exact z
      · rcases List.mem_cons.mp ((h y).mpr (List.mem_cons_self ..)) with u | u
        · exact u.symm
        · exact leS_anti (p1 y u) (q1 x z)
    subst e
    rw [pw_uniq p2 q2 n2 o2 fun k => ?_]
    constructor
    · intro hk
      rcases List.mem_cons.mp ((h k).mp (List.mem_cons_of_mem _ hk)) with z | z
      · exact absurd hk (by rw [z]; exact n1)
      · exact z
    · intro hk
      rcases List.mem_cons.mp ((h k).mpr (List.mem_cons_of_mem _ hk)) with z | z
      · exact absurd hk (by rw [z]; exact o1)
      · exact z
/-- in order, each once -/
def inOrder (l : List Str) : Bool := decide l.Nodup && sortedS l
theorem order_is {l m : List Str} (nd : m.Nodup) (same : ∀ k, k ∈ m ↔ k ∈ l) (so : sortedS m = true) : decide (l = m) = inOrder l := by
  unfold inOrder
  rw [Bool.eq_iff_iff, decide_eq_true_eq, Bool.and_eq_true, decide_eq_true_eq]
  constructor
  · intro e
    rw [e]
    exact ⟨nd, so⟩
  · rintro ⟨n, s⟩
    exact pw_uniq (sorted_pw s) (sorted_pw so) n nd fun k => (same k).symm
end

end Bs
namespace Bs
open PySem
open L2
open PySem L2
/-! ### numbers -/
def CPowB (i j : Int) : Prop := 0 ≤ j ∧ (Builtin.Int.intBits i : Int) * j ≤ 2 ^ 27
theorem op_powB {X : Cx} : OpR X (binaryOp .Pow) (rI CPowB fun i j => .int (i ^ j.toNat)) := opI fun _ _ _ _ _ _ _ hc q => PyProof.Rows.pow_int hc.1 hc.2 q
/-- what the module leaves of the built-in names -/
structure Bt (mg : Str → Option Value) : Prop where
  n_len : mg "len" = none
  n_max : mg "max" = none
  n_abs : mg "abs" = none
  n_any : mg "any" = none
  n_all : mg "all" = none
  n_isinstance : mg "isinstance" = none
  n_range : mg "range" = none
  n_zip : mg "zip" = none
  n_int : mg "int" = none
  n_bool : mg "bool" = none
  n_tuple : mg "tuple" = none
  n_list : mg "list" = none
/-! ### a def that is known, and a def that keeps a promise -/
def Df (K : PySem.W.Frag) (mg : Str → Option Value) (x : Str) (st : Stmt) (ps : List Str) : Prop :=
  ∃ f fd, Fun K x x st f fd ∧ mg x = some (.ref f) ∧ Binds K fd ps []
def Kn (P : Program) (w : World) (K : PySem.W.Frag) (mg : Str → Option Value) (base : Heap) (cx : CXT) (x : Str) (k : Nat) (ps : List Str) (sp : Sp) : Prop :=
  ∃ f fd, FnOk P w K mg base cx k f fd ps sp ∧ mg x = some (.ref f) ∧ PySem.W.keepIn K (.ref f) = true ∧ Binds K fd ps []
/-! ### the box of draws: a list of a list, a number, a list, a number -/
def bl (g : Addr) (cur : Int) (c : Addr) (m : Int) : List V := [.ref g, .int cur, .ref c, .int m]
structure BoxIs (H : Hp) (b g c : Addr) (gs cs : List Int) (cur m : Int) : Prop where
  hb : H b = some (.lst (bl g cur c m))
  hg : H g = some (.lst (gs.map V.int))
  hc : H c = some (.lst (cs.map V.int))
  bg : b ≠ g
  bc : b ≠ c
  gc : g ≠ c
  m0 : 0 ≤ m
  lg : gs.length ≤ 63
  lc : cs.length ≤ 63
/-- a box from which at most n numbers have been drawn -/
def Box (H : Hp) (b g c : Addr) (n : Nat) : Prop := ∃ gs cs cur m, BoxIs H b g c gs cs cur m ∧ m ≤ (n : Int)
/-- all but the box's two objects is as it was -/
def But (b g : Addr) (H H' : Hp) : Prop := ∀ a o, H a = some o → a ≠ b → a ≠ g → H' a = some o
theorem But.refl (b g : Addr) (H : Hp) : But b g H H := fun _ _ h _ _ => h
theorem But.trans {b g : Addr} {H H1 H2 : Hp} (x : But b g H H1) (y : But b g H1 H2) : But b g H H2 := fun a o h h1 h2 => y a o (x a o h h1 h2) h1 h2
theorem But.of {b g : Addr} {H H' : Hp} (x : Same H H') : But b g H H' := fun a o h _ _ => x a o h
theorem But.updb {b g : Addr} {H : Hp} {o : HO} : But b g H (upd H b o) := fun a o' h h1 _ => by rw [upd_ne h1]; exact h
theorem But.updg {b g : Addr} {H : Hp} {o : HO} : But b g H (upd H g o) := fun a o' h _ h1 => by rw [upd_ne h1]; exact h
theorem same_new {H : Hp} {p : Addr} (h : H p = none) (o : HO) : Same H (upd H p o) := fun b u q => by rw [upd_ne (ne_of_none q h)]; exact q
theorem Box.same {H H' : Hp} {b g c : Addr} {n : Nat} (x : Box H b g c n) (s : Same H H') : Box H' b g c n := by
  obtain ⟨gs, cs, cur, m, B, hm⟩ := x
  exact ⟨gs, cs, cur, m, ⟨s _ _ B.hb, s _ _ B.hg, s _ _ B.hc, B.bg, B.bc, B.gc, B.m0, B.lg, B.lc⟩, hm⟩
theorem Box.mono {H : Hp} {b g c : Addr} {n k : Nat} (x : Box H b g c n) (h : n ≤ k) : Box H b g c k := by
  obtain ⟨gs, cs, cur, m, B, hm⟩ := x
  exact ⟨gs, cs, cur, m, B, by omega⟩
theorem BoxIs.updb {H : Hp} {b g c : Addr} {gs cs : List Int} {cur m cur' m' : Int} (B : BoxIs H b g c gs cs cur m) (h : 0 ≤ m') : BoxIs (upd H b (.lst (bl g cur' c m'))) b g c gs cs cur' m' :=
  ⟨upd_same, by rw [upd_ne B.bg.symm]; exact B.hg, by rw [upd_ne B.bc.symm]; exact B.hc, B.bg, B.bc, B.gc, h, B.lg, B.lc⟩
theorem BoxIs.updg {H : Hp} {b g c : Addr} {gs cs gs' : List Int} {cur m : Int} (B : BoxIs H b g c gs cs cur m) (h : gs'.length ≤ 63) : BoxIs (upd H g (.lst (gs'.map V.int))) b g c gs' cs cur m :=
  ⟨by rw [upd_ne B.bg]; exact B.hb, upd_same, by rw [upd_ne B.gc.symm]; exact B.hc, B.bg, B.bc, B.gc, B.m0, h, B.lc⟩
theorem seqIx0 {n : Nat} : seqIndex? 0 (n + 1) = some 0 := by
  have h : ixN (n + 1) 0 = some 0 := by
    unfold ixN
    rw [if_pos (by decide), if_pos (by omega)]
    rfl
  exact (ixN_seq h).1
theorem gcd_fmod (u v : Int) : Int.gcd v (u.fmod v) = Int.gcd u v := by
  have e : u.fmod v = u - v * u.fdiv v := Int.fmod_def u v
  apply Nat.dvd_antisymm
  · have d1 : (Int.gcd v (u.fmod v) : Int) ∣ v := Int.gcd_dvd_left ..
    have d2 : (Int.gcd v (u.fmod v) : Int) ∣ u.fmod v := Int.gcd_dvd_right ..
    have d3 : (Int.gcd v (u.fmod v) : Int) ∣ u := by
      have d4 := Int.dvd_add d2 (Int.dvd_trans d1 (Int.dvd_mul_right v (u.fdiv v)))
      rw [show u.fmod v + v * u.fdiv v = u by omega] at d4
      exact d4
    exact Int.dvd_gcd d3 d1
  · have d1 : (Int.gcd u v : Int) ∣ u := Int.gcd_dvd_left ..
    have d2 : (Int.gcd u v : Int) ∣ v := Int.gcd_dvd_right ..
    refine Int.dvd_gcd d2 ?_
    rw [e]
    exact Int.dvd_sub d1 (Int.dvd_trans d2 (Int.dvd_mul_right v _))
theorem natAbs_fmod_lt {u v : Int} (h : v ≠ 0) : (u.fmod v).natAbs < v.natAbs := by
  rw [Int.fmod_eq_emod]
  have h1 := Int.emod_nonneg u h
  have h2 := Int.emod_lt u h
  split <;> omega
/-! ### promises -/
def spMixed : Sp := fun vs H Q _ => ∃ cell k : Int, vs = [.int cell, .int k] ∧ 0 ≤ k ∧ k < 2000000 ∧ ∀ r : Int, Q (.int r) H
def spTake : Sp := fun vs H Q _ => ∃ (b g c : Addr) (n : Nat) (size : Int), vs = [.ref b, .int size] ∧ Box H b g c n ∧ n < 1000000 ∧ 0 < size ∧ size.natAbs < 2 ^ 8000 ∧
  ∀ (r : Int) (H' : Hp), 0 ≤ r → r < size → Box H' b g c (n + 1) → But b g H H' → Q (.int r) H'
def spBox (K : PySem.W.Frag) : Sp := fun vs H Q _ => ∃ (a : Addr) (ns : List Int), vs = [.ref a] ∧ SqL K H a (ns.map V.int) ∧ ns.length ≤ 63 ∧
  ∀ (b g c : Addr) (H' : Hp), Box H' b g c 0 → Same H H' → H b = none → H g = none → H c = none → Q (.ref b) H'
def spShared : Sp := fun vs H Q _ => ∃ a b : Int, vs = [.int a, .int b] ∧ Q (.int (Int.gcd a b : Int)) H
section
variable {P : Program} {w : World} {K : PySem.W.Frag} {mg : Str → Option Value} {base : Heap}
theorem ok_mixed (D : Df K mg "_law_mixed" s_l_mixed ["_law_cell", "_law_k"]) : Kn P w K mg base CX0 "_law_mixed" 33 ["_law_cell", "_law_k"] spMixed := by
  obtain ⟨f, fd, F, hm, hb⟩ := D
  refine ⟨f, fd, F.ok sc_l_mixed (fun vs H Q E h => ?_) (fun cdv A outer s H vs Q E hr h => ?_), hm, F.kp, hb⟩
  · obtain ⟨cell, k, rfl, _⟩ := h
    rfl
  · obtain ⟨cell, k, rfl, k0, k1, q⟩ := h
    refine ⟨_, (pss_cons (ps_set (i := 2) sc_l_mixed.nd rfl (Or.inl rfl) (pe_op op_mod (pe_op op_powB (pe_op op_add (pe_op op_add (pe_op op_add (pe_op op_mod (pv 0) pe_int) (pe_op op_mul (pe_op op_mul pe_int (pv 1)) (pv 1))) (pe_op op_mul pe_int (pv 1))) pe_int) pe_int) pe_int))
      (pss_one (ps_ret (pe_op op_mod (pe_op op_add (pe_op op_mul (pv 2) pe_int) (pe_op op_mul pe_int (pv 1))) pe_int)))), ?_⟩
    have c0 : (0 : Int) ≤ cell % 2147483647 := Int.emod_nonneg _ (by decide)
    have c1 : cell % 2147483647 < 2147483647 := Int.emod_lt_of_pos _ (by decide)
    have kk : (0 : Int) ≤ 1009 * k * k ∧ 1009 * k * k ≤ 1009 * 2000000 * 2000000 := by
      have a1 : 0 ≤ 1009 * k := by omega
      have a2 : 1009 * k ≤ 1009 * 2000000 := by omega
      exact ⟨Int.mul_nonneg a1 k0, Int.mul_le_mul a2 (by omega) k0 (by omega)⟩
    refine ⟨_, rfl, _, _, rfl, rfl, (show (0 : Int) < 2147483647 by decide), _, rfl, _, _, rfl, rfl, .inl ⟨by decide, by decide⟩, _, rfl, _, _, rfl, rfl, .inl ⟨by omega, by omega⟩, _, _, rfl, rfl,
      _, rfl, _, _, rfl, rfl, .inl ⟨by decide, by decide⟩, _, _, rfl, rfl, _, _, rfl, rfl, _, _, rfl, rfl, ⟨by decide, ?_⟩, _, _, rfl, rfl, (show (0 : Int) < 2147483647 by decide), ?_⟩
    · generalize hz : cell % 2147483647 + 1009 * k * k + 48611 * k + 17 = z
      have z0 : 0 ≤ z := by omega
      have z1 : z < 2 ^ 64 := by omega
      have hb := intBits_le_64 (k := z) (by omega) z1
      have : (Builtin.Int.intBits z : Int) ≤ 64 := by omega
      omega
    · refine ⟨_, rfl, _, _, rfl, rfl, .inr ⟨by decide, by decide⟩, _, rfl, _, _, rfl, rfl, .inl ⟨by decide, by decide⟩, _, _, rfl, rfl, _, _, rfl, rfl, (show (0 : Int) < 1000000007 by decide), ?_⟩
      exact q _
theorem ok_take (T : Bt mg) (GM : Kn P w K mg base CX0 "_law_mixed" 33 ["_law_cell", "_law_k"] spMixed) (D : Df K mg "_law_take" s_l_take ["_law_box_here", "_law_size"]) :
    Kn P w K mg base CX0 "_law_take" 34 ["_law_box_here", "_law_size"] spTake := by
  obtain ⟨f, fd, F, hm, hb⟩ := D
  obtain ⟨f_l_mixed, fd_l_mixed, G_l_mixed, m_l_mixed, k_l_mixed, b_l_mixed⟩ := GM
  refine ⟨f, fd, F.ok sc_l_take (fun vs H Q E h => ?_) (fun cdv A outer s H vs Q E hr h => ?_), hm, F.kp, hb⟩
  · obtain ⟨b, g, c, n, size, rfl, _⟩ := h
    rfl
  · obtain ⟨b, g, c, n, size, rfl, ⟨gs, cs, cur, m, B, hmn⟩, hn, s0, sB, q⟩ := h
    refine ⟨_, (pss_cons (ps_asg (pe_op op_add (pe_ix ix_list (pv 0) pe_int (fun _ _ => rfl)) pe_int) (pg_sub (pv 0) pe_int set_list))
      (C8.pss_cut (ps_if (PW.pt (pw_and (pt_cmpR op_eq (pe_ix ix_list (pv 0) pe_int (fun _ _ => rfl)) pe_int (nomark _)) (pw_and1 (pt_cmpR op_gt (pe_callB call_len_seq (by rfl) T.n_len (by decide +kernel) (pa_cons (pe_ix ix_list (pv 0) pe_int (fun _ _ => rfl)) pa_nil)) pe_int (nomark _))))) (pss_one (ps_asg (pe_bm PySem.F.plainAttrs_list PySem.F.slot_list_pop PySem.F.type_list_pop mt_popAt (pe_ix ix_list (pv 0) pe_int (fun _ _ => rfl)) (pa_cons pe_int pa_nil)) (pg_sub (pv 0) pe_int set_list))) pss_nil)
      (pss_cons (ps_if (pt_cmpR op_gt (pe_ix ix_list (pv 0) pe_int (fun _ _ => rfl)) pe_int (nomark _)) (pss_cons (ps_set (i := 2) sc_l_take.nd rfl (Or.inl rfl) (pe_op op_mod (pe_ix ix_list (pv 0) pe_int (fun _ _ => rfl)) (pv 1)))
      (pss_cons (ps_asg (pe_op op_fdivW (pe_ix ix_list (pv 0) pe_int (fun _ _ => rfl)) (pv 1)) (pg_sub (pv 0) pe_int set_list))
      (pss_one (ps_ret (pv 2))))) pss_nil)
      (pss_cons (ps_set (i := 3) sc_l_take.nd rfl (Or.inl rfl) (pe_ix ix_list (pe_op op_cat (pe_ix ix_list (pv 0) pe_int (fun _ _ => rfl)) (pe_lst (pa_cons (pe_op op_mul pe_int (pe_ix ix_list (pv 0) pe_int (fun _ _ => rfl))) pa_nil))) (pe_op op_mod (pe_ix ix_list (pv 0) pe_int (fun _ _ => rfl)) (pe_callB (call_max2 rfl) (by rfl) T.n_max (by decide +kernel) (pa_cons pe_int (pa_cons (pe_callB call_len_seq (by rfl) T.n_len (by decide +kernel) (pa_cons (pe_ix ix_list (pv 0) pe_int (fun _ _ => rfl)) pa_nil)) pa_nil)))) (fun _ _ => rfl)))
      (pss_cons (ps_set (i := 2) sc_l_take.nd rfl (Or.inl rfl) pe_int)
      (pss_cons (ps_set (i := 4) sc_l_take.nd rfl (Or.inl rfl) pe_int)
      (pss_cons (ps_while PassesOwn.never (pt_cmpR op_lt (pv 4) (pv 1) (nomark _)) (pss_cons (ps_set (i := 2) sc_l_take.nd rfl (Or.inl rfl) (pe_op op_add (pe_op op_mul (pv 2) pe_int) (pe_call G_l_mixed (hr.mono (by omega)) rfl m_l_mixed k_l_mixed b_l_mixed .nil pass0 (pa_cons (pv 3) (pa_cons (pe_op op_add (pe_ix ix_list (pv 0) pe_int (fun _ _ => rfl)) (pe_op op_mul pe_int (pe_op op_mod (pv 2) pe_int))) pa_nil)))))
      (pss_one (ps_set (i := 4) sc_l_take.nd rfl (Or.inl rfl) (pe_op op_mul (pv 4) pe_int)))))
      (pss_one (ps_ret (pe_op op_mod (pv 2) (pv 1))))))))))), ?_⟩
    have m0 := B.m0
    -- box[3] = box[3] + 1
    refine ⟨_, rfl, b, _, _, .int m, rfl, rfl, SqL.of B.hb, rfl, _, _, rfl, rfl, _, rfl, b, _, _, 3, rfl, rfl, B.hb, rfl, ?_⟩
    have B1 : BoxIs (upd H b (.lst (bl g cur c (m + 1)))) b g c gs cs cur (m + 1) := B.updb (by omega)
    refine ⟨fun σ H2 => σ = start ["_law_box_here", "_law_size", "_law_found", "_law_cell", "_law_reach"] [.ref b, .int size] ∧ But b g H H2 ∧ ∃ gs2 cur2, BoxIs H2 b g c gs2 cs cur2 (m + 1), ?_, ?_⟩
    · -- if box[1] == 0 and len(box[0]) > 0: box[1] = box[0].pop(0)
      refine ⟨_, rfl, b, _, _, .int cur, rfl, rfl, SqL.of B1.hb, rfl, rfl, _, rfl, ?_⟩
      refine ite2 (fun h => ?_) (fun h => ?_)
      · refine ⟨_, rfl, b, _, _, .ref g, rfl, rfl, SqL.of B1.hb, rfl, g, _, rfl, .inl (SqL.of B1.hg), _, _, rfl, rfl, _, rfl, ?_⟩
        refine ite2 (fun h2 => ?_) (fun h2 => ?_)
        · have h3 : (0 : Int) < ((gs.map V.int).length : Nat) := of_decide_eq_true h2
          rw [List.length_map] at h3
          obtain ⟨z, gr, rfl⟩ : ∃ z gr, gs = z :: gr := by
            cases gs with
            | nil => exact absurd h3 (by decide)
            | cons z gr => exact ⟨z, gr, rfl⟩
          have lg := B.lg
          refine ⟨_, rfl, b, _, _, .ref g, rfl, rfl, SqL.of B1.hb, rfl, .inl ⟨rfl, _, SqL.of B1.hg⟩, g, _, 0, 0, .int z, rfl, rfl, B1.hg, by decide, by decide, seqIx0, rfl, ?_⟩
          have B2 : BoxIs (upd (upd H b (.lst (bl g cur c (m + 1)))) g (.lst (gr.map V.int))) b g c gr cs cur (m + 1) := B1.updg (by rw [List.length_cons] at lg; omega)
          refine ⟨_, rfl, b, _, _, 1, rfl, rfl, B2.hb, rfl, ?_⟩
          exact ⟨rfl, (But.updb.trans But.updg).trans But.updb, gr, z, B2.updb (by omega)⟩
        · exact ⟨rfl, But.updb, gs, cur, B1⟩
      · exact ⟨rfl, But.updb, gs, cur, B1⟩
    · rintro σ H2 ⟨rfl, hbut, gs2, cur2, B2⟩
      -- if box[1] > 0
      refine ⟨_, rfl, b, _, _, .int cur2, rfl, rfl, SqL.of B2.hb, rfl, _, _, rfl, rfl, _, rfl, ?_⟩
      refine ite2 (fun h => ?_) (fun h => ?_)
      · refine ⟨_, rfl, b, _, _, .int cur2, rfl, rfl, SqL.of B2.hb, rfl, _, rfl, _, _, rfl, rfl, s0, ?_⟩
        refine ⟨_, rfl, b, _, _, .int cur2, rfl, rfl, SqL.of B2.hb, rfl, _, rfl, _, _, rfl, rfl, wide_div s0 sB (by decide) (by decide), ?_⟩
        refine ⟨_, rfl, b, _, _, 1, rfl, rfl, B2.hb, rfl, ?_⟩
        refine ⟨_, rfl, ?_⟩
        exact q _ _ (Int.emod_nonneg _ (by omega)) (Int.emod_lt_of_pos _ s0) ⟨gs2, cs, _, _, B2.updb (by omega), by omega⟩ (hbut.trans But.updb)
      · -- cell = (box[2] + [7 * box[3]])[box[3] % max(1, len(box[2]))]
        refine ⟨_, rfl, b, _, _, .ref c, rfl, rfl, SqL.of B2.hb, rfl, _, rfl, b, _, _, .int (m + 1), rfl, rfl, SqL.of B2.hb, rfl, _, _, rfl, rfl, .inl ⟨by decide, by decide⟩, (by show 1 ≤ sizeLine; decide), fun p np => ?_⟩
        have s1 := same_new np (.lst [.int (7 * (m + 1))])
        have lc := B.lc
        refine ⟨c, p, _, _, rfl, rfl, s1 _ _ B2.hc, upd_same, (by rw [List.length_map]; show cs.length + 1 ≤ sizeLine; exact Nat.le_of_lt (small1000 (by omega))), fun p2 np2 => ?_⟩
        have s2 := s1.trans (same_new np2 (.lst (cs.map V.int ++ [.int (7 * (m + 1))])))
        refine ⟨_, rfl, b, _, _, .int (m + 1), rfl, rfl, SqL.of (s2 _ _ B2.hb), rfl, _, rfl, b, _, _, .ref c, rfl, rfl, SqL.of (s2 _ _ B2.hb), rfl, c, _, rfl, .inl (SqL.of (s2 _ _ B2.hc)), _, _, rfl, ?_⟩
        have hmx : ((cs.map V.int).length : Int) = cs.length := by rw [List.length_map]
        rw [hmx]
        generalize hM : (if (cs.length : Int) > 1 then (cs.length : Int) else 1) = M
        have M0 : 0 < M := by split at hM <;> omega
        have M1 : M ≤ cs.length + 1 := by split at hM <;> omega
        refine ⟨_, _, rfl, rfl, M0, ?_⟩
        have i0 := Int.emod_nonneg (m + 1) (show M ≠ 0 by omega)
        have i1 := Int.emod_lt_of_pos (m + 1) M0
        obtain ⟨v, hv⟩ : ∃ v : Int, atI (cs.map V.int ++ [.int (7 * (m + 1))]) ((m + 1) % M) = some (.int v) := by
          generalize (m + 1) % M = j at i0 i1
          obtain ⟨k, rfl⟩ : ∃ k : Nat, j = (k : Int) := ⟨j.toNat, by omega⟩
          by_cases hk : k < cs.length
          · exact ⟨cs[k], atI_nat (by rw [List.getElem?_append_left (by rw [List.length_map]; exact hk), List.getElem?_map, List.getElem?_eq_getElem hk]; rfl)⟩
          · have ek : k = cs.length := by omega
            subst ek
            exact ⟨7 * (m + 1), atI_nat (by rw [List.getElem?_append_right (by rw [List.length_map]; exact Nat.le_refl _), List.length_map, Nat.sub_self]; rfl)⟩
        refine ⟨p2, _, _, .int v, rfl, rfl, SqL.of upd_same, hv, ?_⟩
        generalize hH3 : upd (upd H2 p (.lst [.int (7 * (m + 1))])) p2 (.lst (cs.map V.int ++ [.int (7 * (m + 1))])) = H3
        rw [hH3] at s2
        have hb3 : H3 b = some (.lst (bl g cur2 c (m + 1))) := s2 _ _ B2.hb
        -- found = 0; reach = 1; while ..
        refine while_by (fun σ H' => H' = H3 ∧ ∃ u v' : Int, σ = [some (.ref b), some (.int size), some (.int u), some (.int v), some (.int v')] ∧ 1 ≤ v') (fun σ _ => match σ with | [_, _, _, _, some (.int v')] => (size - v').toNat | _ => 0) ⟨rfl, 0, 1, rfl, by decide⟩ ?_ ?_
        · rintro σ H' ⟨rfl, u, v', rfl, hv'⟩
          refine ⟨_, rfl, _, rfl, _, _, rfl, rfl, _, rfl, ?_⟩
          refine ite2 (fun c => ?_) (fun c => ?_)
          · have hlt : v' < size := of_decide_eq_true c
            refine ⟨_, rfl, _, _, rfl, rfl, .inr ⟨by decide, by decide⟩, _, rfl, _, rfl, b, _, _, .int (m + 1), rfl, rfl, SqL.of hb3, rfl, _, rfl, _, _, rfl, rfl, (show (0 : Int) < 89 by decide), _, _, rfl, rfl, .inl ⟨by decide, by decide⟩, _, _, rfl, rfl, ?_⟩
            have f0 := Int.emod_nonneg u (show (89 : Int) ≠ 0 by decide)
            have f1 := Int.emod_lt_of_pos u (show (0 : Int) < 89 by decide)
            refine ⟨_, _, rfl, by omega, by omega, fun r => ?_⟩
            refine ⟨_, _, rfl, rfl, ?_⟩
            refine ⟨_, rfl, _, _, rfl, rfl, .inr ⟨by decide, by decide⟩, ⟨rfl, _, _, rfl, by omega⟩, ?_⟩
            show (size - v' * 1000000007).toNat < (size - v').toNat
            omega
          · refine ⟨_, rfl, _, rfl, _, _, rfl, rfl, s0, ?_⟩
            exact q _ _ (Int.emod_nonneg _ (by omega)) (Int.emod_lt_of_pos _ s0) ⟨gs2, cs, cur2, m + 1, ⟨hb3, s2 _ _ B2.hg, s2 _ _ B2.hc, B2.bg, B2.bc, B2.gc, B2.m0, B2.lg, B2.lc⟩, by omega⟩ (hbut.trans (But.of s2))
        · intro σ H' Q1 Q2 hq h
          obtain ⟨v, h1, v2, h2, i, j, e1, e2, k, e3, h3⟩ := h
          exact ⟨v, h1, v2, h2, i, j, e1, e2, k, e3, hq _ _ h3⟩
end

/-! ### isinstance of a caught error whose own dict stands (or that has none) -/
open PySem.W PySem.Calls PyProof.Rows in
theorem class_of_err {prog : Program} {w : World} {A : Around} {Bad : Value → Shared → Prop} {s : Shared} {K : PySem.W.Frag} {e D : Addr} {oe : Obj} {own : Option Obj} {Want : Option Value → Shared → Prop} (cc : L2.ExcC K D)
    (KI : K.In s.heap) (J : InstAt s.heap e oe D own) (q : Want (some (.ref D)) { s with toks := s.toks + 1 }) : wpAny (model prog w) A (getAttr? (.ref e) "__class__") Want Bad s := by
  have found : findObj K D own "__class__" = some (.bind (.builtin "getset_descriptor.__get__") (.builtin "object.__class__")) := by
    obtain ⟨cd, e0, _⟩ := any_some cc.hd
    unfold findObj
    rw [e0, Option.bind_some, cc.ha, Option.bind_some]
    simp [cc.hn, cc.ht]
  obtain ⟨hp, gs, dr, tk, osx⟩ := s
  have k1 := J.type (M := model prog w)
  have k2 := looks_findIn (M := model prog w) KI cc.hg
  have k3 := looks_findIn (M := model prog w) KI cc.hk
  have k4 := looks_find (M := model prog w) KI J found
  have isB : Looks (model prog w) hp (isInstance (.ref e) (.type "BaseException")) true := k1.andThen (looks_subIn KI cc.hs)
  have n1 : (false && onTheHeap (Value.builtin "BaseException.__getattribute__")) = false := rfl
  have n2 : (onTheHeap (Value.ref D) && Value.builtin "BaseException.__getattribute__" == Value.builtin "object.__getattribute__") = false := by
    rw [show (Value.builtin "BaseException.__getattribute__" == Value.builtin "object.__getattribute__") = false by decide +kernel]
    rfl
  unfold getAttr? getAttrBy? getAttrBy
  refine wpAny_bind (wpAny_mkText (wpAny_bind (wpAny_attempt (wpAny_holding (wpAny_bind (k1.at (wpAny_bind (k2.at ?_))))))))
  show wpAny _ _ (if (onTheHeap (Value.ref D) && Value.builtin "BaseException.__getattribute__" == Value.builtin "object.__getattribute__") = true then _ else _) _ _ _
  rw [n2, if_neg Bool.false_ne_true]
  unfold getAttrByItsOwn hookBefore
  refine wpAny_bind ?_
  rw [if_pos (show onTheHeap (Value.ref D) = true from rfl)]
  refine k3.at (wpAny_bind (wpAny_attempt (wpAny_holding ?_)))
  unfold callGetattribute
  rw [n1, if_neg Bool.false_ne_true]
  unfold boundAndCalled
  rw [PySem.F.excAttr_ValueError.ga.bind (.ref e)]
  refine wpAny_bind (wpAny_pure ?_)
  show wpAny _ _ (call (.builtin "BaseException.__getattribute__") [.ref e, .str "__class__" tk]) _ _ _
  refine wpAny_call (codeAny_call_builtin PySem.F.excAttr_ValueError.ga.plain PySem.F.entry_bexc_ga ?_)
  refine @check_slot (model prog w) _ _ ⟨hp, gs, dr, tk + 1, osx⟩ "BaseException.__getattribute__" "BaseException" "__getattribute__" (.ref e) [.str "__class__" tk] [] _ (by decide +kernel) (by decide +kernel) isB (PySem.F.args_bexc_ga (.ref e) (.str "__class__" tk)) ?_
  unfold Builtin.«object.__getattribute__»
  refine wpAny_bind (wpAny_of_eq (a := ((Value.ref e : Value), [Value.str "__class__" tk])) (by first | rfl | (simp only [slotArgs]; rfl)) ?_)
  refine wpAny_bind (wpAny_pure (wpAny_bind (k1.at (wpAny_bind (k4.at ?_)))))
  show wpAny _ _ (holding [Value.builtin "object.__class__"] (call (.builtin "getset_descriptor.__get__") [.builtin "object.__class__", .ref e, .ref D]) >>= ret) _ _ _
  refine wpAny_bind (wpAny_holding (wpAny_call (class_get (s := ⟨hp, gs, dr, tk + 1, osx⟩) (ox := oe) (od := own) KI J cc.hm ?_)))
  refine wpAny_pure ?_
  show wpAny _ _ (handedOut (.ref D)) _ _ _
  rw [handedOut_of (v := .ref D) rfl]
  first
    | exact wpAny_pure (wpAny_pure q)
    | exact wpAny_pure q
    | exact wpAny_pure (wpAny_bind (wpAny_pure (wpAny_pure q)))
open PySem.W in
theorem kit_err {K : PySem.W.Frag} {e D : Addr} {oe : Obj} {own : Option Obj} (cc : L2.ExcC K D) : KitX K (.ref e) (.ref D) (fun h => InstAt h e oe D own) where
  ty := fun _ _ _ J => J.type
  it := fun _ _ KI _ => by
    obtain ⟨cd, e0, _⟩ := any_some cc.hd
    unfold clsIn at e0
    split at e0
    · rename_i _ _ _ _ at0
      intro _ _ _ _ kk qq
      unfold isType loadHead
      exact wpAny_bind (wpAny_loadPart (kk _ _ (KI _ _ at0)) (wpAny_pure qq))
    · cases e0
  ne := fun h tp dd its n sl KI htp => by
    obtain ⟨cd, e0, _⟩ := any_some cc.hd
    refine Bool.eq_false_iff.mpr fun z => ?_
    have same : D = tp := Value.ref.inj (beq_iff_eq.mp z)
    subst same
    unfold clsIn at e0
    split at e0
    · rename_i _ _ _ _ at0
      have z2 := (KI _ _ at0).symm.trans htp
      cases z2
    · cases e0
  ca := fun KI J kk => class_of_err cc KI J kk
def rIsErr (K : PySem.W.Frag) (D a : Addr) (cls : Value) (d : Option Addr) : List V → Hp → VK → Prop := fun xs H Q => ∃ (c : V) (cv : Value) (b : Bool), xs = [.ref a, c] ∧ cls = .ref D ∧ ClsV c cv ∧ PySem.W.kitOne K (.ref D) cv = some b ∧
  (d = none ∨ ∃ dd fs, d = some dd ∧ H dd = some (.xd fs)) ∧ Q (.bl b) H
theorem call_isErr {X : Cx} {a D : Addr} {oe : Obj} {cls : Value} {d : Option Addr} {pn : List (Addr × Obj)} (cc : ExcC X.K D) (hz : Zc cls d oe) (hf : ∃ vs, oe.data = .fields vs) : CallR (X.suite a ((a, oe) :: pn)) (.builtin "isinstance") (rIsErr X.K D a cls d) := by
  intro pins s σ H xs us Q I r h
  obtain ⟨c, cv, b, rfl, rfl, hcv, e, hd, q⟩ := h
  obtain ⟨u1, u2, rfl, r1, r2⟩ := vals2 r
  cases (show u1 = Value.ref a from r1)
  have e2 := hcv.eq r2
  subst e2
  obtain ⟨at0, _⟩ := I.pin (a, oe) (List.mem_append.mpr (.inl List.mem_cons_self))
  obtain ⟨vs, hv⟩ := hf
  have J : ∃ own, PySem.W.InstAt s.heap a oe D own := by
    rcases hd with rfl | ⟨dd, fs, rfl, hx⟩
    · exact ⟨none, at0, hz.1, by unfold PySem.W.notCls; rw [hv] <;> rfl, by rw [hz.2]; exact True.intro⟩
    · have hx2 : ObjOk X.prog X.w H s.heap dd (.xd fs) := I.hok dd _ hx
      obtain ⟨mA, hns, hr⟩ := hx2
      obtain ⟨od, ho, hl⟩ := lookIn_ns hns
      exact ⟨some od, at0, hz.1, by unfold PySem.W.notCls; rw [hv] <;> rfl, by rw [hz.2]; exact ho⟩
  obtain ⟨own, J⟩ := J
  exact PySem.W.kia_one (kit_err cc) I.kIn J e (fun z => nomatch z) fun tk => ⟨.bl b, H, I.kept (t' := tk) fun _ _ z => z, rfl, q⟩

/-! ### data of any depth -/
def tyN : PyData → String
  | .none => "NoneType" | .bool _ => "bool" | .int _ => "int" | .str _ => "str" | .list _ => "list" | .tuple _ => "tuple" | .dict _ => "dict"
theorem dp_ty {K : PySem.W.Frag} {H : Hp} {v : V} {d : PyData} (h : Dp K H v d) : TyX K H v (.type (tyN d)) := by
  cases h with
  | non => exact .base .non
  | bl b => exact .base (.bl b)
  | int i => exact .base (.int i)
  | str x => exact .base (.str x)
  | lst hs _ =>
    rcases hs with (h | ⟨o, h⟩) | ⟨o, its, n, e, c, _⟩
    · exact .base (.lst h)
    · exact .base (.frz h)
    · exact .kList e c
  | tup hs _ =>
    rcases hs with (h | ⟨o, h⟩) | ⟨o, its, n, e, c, _⟩
    · exact .base (.tup h)
    · exact .fTuple h
    · exact .kTuple e c
theorem cr_isi {X : Cx} {K : PySem.W.Frag} (h : X.K = K) : CallR X (.builtin "isinstance") (rIsi K) := by
  subst h
  exact call_isi
theorem cr_isiT {X : Cx} {K : PySem.W.Frag} (h : X.K = K) : CallR X (.builtin "isinstance") (rIsiT K) := by
  subst h
  exact call_isiT
theorem pg_tupK {X : Cx} {K : PySem.W.Frag} {es : List Expr} {k n : Nat} {pos : Pos} {t : TGs} (hK : X.K = K) (hc : X.calm = true) (h : PGs X es t) (hn : (assignEach es X.env).length = n) (hst : (assignEach es X.env).findIdx? (·.1) = none) : PG X (.Tuple es k pos) (gTup K n t) := by
  subst hK
  exact pg_tup hc h hn hst
theorem walk_zipT {K : PySem.W.Frag} {a b : Addr} {xs ys : List V} {n : Nat} (ex : n = xs.length) (ey : n = ys.length) : Walk (RZ.ItzT K a b) n (fun H => SqT K H a xs ∧ SqT K H b ys) (YPair (fun i => xs[i]?) (fun i => ys[i]?)) where
  goes := fun i _ hi q => ⟨xs, ys, xs[i]'(by omega), ys[i]'(by omega), q.1, q.2, List.getElem?_eq_getElem _, List.getElem?_eq_getElem _⟩
  stops := fun _ q => ⟨xs, ys, q.1, q.2, by omega⟩
  yields := fun i H v H' _ q y => by
    obtain ⟨T, x, z, h1, h2, h3, h4, h5⟩ := y
    exact ⟨T, x, z, h1, h2, h3, h4 xs q.1, h5 ys q.2⟩
theorem isi_of {K : PySem.W.Frag} {H : Hp} {v : V} {d : PyData} {T : String} {r : Bool} {Q : VK} (h : Dp K H v d) (e : kitB (tyN d) T = some r) (q : Q (.bl r) H) : rIsi K [v, .ty T] H Q :=
  ⟨v, .ty T, _, _, r, rfl, .ty T, dp_ty h, kit_ty e, q⟩
def isInt : PyData → Bool | .int _ => true | .bool _ => true | _ => false
def isBool : PyData → Bool | .bool _ => true | _ => false
def isTup : PyData → Bool | .tuple _ => true | _ => false
def isLst : PyData → Bool | .list _ => true | _ => false
def isStr : PyData → Bool | .str _ => true | _ => false
theorem kb_int (d : PyData) : kitB (tyN d) "int" = some (isInt d) := by cases d <;> (dsimp only [tyN, isInt]; decide +kernel)
theorem kb_bool (d : PyData) : kitB (tyN d) "bool" = some (isBool d) := by cases d <;> (dsimp only [tyN, isBool]; decide +kernel)
theorem kb_tup (d : PyData) : kitB (tyN d) "tuple" = some (isTup d) := by cases d <;> (dsimp only [tyN, isTup]; decide +kernel)
theorem kb_lst (d : PyData) : kitB (tyN d) "list" = some (isLst d) := by cases d <;> (dsimp only [tyN, isLst]; decide +kernel)
theorem kb_str (d : PyData) : kitB (tyN d) "str" = some (isStr d) := by cases d <;> (dsimp only [tyN, isStr]; decide +kernel)
theorem same_seqT {K : PySem.W.Frag} {H H' : Hp} {a : Addr} {xs : List V} (e : Same H H') (h : SqT K H a xs) : SqT K H' a xs := by
  rcases h with (h | ⟨o, h⟩) | h
  · exact .inl (.inl (e _ _ h))
  · exact .inl (.inr ⟨o, e _ _ h⟩)
  · exact .inr h
mutual
theorem dp_same {K : PySem.W.Frag} {H H' : Hp} (s : Same H H') : ∀ (d : PyData) (v : V), Dp K H v d → Dp K H' v d
  | .none, _, h => by cases h; exact .non
  | .bool b, _, h => by cases h; exact .bl b
  | .int i, _, h => by cases h; exact .int i
  | .str x, _, h => by cases h; exact .str x
  | .list ds, _, h => by
    cases h with
    | lst hs ha => exact .lst (s.seq hs) (dps_same s ds _ ha)
  | .tuple ds, _, h => by
    cases h with
    | tup hs ha => exact .tup (same_seqT s hs) (dps_same s ds _ ha)
  | .dict _, _, h => by cases h
theorem dps_same {K : PySem.W.Frag} {H H' : Hp} (s : Same H H') : ∀ (ds : List PyData) (vs : List V), DpAll K H vs ds → DpAll K H' vs ds
  | [], _, h => by cases h; exact .nil
  | d :: ds, _, h => by
    cases h with
    | cons h1 h2 => exact .cons (dp_same s d _ h1) (dps_same s ds _ h2)
end
theorem dps_len {K : PySem.W.Frag} {H : Hp} : ∀ {vs : List V} {ds : List PyData}, DpAll K H vs ds → vs.length = ds.length
  | _, _, .nil => rfl
  | _, _, .cons _ t => congrArg (· + 1) (dps_len t)
theorem dps_get {K : PySem.W.Frag} {H : Hp} : ∀ {vs : List V} {ds : List PyData} {i : Nat} {v : V}, DpAll K H vs ds → vs[i]? = some v → ∃ d, ds[i]? = some d ∧ Dp K H v d
  | [], _, i, v, _, h => by simp at h
  | x :: vs, ds, 0, v, a, h => by
    cases a with
    | cons h1 t =>
      have e : x = v := Option.some.inj h
      rw [← e]
      exact ⟨_, rfl, h1⟩
  | x :: vs, ds, i + 1, v, a, h => by
    cases a with
    | cons h1 t => exact dps_get (i := i) t h
/-- the ratio that a value is; the number that it stands for -/
def intOf : PyData → Option Int | .int i => some i | _ => none
def rat2 : List PyData → Option (Int × Int)
  | [a, b] => (match intOf a with
    | some t => (match intOf b with
      | some m => if 1 ≤ m ∧ Int.gcd t m = 1 then some (t, m) else none
      | none => none)
    | none => none)
  | _ => none
def ratOf : PyData → Option (Int × Int)
  | .tuple ds => rat2 ds
  | _ => none
def numOf : PyData → Option (Int × Int)
  | .int i => some (i, 1)
  | d => ratOf d
def isRat (d : PyData) : Bool := (ratOf d).isSome
def wholeD : PyData → Bool | .int _ => true | _ => false
def rat (t m : Int) : PyData := .tuple [.int t, .int m]
theorem dp_rat {K : PySem.W.Frag} {H : Hp} {p : Addr} {t m : Int} (h : H p = some (.tup [.int t, .int m])) : Dp K H (.ref p) (rat t m) := .tup (SqT.of h) (.cons (.int t) (.cons (.int m) .nil))
def spD (K : PySem.W.Frag) (f : PyData → Bool) : Sp := fun vs H Q _ => ∃ (v : V) (d : PyData), vs = [v] ∧ Dp K H v d ∧ ∀ H', Same H H' → Q (.bl (f d)) H'
theorem Kn.mono {P : Program} {w : World} {K : PySem.W.Frag} {mg : Str → Option Value} {base : Heap} {cx : CXT} {x : Str} {j k : Nat} {ps : List Str} {sp : Sp} (h : Kn P w K mg base cx x j ps sp) (l : j ≤ k) : Kn P w K mg base cx x k ps sp := by
  obtain ⟨f, fd, F, a, b, c⟩ := h
  exact ⟨f, fd, F.mono l, a, b, c⟩

/-! ### // without a bound: what the start-up left, the frame that runs, the room -/
structure Sr (P : Program) (base : Heap) : Prop where
  tree : P.given.tree = none
  seer : base.NoSeer
theorem op_fdivAny {X : Cx} (S : Sr X.prog X.base) (hs : X.stack = X.env :: X.outer) (hg : X.env.scope.isGenerator = false) (hco : X.env.scope.isCoroutine = false) (hr : Room 32 X.A) : OpR X (binaryOp .FloorDiv) (rI (fun _ j => j ≠ 0) fun i j => .int (i.fdiv j)) := by
  intro pins s σ H x y v u Q I rx ry h
  obtain ⟨i, j, rfl, rfl, hc, q⟩ := h
  obtain ⟨t, rfl⟩ := rx
  obtain ⟨t', rfl⟩ := ry
  have old : ∀ b o, X.base.get? b = some o → s.heap.get? b = some o := fun b o e => (I.bs b o e).1
  have dp := hr.dp
  refine PyProof.Rows.floordiv_int hc ⟨.int (i.fdiv j), H, I.tok _, ⟨_, rfl⟩, q⟩ (.inr (PySem.PylongRoom.of (I.ok.mod.nolimit.keeps old) ?_ (PySem.SeerAt.of (l := X.outer) (S.seer.keeps old) S.tree (I.ok.frames.trans (congrArg some hs)) hg hco I.ok.blt I.ok.glob)))
  have e1 : recursionLimit = 1000 := rfl
  have e2 : Builtin.pylongFrames = 100 := rfl
  omega
/-- * of two factors of together less than a hundred million bits -/
def CMulV (i j : Int) : Prop := i.natAbs.log2 + j.natAbs.log2 < 100000000
theorem op_mulV {X : Cx} : OpR X (binaryOp .Mult) (rI CMulV fun i j => .int (i * j)) := opI fun i j _ _ _ _ _ hc q => PyProof.Rows.mul_int q (by
  have b : ∀ x : Int, Builtin.Int.intBits x ≤ x.natAbs.log2 + 1 := fun x => by
    unfold Builtin.Int.intBits
    split <;> omega
  have h1 := b i
  have h2 := b j
  have h3 : i.natAbs.log2 + j.natAbs.log2 < 100000000 := hc
  have e : bitsLine = 134217728 := by decide
  unfold IntMulOk
  intro z
  rw [Bool.and_eq_true] at z
  have z2 := z.2
  unfold Builtin.Int.intTooBig at z2
  have z3 := of_decide_eq_true z2
  rw [e] at z3
  omega)
theorem mulV_of {i j : Int} {a b : Nat} (ha : i.natAbs < 2 ^ a) (hb : j.natAbs < 2 ^ b) (h0 : 0 < a) (h1 : 0 < b) (h : a + b ≤ 100000000) : CMulV i j := by
  have x := PySem.Flt.log2_lt_of h0 ha
  have y := PySem.Flt.log2_lt_of h1 hb
  unfold CMulV
  omega
theorem small1e5 {n : Nat} (h : n ≤ 100000) : n < sizeLine := Nat.lt_of_le_of_lt h (by decide)

/-! ### the program's ratios -/
def CDivWN (_ j : Int) : Prop := j ≠ 0 ∧ j.natAbs.log2 < 9000
theorem op_fdivWN {X : Cx} : OpR X (binaryOp .FloorDiv) (rI CDivWN fun i j => .int (i.fdiv j)) := opI fun _ _ _ _ _ _ _ hc q => PyProof.Rows.floordiv_int hc.1 q (.inl (PyProof.noPylong_of_log2 hc.2))
/-- X() of an own exception class without __init__ -/
theorem pmk_own0 {X : Cx} {C : Addr} {bmB : List Value} {B newId initId : String} {x : Str} {p pos : Pos} (F : ExcBaseFacts B newId initId bmB) (xP : PySem.W.excIn X.K C bmB newId = true) (gP : X.mg x = some (.ref C))
    (kP : PySem.W.keepIn X.K (.ref C) = true) (rP : Raises X (.ref C)) (hg : Gl X x) (hdb : (x == ("__debug__" : Str)) = false := by decide) : PMk X (.Call (.Name x p) [] [] pos) (fun _ H Q => Q (.ref C) none H) := by
  intro pins s σ H Q I want
  refine wpAny_Call_Name_kw (ld_glob I hg gP ?_ hdb)
  refine PySem.W.callWith_K0 I.kIn kP ?_
  show wpAny _ _ (call (.ref C) []) _ _ _
  obtain ⟨bm, N, nm, qn, bs, hdct, sn, sub, ab, col, dd, k0, k1, k2, k3, k5, mN, at0, hN, hni, T⟩ := exc_obj I.kIn xP
  refine wpAny_call_exc_subT F T at0 hN hni (fun h' e made => ?_) (Nat.zero_le _)
  exact mk_of I made rP want (I.hok.gone made.new)
/-- an error class with one field: what is known of it -/
def spErrInit (C : Addr) (fld : Str) : Sp := fun vs H Q _ => ∃ (e : Addr) (v : V), vs = [.ref e, v] ∧ H e = some (exo e C none) ∧ ∀ dx, H dx = none → dx ≠ e → Q .non (upd (upd H dx (exd dx [(fld, v)])) e (exo e C (some dx)))
structure ErrF (P : Program) (w : World) (K : PySem.W.Frag) (mg : Str → Option Value) (base : Heap) (x fld : Str) (C : Addr) : Prop where
  gC : mg x = some (.ref C)
  ox : OexC K C
  xf : XfC K C
  no : PySem.W.findIn K (.ref C) fld = some none
  ec : ExcC K C
  ex : PySem.W.exmOne K (.ref C) (.ref C) = some true
  ini : ∃ fI fdI, PySem.W.findIn K (.ref C) "__init__" = some (some (.ref fI)) ∧ PySem.W.typeIn K (.ref fI) = some (.type "function") ∧ FnOk P w K mg base CX0 1 fI fdI ["self", fld] (spErrInit C fld) ∧ Binds K fdI ["self", fld] []
/-- an error class without fields -/
structure ErrZ (K : PySem.W.Frag) (mg : Str → Option Value) (x : Str) (C : Addr) : Prop where
  gP : mg x = some (.ref C)
  xP : PySem.W.excIn K C [.type "ValueError", .type "Exception", .type "BaseException", .type "object"] "ValueError.__new__" = true
  kP : PySem.W.keepIn K (.ref C) = true
  bP : PySem.W.subIn K (.ref C) (.type "BaseException") = some true
  tP : PySem.W.typeIn K (.ref C) = some (.type "type")
  ec : ExcC K C
  ex : PySem.W.exmOne K (.ref C) (.ref C) = some true
/-- a def with one default, 1 -/
def Df1 (K : PySem.W.Frag) (mg : Str → Option Value) (x : Str) (st : Stmt) (ps : List Str) : Prop :=
  ∃ f fd, FunD K x x (defArgs st) (defBody st) (defScope st) [.int 1] [] f fd ∧ mg x = some (.ref f) ∧ Binds K fd ps [] ∧ ∃ ds, Vals [.int 1] ds ∧ Binds K fd ps ds
def Kn1 (P : Program) (w : World) (K : PySem.W.Frag) (mg : Str → Option Value) (base : Heap) (cx : CXT) (x : Str) (k : Nat) (ps : List Str) (sp : Sp) : Prop :=
  ∃ f fd, FnOk P w K mg base cx k f fd ps sp ∧ mg x = some (.ref f) ∧ PySem.W.keepIn K (.ref f) = true ∧ Binds K fd ps [] ∧ ∃ ds, Vals [.int 1] ds ∧ Binds K fd ps ds
def spAsRatio (K : PySem.W.Frag) (C : Addr) : Sp := fun vs H Q E => ∃ (v : V) (d : PyData), vs = [v] ∧ Dp K H v d ∧ (∀ t m r H', numOf d = some (t, m) → Same H H' → Dp K H' r (rat t m) → Q r H') ∧
  (numOf d = none → ∀ dx H', Same H H' → H' dx = some (.xd [("value", v)]) → E (.ref C) (some dx) H')
/-- top / bottom in lowest terms -/
def nt (t m : Int) : Int := (if m < 0 then -t else t) / (Int.gcd t m : Int)
def nb (t m : Int) : Int := (m.natAbs : Int) / (Int.gcd t m : Int)
theorem gcd_pos {t m : Int} (h : m ≠ 0) : 0 < (Int.gcd t m : Int) := by
  have := Int.gcd_pos_of_ne_zero_right t h
  omega
theorem gcd_le {t m : Int} (h : m ≠ 0) : Int.gcd t m ≤ m.natAbs := Nat.le_of_dvd (by omega) (Nat.gcd_dvd_right t.natAbs m.natAbs)
theorem gcd_log {t m : Int} (h : m ≠ 0) (hB : m.natAbs < 2 ^ 8000) : (Int.gcd t m : Int).natAbs.log2 < 9000 :=
  Nat.lt_trans (PySem.Flt.log2_lt_of (by decide) (show (Int.gcd t m : Int).natAbs < 2 ^ 8000 from Nat.lt_of_le_of_lt (gcd_le h) hB)) (by decide)
theorem nt_pos {t m : Int} (h : ¬ m < 0) (g : 0 < (Int.gcd t m : Int)) : t.fdiv (Int.gcd t m : Int) = nt t m := by
  unfold nt
  rw [if_neg h, Int.fdiv_eq_ediv_of_nonneg _ (by omega)]
theorem nb_pos {t m : Int} (h : ¬ m < 0) (g : 0 < (Int.gcd t m : Int)) : m.fdiv (Int.gcd t m : Int) = nb t m := by
  unfold nb
  rw [Int.fdiv_eq_ediv_of_nonneg _ (by omega), show (m.natAbs : Int) = m by omega]
theorem nt_neg {t m : Int} (h : m < 0) (g : 0 < (Int.gcd t m : Int)) : t.fdiv (-(Int.gcd t m : Int)) = nt t m := by
  unfold nt
  rw [if_pos h, ← Int.fdiv_eq_ediv_of_nonneg _ (by omega), ← Int.neg_fdiv_neg, Int.neg_neg]
theorem nb_neg {t m : Int} (h : m < 0) (g : 0 < (Int.gcd t m : Int)) : m.fdiv (-(Int.gcd t m : Int)) = nb t m := by
  unfold nb
  rw [show (m.natAbs : Int) = -m by omega, ← Int.fdiv_eq_ediv_of_nonneg _ (by omega), ← Int.neg_fdiv_neg, Int.neg_neg]
def spRatio (C : Addr) : Sp := fun vs H Q E => ∃ t m : Int, vs = [.int t, .int m] ∧ (m ≠ 0 → ∀ p H', Same H H' → H' p = some (.tup [.int (nt t m), .int (nb t m)]) → Q (.ref p) H') ∧ (m = 0 → E (.ref C) none H)
theorem ratOf_is {d : PyData} {z : Int × Int} (h : ratOf d = some z) : d = rat z.1 z.2 := by
  unfold ratOf at h
  split at h
  · unfold rat2 at h
    split at h
    · rename_i a b
      cases a <;> first | cases h | skip
      cases b <;> first | cases h | skip
      rename_i x y
      simp only [intOf] at h
      split at h
      · cases h
        rfl
      · cases h
    · cases h
  · cases h
structure Gt (mg : Str → Option Value) : Prop where
  g_gcd : mg "gcd" = some (.builtin "math.gcd")
section
variable {P : Program} {w : World} {K : PySem.W.Frag} {mg : Str → Option Value} {base : Heap}
theorem ok_is_whole (T : Bt mg) (D : Df K mg "is_whole" s_is_whole ["value"]) : Kn P w K mg base CX0 "is_whole" 33 ["value"] (spD K wholeD) := by
  obtain ⟨f, fd, F, hm, hb⟩ := D
  refine ⟨f, fd, F.ok sc_is_whole (fun vs H Q E h => ?_) (fun cdv A outer s H vs Q E hr h => ?_), hm, F.kp, hb⟩
  · obtain ⟨v, d, rfl, _⟩ := h
    rfl
  · obtain ⟨v, d, rfl, hd, q⟩ := h
    refine ⟨_, (pss_one (ps_ret (pe_and (pe_callB (cr_isi (K := K) rfl) (by rfl) T.n_isinstance (by decide +kernel) (pa_cons (pv 0) (pa_cons (pe_bltn (v := .ty "int") (by rfl) T.n_int (by decide +kernel) rfl) pa_nil))) (pe_one (pe_not (pe_callB (cr_isi (K := K) rfl) (by rfl) T.n_isinstance (by decide +kernel) (pa_cons (pv 0) (pa_cons (pe_bltn (v := .ty "bool") (by rfl) T.n_bool (by decide +kernel) rfl) pa_nil)))))))), ?_⟩
    have q0 := q H (Same.refl H)
    refine ⟨_, rfl, _, _, _, _, _, rfl, .ty _, dp_ty hd, kit_ty (kb_int d), _, rfl, ?_⟩
    refine ite2 (fun c => ?_) (fun c => ?_)
    · refine ⟨_, rfl, _, _, _, _, _, rfl, .ty _, dp_ty hd, kit_ty (kb_bool d), _, rfl, ?_⟩
      have e : (!isBool d) = wholeD d := by cases d <;> first | rfl | cases c
      rw [e]
      exact q0
    · have e : false = wholeD d := by cases d <;> first | rfl | exact absurd rfl c
      rw [e]
      exact q0
theorem ok_is_ratio (T : Bt mg) (Tg : Gt mg) (GW : Kn P w K mg base CX0 "is_whole" 33 ["value"] (spD K wholeD)) (D : Df K mg "is_ratio" s_is_ratio ["value"]) : Kn P w K mg base CX0 "is_ratio" 34 ["value"] (spD K isRat) := by
  obtain ⟨f, fd, F, hm, hb⟩ := D
  obtain ⟨f_is_whole, fd_is_whole, G_is_whole, m_is_whole, k_is_whole, b_is_whole⟩ := GW
  refine ⟨f, fd, F.ok sc_is_ratio (fun vs H Q E h => ?_) (fun cdv A outer s H vs Q E hr h => ?_), hm, F.kp, hb⟩
  · obtain ⟨v, d, rfl, _⟩ := h
    rfl
  · obtain ⟨v, d, rfl, hd, q⟩ := h
    refine ⟨_, (pss_cons (ps_if (PW.pt (pw_or (pt_not (pt_val (pe_callB (cr_isi (K := K) rfl) (by rfl) T.n_isinstance (by decide +kernel) (pa_cons (pv 0) (pa_cons (pe_bltn (v := .ty "tuple") (by rfl) T.n_tuple (by decide +kernel) rfl) pa_nil))))) (pw_or1 (pt_cmpR op_ne (pe_callB call_len_seq (by rfl) T.n_len (by decide +kernel) (pa_cons (pv 0) pa_nil)) pe_int (nomark _))))) (pss_one (ps_ret pe_bl)) pss_nil)
      (pss_cons (ps_asg (pv 0) (pg_tup (by rfl) (pgs_cons (pg_name (i := 1) sc_is_ratio.nd rfl (Or.inl rfl)) (pgs_cons (pg_name (i := 2) sc_is_ratio.nd rfl (Or.inl rfl)) pgs_nil))))
      (pss_cons (ps_if (PW.pt (pw_or (pt_not (pt_val (pe_call G_is_whole (hr.mono (by omega)) rfl m_is_whole k_is_whole b_is_whole .nil pass0 (pa_cons (pv 1) pa_nil)))) (pw_or (pt_not (pt_val (pe_call G_is_whole (hr.mono (by omega)) rfl m_is_whole k_is_whole b_is_whole .nil pass0 (pa_cons (pv 2) pa_nil)))) (pw_or1 (pt_cmpR op_lt (pv 2) pe_int (nomark _)))))) (pss_one (ps_ret pe_bl)) pss_nil)
      (pss_one (ps_ret (pe_cmpR op_eq (pe_callBfun cr_gcd rfl Tg.g_gcd (pa_cons (pv 1) (pa_cons (pv 2) pa_nil))) pe_int (nomark _))))))), ?_⟩
    refine ⟨_, rfl, _, _, _, _, _, rfl, .ty _, dp_ty hd, kit_ty (kb_tup d), _, rfl, ?_⟩
    refine ite2 (fun c => ?_) (fun c => ?_)
    · have e : isRat d = false := by cases d <;> first | rfl | cases c
      have q0 := q H (Same.refl H)
      rw [e] at q0
      exact q0
    · obtain ⟨ds, rfl⟩ : ∃ ds, d = .tuple ds := by cases d <;> first | exact ⟨_, rfl⟩ | exact absurd rfl c
      cases hd with
      | @tup a xs _ hs ha =>
        have hl := dps_len ha
        refine ⟨_, rfl, a, _, rfl, .inr hs, rfl, _, rfl, ?_⟩
        refine ite2 (fun c2 => ?_) (fun c2 => ?_)
        · have e : isRat (.tuple ds) = false := by
            match ds, xs, hl, c2 with
            | [], _, _, _ => rfl
            | [_], _, _, _ => rfl
            | [_, _], xs, hl, c2 =>
              have hl2 : xs.length = 2 := hl
              rw [hl2] at c2
              exact absurd c2 (by decide)
            | _ :: _ :: _ :: _, _, _, _ => rfl
          have q0 := q H (Same.refl H)
          rw [e] at q0
          exact q0
        · have h2 : xs.length = 2 := by
            by_cases z : (xs.length : Int) = 2
            · omega
            · exact absurd (by simp [z]) c2
          obtain ⟨d1, d2, rfl⟩ : ∃ d1 d2, ds = [d1, d2] := by
            rw [h2] at hl
            match ds, hl with
            | [d1, d2], _ => exact ⟨d1, d2, rfl⟩
          cases ha with
          | @cons x1 _ _ _ h1 ha =>
            cases ha with
            | @cons x2 _ _ _ hx2 ha =>
              cases ha
              refine ⟨_, rfl, a, _, rfl, hs, rfl, x1, _, rfl, x2, _, rfl, rfl, ?_⟩
              refine ⟨_, rfl, x1, d1, rfl, h1, fun H1 s1 => ⟨_, rfl, ?_⟩⟩
              refine ite2 (fun c3 => ?_) (fun c3 => ?_)
              · have e : isRat (.tuple [d1, d2]) = false := by cases d1 <;> first | rfl | cases c3
                have q0 := q H1 s1
                rw [e] at q0
                exact q0
              · obtain ⟨t, rfl⟩ : ∃ t, d1 = .int t := by cases d1 <;> first | exact ⟨_, rfl⟩ | exact absurd rfl c3
                refine ⟨_, rfl, x2, d2, rfl, dp_same s1 _ _ hx2, fun H2 s2 => ⟨_, rfl, ?_⟩⟩
                refine ite2 (fun c4 => ?_) (fun c4 => ?_)
                · have e : isRat (.tuple [.int t, d2]) = false := by cases d2 <;> first | rfl | cases c4
                  have q0 := q H2 (s1.trans s2)
                  rw [e] at q0
                  exact q0
                · obtain ⟨m, rfl⟩ : ∃ m, d2 = .int m := by cases d2 <;> first | exact ⟨_, rfl⟩ | exact absurd rfl c4
                  cases h1
                  cases hx2
                  refine ⟨_, rfl, _, _, rfl, rfl, _, rfl, ?_⟩
                  refine ite2 (fun c5 => ?_) (fun c5 => ?_)
                  · have c6 : m < 1 := of_decide_eq_true c5
                    have e : isRat (.tuple [.int t, .int m]) = false := by
                      show (if 1 ≤ m ∧ Int.gcd t m = 1 then some (t, m) else none).isSome = false
                      rw [if_neg (by omega)]
                      rfl
                    have q0 := q H2 (s1.trans s2)
                    rw [e] at q0
                    exact q0
                  · have c6 : ¬ m < 1 := of_decide_eq_false (Bool.eq_false_iff.mpr c5)
                    refine ⟨_, rfl, _, rfl, _, _, rfl, rfl, ?_⟩
                    have e : isRat (.tuple [.int t, .int m]) = decide ((V.int ((Nat.gcd t.natAbs m.natAbs : Nat) : Int)) = V.int 1) := by
                      show (if 1 ≤ m ∧ Int.gcd t m = 1 then some (t, m) else none).isSome = _
                      have g : Int.gcd t m = Nat.gcd t.natAbs m.natAbs := rfl
                      rw [g]
                      by_cases z : Nat.gcd t.natAbs m.natAbs = 1
                      · rw [if_pos ⟨by omega, z⟩, z]
                        rfl
                      · rw [if_neg (fun y => z y.2)]
                        symm
                        apply decide_eq_false
                        intro y
                        injection y with y
                        omega
                    have q0 := q H2 (s1.trans s2)
                    rw [e] at q0
                    exact q0
theorem ok_errinit {x : Str} {C f : Addr} {fd : FuncData} (F : Fun K "__init__" x s_InvalidNumber_init f fd) (ox : OexC K C) (no : PySem.W.findIn K (.ref C) "value" = some none) : FnOk P w K mg base CX0 1 f fd ["self", "value"] (spErrInit C "value") := by
  refine F.ok sc_InvalidNumber_init (fun vs H Q E h => ?_) (fun cdv A outer s H vs Q E hr h => ?_)
  · obtain ⟨e, v, rfl, _⟩ := h
    rfl
  · obtain ⟨e, v, rfl, he, q⟩ := h
    refine ⟨_, pss_one (ps_ost (pv 0) (pv 1)), ?_⟩
    exact ⟨_, rfl, _, rfl, e, C, rfl, ox, no, .inl ⟨he, fun dx h1 h2 => q dx h1 h2⟩⟩
theorem ok_as_ratio {C : Addr} (T : Bt mg) (Ti : ErrF P w K mg base "InvalidNumber" "value" C) (GW : Kn P w K mg base CX0 "is_whole" 33 ["value"] (spD K wholeD)) (GR : Kn P w K mg base CX0 "is_ratio" 34 ["value"] (spD K isRat)) (D : Df K mg "as_ratio" s_as_ratio ["value"]) :
    Kn P w K mg base (L2.CX P w) "as_ratio" 35 ["value"] (spAsRatio K C) := by
  obtain ⟨f, fd, F, hm, hb⟩ := D
  obtain ⟨f_is_whole, fd_is_whole, G_is_whole, m_is_whole, k_is_whole, b_is_whole⟩ := GW
  obtain ⟨f_is_ratio, fd_is_ratio, G_is_ratio, m_is_ratio, k_is_ratio, b_is_ratio⟩ := GR
  obtain ⟨fI, fdI, iC, tI, F1, b1⟩ := Ti.ini
  refine ⟨f, fd, F.okX sc_as_ratio (fun vs H Q E h => ?_) (fun cdv A outer s H vs Q E hr h => ?_), hm, F.kp, hb⟩
  · obtain ⟨v, d, rfl, _⟩ := h
    rfl
  · obtain ⟨v, d, rfl, hd, q1, q2⟩ := h
    refine ⟨_, (pss_cons (ps_if (pt_val (pe_call G_is_whole (hr.mono (by omega)) rfl m_is_whole k_is_whole b_is_whole .nil pass0 (pa_cons (pv 0) pa_nil))) (pss_one (ps_ret (pe_tup (pa_cons (pv 0) (pa_cons pe_int pa_nil))))) pss_nil)
      (pss_cons (ps_if (pt_not (pt_val (pe_call G_is_ratio (hr.mono (by omega)) rfl m_is_ratio k_is_ratio b_is_ratio .nil pass0 (pa_cons (pv 0) pa_nil)))) (pss_one (ps_raise rfl (takes_of rfl rfl rfl rfl) (pmk_oex Ti.ox iC tI F1 (hr.mono (by omega)) b1 .nil pass0 rfl Ti.gC (pa_cons (pv 0) pa_nil)))) pss_nil)
      (pss_one (ps_ret (pv 0))))), ?_⟩
    refine ⟨_, rfl, v, d, rfl, hd, fun H1 s1 => ⟨_, rfl, ?_⟩⟩
    have hd1 := dp_same s1 _ _ hd
    refine ite2 (fun c => ?_) (fun c => ?_)
    · obtain ⟨t, rfl⟩ : ∃ t, d = .int t := by cases d <;> first | exact ⟨_, rfl⟩ | cases c
      cases hd
      refine ⟨_, rfl, (by show 2 ≤ sizeLine; decide), fun p np => ?_⟩
      exact q1 t 1 _ _ rfl (s1.trans (same_new np _)) (dp_rat upd_same)
    · refine ⟨_, rfl, v, d, rfl, hd1, fun H2 s2 => ⟨_, rfl, ?_⟩⟩
      refine ite2 (fun c2 => ?_) (fun c2 => ?_)
      · have e : numOf d = none := by
          cases hr : ratOf d with
          | some z =>
            unfold isRat at c2
            rw [hr] at c2
            cases c2
          | none =>
            cases d <;> first | exact hr | exact absurd rfl c
        refine ⟨_, rfl, (by show 1 ≤ 1000; decide), fun a na => ?_⟩
        refine ⟨a, v, rfl, upd_same, fun dx hdx nx => ⟨rfl, dx, [("value", v)], upd_same, ?_, ?_, ?_⟩⟩
        · rw [upd_ne nx, upd_same]
        · rw [upd_ne nx] at hdx
          exact hdx
        · rw [upd_ne nx] at hdx
          refine q2 e dx _ (s1.trans (s2.trans fun b o hbo => ?_)) upd_same
          have n1 : b ≠ a := ne_of_none hbo na
          have n2 : b ≠ dx := ne_of_none hbo hdx
          rw [upd_ne n2, del_ne n1, upd_ne n1, upd_ne n2, upd_ne n1]
          exact hbo
      · refine ⟨_, rfl, ?_⟩
        obtain ⟨t, m, hr, rfl⟩ : ∃ t m, ratOf d = some (t, m) ∧ d = rat t m := by
          cases hr : ratOf d with
          | none =>
            unfold isRat at c2
            rw [hr] at c2
            exact absurd rfl c2
          | some z => exact ⟨z.1, z.2, rfl, ratOf_is hr⟩
        exact q1 t m _ _ hr (s1.trans s2) (dp_same s2 _ _ hd1)
end

section
variable {P : Program} {w : World} {K : PySem.W.Frag} {mg : Str → Option Value} {base : Heap}
theorem ok_ratio {C : Addr} (S : Sr P base) (T : Bt mg) (Tg : Gt mg) (Tz : ErrZ K mg "ZeroBottom" C) (D : Df1 K mg "ratio" s_ratio ["top", "bottom"]) : Kn1 P w K mg base (L2.CX P w) "ratio" 33 ["top", "bottom"] (spRatio C) := by
  obtain ⟨f, fd, F, hm, hb, hb1⟩ := D
  refine ⟨f, fd, F.ok sc_ratio (fun vs H Q E h => ?_) (fun cdv A outer s H vs Q E hr h => ?_), hm, F.kp, hb, hb1⟩
  · obtain ⟨t, m, rfl, _⟩ := h
    rfl
  · obtain ⟨t, m, rfl, q1, q2⟩ := h
    refine ⟨_, (pss_cons (ps_if (pt_cmpR op_eq (pv 1) pe_int (nomark _)) (pss_one (ps_raise rfl (takes_of rfl rfl rfl rfl) (pmk_own0 PySem.F.excBase_ValueError Tz.xP Tz.gP Tz.kP (raises_own Tz.bP Tz.tP) rfl))) pss_nil)
      (pss_cons (ps_set (i := 2) sc_ratio.nd rfl (Or.inl rfl) (pe_callBfun cr_gcd rfl Tg.g_gcd (pa_cons (pv 0) (pa_cons (pv 1) pa_nil))))
      (pss_cons (ps_if (pt_cmpR op_lt (pv 1) pe_int (nomark _)) (pss_one (ps_set (i := 2) sc_ratio.nd rfl (Or.inl rfl) (pe_un un_neg (pv 2)))) pss_nil)
      (pss_one (ps_ret (pe_tup (pa_cons (pe_op (op_fdivAny S rfl rfl rfl (hr.mono (by omega))) (pv 0) (pv 2)) (pa_cons (pe_op (op_fdivAny S rfl rfl rfl (hr.mono (by omega))) (pv 1) (pv 2)) pa_nil)))))))), ?_⟩
    refine ⟨_, rfl, rfl, _, rfl, ?_⟩
    refine ite2 (fun c => ?_) (fun c => ?_)
    · have e : m = 0 := by
        have z := of_decide_eq_true c
        injection z
      exact q2 e
    · have e : m ≠ 0 := fun z => c (by rw [z]; rfl)
      refine ⟨_, rfl, _, rfl, _, _, rfl, ?_⟩
      have g0 : (Int.gcd t m : Int) = ((Nat.gcd t.natAbs m.natAbs : Nat) : Int) := rfl
      rw [← g0]
      have gp := gcd_pos (t := t) e
      refine ⟨_, rfl, _, _, rfl, rfl, _, rfl, ?_⟩
      refine ite2 (fun c2 => ?_) (fun c2 => ?_)
      · have c3 : m < 0 := of_decide_eq_true c2
        refine ⟨_, rfl, _, rfl, ?_⟩
        refine ⟨_, rfl, _, rfl, _, _, rfl, rfl, (show -(Int.gcd t m : Int) ≠ 0 by omega), _, rfl, _, rfl, _, _, rfl, rfl, (show -(Int.gcd t m : Int) ≠ 0 by omega), (by show 2 ≤ sizeLine; decide), fun p np => ?_⟩
        refine q1 e p _ (same_new np _) ?_
        rw [upd_same, ← nt_neg c3 gp, ← nb_neg c3 gp]
      · have c3 : ¬ m < 0 := of_decide_eq_false (Bool.eq_false_iff.mpr c2)
        refine ⟨_, rfl, _, rfl, _, _, rfl, rfl, (show (Int.gcd t m : Int) ≠ 0 by omega), _, rfl, _, rfl, _, _, rfl, rfl, (show (Int.gcd t m : Int) ≠ 0 by omega), (by show 2 ≤ sizeLine; decide), fun p np => ?_⟩
        refine q1 e p _ (same_new np _) ?_
        rw [upd_same, ← nt_pos c3 gp, ← nb_pos c3 gp]
end

/-! ### the law's own draws and checks -/
theorem map_get {ns : List Int} {i : Nat} {x : V} (h : (ns.map V.int)[i]? = some x) : ∃ z, ns[i]? = some z ∧ x = V.int z := by
  rw [List.getElem?_map] at h
  cases e : ns[i]? with
  | none =>
    rw [e] at h
    cases h
  | some z =>
    rw [e] at h
    exact ⟨z, rfl, (Option.some.inj h).symm⟩
theorem take_more {α : Type} : ∀ {l : List α} {i : Nat} {x : α}, l[i]? = some x → l.take (i + 1) = l.take i ++ [x]
  | [], i, x, h => by simp at h
  | a :: l, 0, x, h => by
    have e := Option.some.inj h
    subst e
    rfl
  | a :: l, i + 1, x, h => congrArg (a :: ·) (take_more (l := l) (i := i) h)
theorem same_upd {H H1 : Hp} {D : Addr} {o : HO} (s : Same H H1) (h : H D = none) : Same H (upd H1 D o) := fun b u q => by
  rw [upd_ne (ne_of_none q h)]
  exact s _ _ q
theorem get_lt {α : Type} {l : List α} {i : Nat} {x : α} (h : l[i]? = some x) : i < l.length := (List.getElem?_eq_some_iff.mp h).1
/-- an item of a list at a drawn place -/
theorem at_lt {xs : List V} {r : Int} (h0 : 0 ≤ r) (h1 : r < xs.length) : ∃ v, v ∈ xs ∧ atI xs r = some v := by
  obtain ⟨k, rfl⟩ : ∃ k : Nat, r = (k : Int) := ⟨r.toNat, by omega⟩
  have hk : k < xs.length := by omega
  exact ⟨xs[k], List.getElem_mem hk, atI_nat (List.getElem?_eq_getElem hk)⟩
def mk (b g : Addr) (H : Hp) : Hp := fun a => if a = b ∨ a = g then none else H a
theorem mk_sub (b g : Addr) (H : Hp) : Same (mk b g H) H := fun a o h => by
  unfold mk at h
  split at h
  · cases h
  · exact h
theorem mk_but {b g : Addr} {H H' : Hp} (x : But b g H H') : Same (mk b g H) (mk b g H') := fun a o h => by
  unfold mk at h ⊢
  split at h
  · cases h
  · rename_i z
    rw [if_neg z]
    exact x a o h (fun y => z (.inl y)) (fun y => z (.inr y))
theorem mk_new {H : Hp} {b g c p : Addr} {n : Nat} {o : HO} (B : Box H b g c n) (np : H p = none) : mk b g (upd H p o) p = some o := by
  obtain ⟨gs, cs, cur, m, B, _⟩ := B
  unfold mk
  rw [if_neg (fun y => y.elim (fun e => by rw [e, B.hb] at np; cases np) (fun e => by rw [e, B.hg] at np; cases np)), upd_same]
theorem mk_tup {H : Hp} {b g c p : Addr} {n : Nat} {xs : List V} (B : Box H b g c n) (h : H p = some (.tup xs)) : mk b g H p = some (.tup xs) := by
  obtain ⟨gs, cs, cur, m, B, _⟩ := B
  unfold mk
  rw [if_neg (fun y => y.elim (fun e => by rw [e, B.hb] at h; cases h) (fun e => by rw [e, B.hg] at h; cases h)), h]
theorem But.tup {H H' : Hp} {b g c p : Addr} {n : Nat} {xs : List V} (x : But b g H H') (B : Box H b g c n) (h : H p = some (.tup xs)) : H' p = some (.tup xs) := by
  obtain ⟨gs, cs, cur, m, B, _⟩ := B
  exact x p _ h (fun e => by rw [e, B.hb] at h; cases h) (fun e => by rw [e, B.hg] at h; cases h)
def spLRatio : Sp := fun vs H Q _ => ∃ t m : Int, vs = [.int t, .int m] ∧ m ≠ 0 ∧ ∀ p H', Same H H' → H' p = some (.tup [.int (nt t m), .int (nb t m)]) → Q (.ref p) H'
section
variable {P : Program} {w : World} {K : PySem.W.Frag} {mg : Str → Option Value} {base : Heap}
theorem ok_box (D : Df K mg "_law_box" s_l_box ["_law_script"]) : Kn P w K mg base CX0 "_law_box" 33 ["_law_script"] (spBox K) := by
  obtain ⟨f, fd, F, hm, hb⟩ := D
  refine ⟨f, fd, F.ok sc_l_box (fun vs H Q E h => ?_) (fun cdv A outer s H vs Q E hr h => ?_), hm, F.kp, hb⟩
  · obtain ⟨a, ns, rfl, _⟩ := h
    rfl
  · obtain ⟨a, ns, rfl, hS, hl, q⟩ := h
    refine ⟨_, (pss_cons (ps_setLc (i := 1) (own := [("_law_cell", 2)]) rfl sc_l_box.nd rfl rfl (sw_true rfl rfl rfl (by decide +kernel)) (pi_list (pv 0)) (blkOk_by (N := ["_law_script", "_law_great", "_law_cell"]) (sc := defScope s_l_box) (by decide +kernel)) (fun _ _ _ _ _ => (pg_name (i := 2) sc_l_box.nd rfl (Or.inl rfl))) (fun _ _ _ _ _ => (pts_one (pt_cmpR op_ge (pv 2) (pe_op op_powB pe_int pe_int) (nomark _)))) (fun _ _ _ _ _ => (pv 2)))
      (pss_one (ps_ret (pe_lst (pa_cons (pv 1) (pa_cons pe_int (pa_cons (pe_lc (own := [("_law_cell", 2)]) rfl sc_l_box.nd (pi_list (pv 0)) (blkOk_by (N := ["_law_script", "_law_great", "_law_cell"]) (sc := defScope s_l_box) (by decide +kernel)) (fun _ _ _ _ _ => (pg_name (i := 2) sc_l_box.nd rfl (Or.inl rfl))) (fun _ _ _ _ _ => (pts_one (pt_cmpR op_lt (pv 2) (pe_op op_powB pe_int pe_int) (nomark _)))) (fun _ _ _ _ _ => (pv 2))) (pa_cons pe_int pa_nil)))))))), ?_⟩
    refine ⟨_, rfl, a, rfl, ⟨_, hS⟩, fun D hD => ?_⟩
    refine lc_list (K := K) (a := a) (xs := ns.map V.int) (fun i H' => Same H H' ∧ ∃ acc : List Int, H' D = some (.lst (acc.map V.int)) ∧ acc.length ≤ i) ⟨same_new hD _, [], upd_same, Nat.le_refl _⟩ (fun i H' _ h => h.1.seq hS) ?_ ?_
    · rintro i x H1 hx ⟨s1, acc, hacc, hlen⟩
      obtain ⟨z, hz, rfl⟩ := map_get hx
      have hi := get_lt hz
      refine ⟨rfl, _, rfl, _, _, rfl, rfl, ⟨by decide, by decide +kernel⟩, _, _, rfl, rfl, _, rfl, ?_⟩
      refine ite2 (fun _ => ?_) (fun _ => ?_)
      · refine ⟨_, rfl, _, hacc, (by rw [List.length_map]; exact small1000 (by omega)), same_upd s1 hD, acc ++ [z], (by rw [upd_same, List.map_append]; rfl), by rw [List.length_append]; exact Nat.succ_le_succ hlen⟩
      · exact ⟨s1, acc, hacc, by omega⟩
    · rintro H1 ⟨s1, gs, hg, hgl⟩
      rw [List.length_map] at hgl
      refine ⟨_, rfl, _, rfl, a, rfl, ⟨_, s1.seq hS⟩, fun D2 hD2 => ?_⟩
      refine lc_list (K := K) (a := a) (xs := ns.map V.int) (fun i H' => Same H1 H' ∧ ∃ acc : List Int, H' D2 = some (.lst (acc.map V.int)) ∧ acc.length ≤ i) ⟨same_new hD2 _, [], upd_same, Nat.le_refl _⟩ (fun i H' _ h => (s1.trans h.1).seq hS) ?_ ?_
      · rintro i x H2 hx ⟨s2, acc, hacc, hlen⟩
        obtain ⟨z, hz, rfl⟩ := map_get hx
        have hi := get_lt hz
        refine ⟨rfl, _, rfl, _, _, rfl, rfl, ⟨by decide, by decide +kernel⟩, _, _, rfl, rfl, _, rfl, ?_⟩
        refine ite2 (fun _ => ?_) (fun _ => ?_)
        · refine ⟨_, rfl, _, hacc, (by rw [List.length_map]; exact small1000 (by omega)), same_upd s2 hD2, acc ++ [z], (by rw [upd_same, List.map_append]; rfl), by rw [List.length_append]; exact Nat.succ_le_succ hlen⟩
        · exact ⟨s2, acc, hacc, by omega⟩
      · rintro H2 ⟨s2, cs, hc, hcl⟩
        rw [List.length_map] at hcl
        refine ⟨(by show 4 ≤ sizeLine; decide), fun p np => ?_⟩
        have hg2 := s2 _ _ hg
        have n1 : p ≠ D := (ne_of_none hg2 np).symm
        have n2 : p ≠ D2 := (ne_of_none hc np).symm
        have n3 : D ≠ D2 := ne_of_none hg hD2
        refine q p D D2 _ ⟨gs, cs, 0, 0, ⟨upd_same, by rw [upd_ne n1.symm]; exact hg2, by rw [upd_ne n2.symm]; exact hc, n1, n2, n3, by decide, by omega, by omega⟩, by decide⟩ ((s1.trans s2).trans (same_new np _)) ((s1.trans s2).free np) hD (s1.free hD2)
end

/-! ### ratios in lowest terms -/
structure Red (z : Int × Int) : Prop where
  pos : 0 < z.2
  co : Int.gcd z.1 z.2 = 1
def nrm (t m : Int) : Int × Int := (nt t m, nb t m)
theorem gcd_abs (t m : Int) : Int.gcd (if m < 0 then -t else t) (m.natAbs : Int) = Int.gcd t m := by
  unfold Int.gcd
  split <;> simp
theorem nrm_red {t m : Int} (h : m ≠ 0) : Red (nrm t m) := by
  have gp := gcd_pos (t := t) h
  have e := gcd_abs t m
  refine ⟨?_, ?_⟩
  · show 0 < (m.natAbs : Int) / (Int.gcd t m : Int)
    have d : (Int.gcd t m : Int) ∣ (m.natAbs : Int) := Int.natAbs_dvd_natAbs.mp (by simp [Int.gcd]; exact Nat.gcd_dvd_right _ _)
    have c := Int.ediv_mul_cancel d
    have z : (m.natAbs : Int) / (Int.gcd t m : Int) ≠ 0 := fun q => by
      rw [q] at c
      omega
    have z2 : 0 ≤ (m.natAbs : Int) / (Int.gcd t m : Int) := Int.ediv_nonneg (by omega) (by omega)
    omega
  · show Int.gcd ((if m < 0 then -t else t) / (Int.gcd t m : Int)) ((m.natAbs : Int) / (Int.gcd t m : Int)) = 1
    rw [← e]
    exact Int.gcd_ediv_gcd_ediv_gcd (by rw [e]; omega)
theorem nrm_cross {t m : Int} (h : m ≠ 0) : (nrm t m).1 * m = t * (nrm t m).2 := by
  have d1 : (Int.gcd t m : Int) ∣ t := Int.gcd_dvd_left ..
  have d2 : (Int.gcd t m : Int) ∣ m := Int.gcd_dvd_right ..
  obtain ⟨a, ha⟩ := d1
  obtain ⟨b, hb⟩ := d2
  have gp := gcd_pos (t := t) h
  have e1 : (nrm t m).1 = (if m < 0 then -a else a) := by
    show (if m < 0 then -t else t) / (Int.gcd t m : Int) = _
    generalize (Int.gcd t m : Int) = g at *
    subst ha
    split
    · rw [show -(g * a) = g * (-a) by grind, Int.mul_ediv_cancel_left _ (by omega)]
    · rw [Int.mul_ediv_cancel_left _ (by omega)]
  have e2 : (nrm t m).2 = (if m < 0 then -b else b) := by
    show (m.natAbs : Int) / (Int.gcd t m : Int) = _
    have z : (m.natAbs : Int) = if m < 0 then -m else m := by split <;> omega
    rw [z]
    clear z
    generalize (Int.gcd t m : Int) = g at *
    clear ha e1
    split
    · rw [hb, show -(g * b) = g * (-b) by grind, Int.mul_ediv_cancel_left _ (by omega)]
    · rw [hb, Int.mul_ediv_cancel_left _ (by omega)]
  rw [e1, e2]
  generalize (Int.gcd t m : Int) = g at *
  split <;> (rename_i w; clear e1 e2 w h gp; subst ha; subst hb; grind)
theorem red_uniq {a b : Int × Int} (ha : Red a) (hb : Red b) (e : a.1 * b.2 = b.1 * a.2) : a = b := by
  have pa := ha.pos
  have pb := hb.pos
  have e' : a.1.natAbs * b.2.natAbs = b.1.natAbs * a.2.natAbs := by rw [← Int.natAbs_mul, ← Int.natAbs_mul, e]
  have c1 : Nat.Coprime a.2.natAbs a.1.natAbs := Nat.Coprime.symm ha.co
  have c2 : Nat.Coprime b.2.natAbs b.1.natAbs := Nat.Coprime.symm hb.co
  have d1 : a.2.natAbs ∣ b.2.natAbs := c1.dvd_of_dvd_mul_left ⟨b.1.natAbs, by rw [e', Nat.mul_comm]⟩
  have d2 : b.2.natAbs ∣ a.2.natAbs := c2.dvd_of_dvd_mul_left ⟨a.1.natAbs, by rw [← e', Nat.mul_comm]⟩
  have e2 : a.2 = b.2 := by
    have z := Nat.dvd_antisymm d1 d2
    omega
  have e1 : a.1 = b.1 := Int.eq_of_mul_eq_mul_right (a := b.2) (by omega) (by rw [e, e2])
  exact Prod.ext e1 e2
theorem nrm_eq {t m t' m' : Int} (h : m ≠ 0) (h' : m' ≠ 0) (e : t * m' = t' * m) : nrm t m = nrm t' m' := by
  have x := nrm_cross (t := t) h
  have y := nrm_cross (t := t') h'
  refine red_uniq (nrm_red h) (nrm_red h') ?_
  refine Int.eq_of_mul_eq_mul_right (a := m * m') (Int.mul_ne_zero h h') ?_
  generalize (nrm t m).1 = a at *
  generalize (nrm t m).2 = b at *
  generalize (nrm t' m').1 = c at *
  generalize (nrm t' m').2 = d at *
  clear h h'
  grind
theorem nrm_of {z : Int × Int} (h : Red z) : nrm z.1 z.2 = z := by
  have p := h.pos
  have x := nrm_cross (t := z.1) (m := z.2) (by omega)
  exact red_uniq (nrm_red (by omega)) h x
theorem nrm_is {t m : Int} {z : Int × Int} (h : m ≠ 0) (hz : Red z) (e : t * z.2 = z.1 * m) : nrm t m = z := by
  have p := hz.pos
  rw [← nrm_of hz]
  exact nrm_eq h (by omega) e
theorem nt_le (t m : Int) : (nrm t m).1.natAbs ≤ t.natAbs := by
  show ((if m < 0 then -t else t) / (Int.gcd t m : Int)).natAbs ≤ t.natAbs
  refine Nat.le_trans (Int.natAbs_ediv_le_natAbs _ _) ?_
  split <;> omega
theorem nb_le (t m : Int) : (nrm t m).2.natAbs ≤ m.natAbs := by
  show ((m.natAbs : Int) / (Int.gcd t m : Int)).natAbs ≤ m.natAbs
  exact Nat.le_trans (Int.natAbs_ediv_le_natAbs _ _) (by omega)
/-- both parts are below 2 ^ k -/
def Sz (k : Nat) (z : Int × Int) : Prop := z.1.natAbs < 2 ^ k ∧ z.2.natAbs < 2 ^ k
theorem Sz.mono {j k : Nat} {z : Int × Int} (h : Sz j z) (l : j ≤ k) : Sz k z :=
  ⟨Nat.lt_of_lt_of_le h.1 (Nat.pow_le_pow_right (by decide) l), Nat.lt_of_lt_of_le h.2 (Nat.pow_le_pow_right (by decide) l)⟩
theorem sz_nrm {t m : Int} {k : Nat} (h1 : t.natAbs < 2 ^ k) (h2 : m.natAbs < 2 ^ k) : Sz k (nrm t m) := ⟨Nat.lt_of_le_of_lt (nt_le t m) h1, Nat.lt_of_le_of_lt (nb_le t m) h2⟩
theorem lt_mul {x y : Int} {j k : Nat} (h1 : x.natAbs < 2 ^ j) (h2 : y.natAbs < 2 ^ k) : (x * y).natAbs < 2 ^ (j + k) := wide_lt h1 h2
theorem lt_add {x y : Int} {k : Nat} (h1 : x.natAbs < 2 ^ k) (h2 : y.natAbs < 2 ^ k) : (x + y).natAbs < 2 ^ (k + 1) := by
  have := Int.natAbs_add_le x y
  rw [Nat.pow_succ]
  omega
def addz (a b : Int × Int) : Int × Int := nrm (a.1 * b.2 + b.1 * a.2) (a.2 * b.2)
def mulz (a b : Int × Int) : Int × Int := nrm (a.1 * b.1) (a.2 * b.2)
def negz (a : Int × Int) : Int × Int := (-a.1, a.2)
def divz (a b : Int × Int) : Int × Int := nrm (a.1 * b.2) (a.2 * b.1)
theorem mne {a b : Int × Int} (ha : Red a) (hb : Red b) : a.2 * b.2 ≠ 0 := by
  have := ha.pos
  have := hb.pos
  exact Int.mul_ne_zero (by omega) (by omega)
theorem add_red {a b : Int × Int} (ha : Red a) (hb : Red b) : Red (addz a b) := nrm_red (mne ha hb)
theorem mul_red {a b : Int × Int} (ha : Red a) (hb : Red b) : Red (mulz a b) := nrm_red (mne ha hb)
theorem neg_red {a : Int × Int} (ha : Red a) : Red (negz a) := ⟨ha.pos, by show Int.gcd (-a.1) a.2 = 1; rw [Int.neg_gcd]; exact ha.co⟩
theorem add_sz {a b : Int × Int} {j k : Nat} (ha : Sz j a) (hb : Sz k b) : Sz (j + k + 1) (addz a b) := by
  refine sz_nrm (lt_add (lt_mul ha.1 hb.2) ?_) (Nat.lt_of_lt_of_le (lt_mul ha.2 hb.2) (Nat.pow_le_pow_right (by decide) (by omega)))
  rw [Int.mul_comm]
  exact lt_mul ha.2 hb.1
theorem mul_sz {a b : Int × Int} {j k : Nat} (ha : Sz j a) (hb : Sz k b) : Sz (j + k) (mulz a b) := sz_nrm (lt_mul ha.1 hb.1) (lt_mul ha.2 hb.2)
theorem neg_sz {a : Int × Int} {j : Nat} (ha : Sz j a) : Sz j (negz a) := ⟨by show (-a.1).natAbs < _; rw [Int.natAbs_neg]; exact ha.1, ha.2⟩
theorem add_cross {a b : Int × Int} (ha : Red a) (hb : Red b) : (addz a b).1 * (a.2 * b.2) = (a.1 * b.2 + b.1 * a.2) * (addz a b).2 := nrm_cross (mne ha hb)
theorem mul_cross {a b : Int × Int} (ha : Red a) (hb : Red b) : (mulz a b).1 * (a.2 * b.2) = (a.1 * b.1) * (mulz a b).2 := nrm_cross (mne ha hb)
theorem cancel {x y k : Int} (h : k ≠ 0) (e : x * k = y * k) : x = y := Int.eq_of_mul_eq_mul_right h e
theorem add_comm' (a b : Int × Int) : addz a b = addz b a := by
  unfold addz
  rw [Int.add_comm, Int.mul_comm a.2]
theorem mul_comm' (a b : Int × Int) : mulz a b = mulz b a := by
  unfold mulz
  rw [Int.mul_comm a.1, Int.mul_comm a.2]
theorem add_assoc' {a b c : Int × Int} (ha : Red a) (hb : Red b) (hc : Red c) : addz (addz a b) c = addz a (addz b c) := by
  have x := add_cross ha hb
  have y := add_cross hb hc
  have na := mne ha hb
  have nc := mne hb hc
  have rab := add_red ha hb
  have rbc := add_red hb hc
  refine nrm_eq (mne rab hc) (mne ha rbc) ?_
  refine cancel (k := (a.2 * b.2) * (b.2 * c.2)) (Int.mul_ne_zero na nc) ?_
  generalize addz a b = u at *
  generalize addz b c = v at *
  clear na nc rab rbc ha hb hc
  grind
theorem mul_assoc' {a b c : Int × Int} (ha : Red a) (hb : Red b) (hc : Red c) : mulz (mulz a b) c = mulz a (mulz b c) := by
  have x := mul_cross ha hb
  have y := mul_cross hb hc
  have na := mne ha hb
  have nc := mne hb hc
  have rab := mul_red ha hb
  have rbc := mul_red hb hc
  refine nrm_eq (mne rab hc) (mne ha rbc) ?_
  refine cancel (k := (a.2 * b.2) * (b.2 * c.2)) (Int.mul_ne_zero na nc) ?_
  generalize mulz a b = u at *
  generalize mulz b c = v at *
  clear na nc rab rbc ha hb hc
  grind
theorem mul_add' {a b c : Int × Int} (ha : Red a) (hb : Red b) (hc : Red c) : mulz (addz a b) c = addz (mulz a c) (mulz b c) := by
  have x := add_cross ha hb
  have y := mul_cross ha hc
  have z := mul_cross hb hc
  have n1 := mne ha hb
  have n2 := mne ha hc
  have n3 := mne hb hc
  refine nrm_eq (mne (add_red ha hb) hc) (mne (mul_red ha hc) (mul_red hb hc)) ?_
  refine cancel (k := (a.2 * b.2) * ((a.2 * c.2) * (b.2 * c.2))) (Int.mul_ne_zero n1 (Int.mul_ne_zero n2 n3)) ?_
  generalize addz a b = u at *
  generalize mulz a c = v at *
  generalize mulz b c = w at *
  clear n1 n2 n3 ha hb hc
  grind
theorem add_sub' {a b : Int × Int} (ha : Red a) (hb : Red b) : addz (addz a b) (negz b) = a := by
  have x := add_cross ha hb
  have n1 := mne ha hb
  refine nrm_is (mne (add_red ha hb) (neg_red hb)) ha ?_
  refine cancel (k := a.2 * b.2) n1 ?_
  show ((addz a b).1 * b.2 + (-b.1) * (addz a b).2) * a.2 * (a.2 * b.2) = a.1 * ((addz a b).2 * b.2) * (a.2 * b.2)
  generalize addz a b = u at *
  clear n1 ha hb
  grind
theorem mul_div' {a b : Int × Int} (ha : Red a) (hb : Red b) (h0 : b.1 ≠ 0) : divz (mulz a b) b = a := by
  have x := mul_cross ha hb
  have n1 := mne ha hb
  have r := mul_red ha hb
  have p := r.pos
  refine nrm_is (Int.mul_ne_zero (by omega) h0) ha ?_
  refine cancel (k := a.2 * b.2) n1 ?_
  generalize mulz a b = u at *
  clear n1 ha hb r p h0
  grind
/-- the sign of a difference -/
def sgn (x : Int) : Int := if x < 0 then -1 else if x > 0 then 1 else 0
theorem sgn_nrm {t m : Int} (h : 0 < m) : sgn (nrm t m).1 = sgn t := by
  have x := nrm_cross (t := t) (m := m) (by omega)
  have r := (nrm_red (t := t) (m := m) (by omega)).pos
  generalize (nrm t m).1 = a at *
  generalize (nrm t m).2 = b at *
  unfold sgn
  rcases Int.lt_trichotomy t 0 with h1 | h1 | h1
  · have z : a < 0 := by
      rcases Int.lt_or_le a 0 with q | q
      · exact q
      · have := Int.mul_nonneg q (Int.le_of_lt h)
        have := Int.mul_neg_of_neg_of_pos h1 r
        omega
    rw [if_pos z, if_pos h1]
  · subst h1
    rw [Int.zero_mul] at x
    have z : a = 0 := by
      rcases Int.mul_eq_zero.mp x with q | q
      · exact q
      · omega
    rw [z]
  · have z : 0 < a := by
      rcases Int.lt_or_le 0 a with q | q
      · exact q
      · have := Int.mul_pos h1 r
        have := Int.mul_nonpos_of_nonpos_of_nonneg q (Int.le_of_lt h)
        omega
    rw [if_neg (by omega), if_pos z, if_neg (by omega), if_pos h1]
def cmpz (a b : Int × Int) : Int := sgn (a.1 * b.2 - b.1 * a.2)
theorem cmp_sub {a b : Int × Int} (ha : Red a) (hb : Red b) : sgn (addz a (negz b)).1 = cmpz a b := by
  have p1 := ha.pos
  have p2 := hb.pos
  unfold cmpz
  have e : a.1 * b.2 - b.1 * a.2 = a.1 * (negz b).2 + (negz b).1 * a.2 := by show a.1 * b.2 - b.1 * a.2 = a.1 * b.2 + (-b.1) * a.2; grind
  rw [e]
  exact sgn_nrm (m := a.2 * (negz b).2) (Int.mul_pos p1 p2)
theorem sgn_neg (x : Int) : sgn x = 0 - sgn (-x) := by
  unfold sgn
  split <;> split <;> (try split) <;> (try split) <;> omega
theorem cmp_neg (a b : Int × Int) : cmpz a b = 0 - cmpz b a := by
  unfold cmpz
  rw [sgn_neg, show -(a.1 * b.2 - b.1 * a.2) = b.1 * a.2 - a.1 * b.2 by grind]
theorem cmp_same (a : Int × Int) : cmpz a a = 0 := by
  unfold cmpz
  rw [Int.sub_self]
  rfl
theorem cmp_up {a : Int × Int} {s : Int} (ha : Red a) (hs : Red (1, s)) : cmpz a (addz a (1, s)) = -1 := by
  have x := add_cross ha hs
  have r := (add_red ha hs).pos
  have p1 := ha.pos
  have p2 : 0 < s := hs.pos
  unfold cmpz
  have x' : (addz a (1, s)).1 * (a.2 * s) = (a.1 * s + 1 * a.2) * (addz a (1, s)).2 := x
  generalize addz a (1, s) = u at *
  have key : (a.1 * u.2 - u.1 * a.2) * s = - (a.2 * u.2) := by
    refine cancel (k := 1) (by decide) ?_
    clear x hs ha
    grind
  have neg : a.1 * u.2 - u.1 * a.2 < 0 := by
    rcases Int.lt_or_le (a.1 * u.2 - u.1 * a.2) 0 with q | q
    · exact q
    · have z1 := Int.mul_nonneg q (Int.le_of_lt p2)
      have z2 := Int.mul_pos p1 r
      omega
  unfold sgn
  rw [if_pos neg]

/-- a number: an int or a ratio -/
def Nv (K : PySem.W.Frag) (H : Hp) (v : V) (z : Int × Int) : Prop := ∃ d, Dp K H v d ∧ numOf d = some z
theorem Nv.same {K : PySem.W.Frag} {H H' : Hp} {v : V} {z : Int × Int} (h : Nv K H v z) (s : Same H H') : Nv K H' v z := by
  obtain ⟨d, hd, e⟩ := h
  exact ⟨d, dp_same s _ _ hd, e⟩
theorem Nv.int {K : PySem.W.Frag} {H : Hp} (i : Int) : Nv K H (.int i) (i, 1) := ⟨.int i, .int i, rfl⟩
theorem numOf_rat {z : Int × Int} (h : Red z) : numOf (rat z.1 z.2) = some z := by
  show (if 1 ≤ z.2 ∧ Int.gcd z.1 z.2 = 1 then some (z.1, z.2) else none) = some z
  have := h.pos
  rw [if_pos ⟨by omega, h.co⟩]
theorem Nv.rat {K : PySem.W.Frag} {H : Hp} {p : Addr} {z : Int × Int} (h : H p = some (.tup [.int z.1, .int z.2])) (r : Red z) : Nv K H (.ref p) z := ⟨_, dp_rat h, numOf_rat r⟩
theorem numOf_red {d : PyData} {z : Int × Int} (h : numOf d = some z) : Red z := by
  have key : ∀ d', ratOf d' = some z → Red z := fun d' h' => by
    have e := ratOf_is h'
    rw [e] at h'
    have h2 : (if 1 ≤ z.2 ∧ Int.gcd z.1 z.2 = 1 then some (z.1, z.2) else none) = some z := h'
    split at h2
    · rename_i w
      exact ⟨by omega, w.2⟩
    · cases h2
  cases d with
  | int i =>
    have e : (i, (1 : Int)) = z := Option.some.inj h
    rw [← e]
    exact ⟨by show (0 : Int) < 1; decide, by show Int.gcd i 1 = 1; exact Int.gcd_one_right i⟩
  | none => exact key .none h
  | bool b => exact key (.bool b) h
  | str b => exact key (.str b) h
  | list b => exact key (.list b) h
  | tuple b => exact key (.tuple b) h
  | dict b => exact key (.dict b) h
theorem Nv.red {K : PySem.W.Frag} {H : Hp} {v : V} {z : Int × Int} (h : Nv K H v z) : Red z := by
  obtain ⟨d, _, e⟩ := h
  exact numOf_red e
theorem dp_rat_inv {K : PySem.W.Frag} {H : Hp} {v : V} {t m : Int} (h : Dp K H v (rat t m)) : ∃ a, v = .ref a ∧ SqT K H a [.int t, .int m] := by
  cases h with
  | tup hs ha =>
    cases ha with
    | cons h1 h2 =>
      cases h2 with
      | cons h2 h3 =>
        cases h3
        cases h1
        cases h2
        exact ⟨_, rfl, hs⟩
def spBin (K : PySem.W.Frag) (f : Int × Int → Int × Int → Int × Int) : Sp := fun vs H Q _ => ∃ (x y : V) (a b : Int × Int) (j k : Nat), vs = [x, y] ∧ Nv K H x a ∧ Nv K H y b ∧ Sz j a ∧ Sz k b ∧ j + k + 1 ≤ 40000000 ∧
  ∀ p H', Same H H' → H' p = some (.tup [.int (f a b).1, .int (f a b).2]) → Q (.ref p) H'
def spDiv (K : PySem.W.Frag) (C : Addr) : Sp := fun vs H Q E => ∃ (x y : V) (a b : Int × Int) (j k : Nat), vs = [x, y] ∧ Nv K H x a ∧ Nv K H y b ∧ Sz j a ∧ Sz k b ∧ j + k + 1 ≤ 40000000 ∧
  (b.1 ≠ 0 → ∀ p H', Same H H' → H' p = some (.tup [.int (divz a b).1, .int (divz a b).2]) → Q (.ref p) H') ∧ (b.1 = 0 → ∀ H', Same H H' → E (.ref C) none H')
def spSub (K : PySem.W.Frag) : Sp := fun vs H Q _ => ∃ (x y : V) (a b : Int × Int) (j k : Nat), vs = [x, y] ∧ Nv K H x a ∧ Nv K H y b ∧ Sz j a ∧ Sz k b ∧ j + k + 2 ≤ 40000000 ∧
  ∀ p H', Same H H' → H' p = some (.tup [.int (addz a (negz b)).1, .int (addz a (negz b)).2]) → Q (.ref p) H'
def spCmp (K : PySem.W.Frag) : Sp := fun vs H Q _ => ∃ (x y : V) (a b : Int × Int) (j k : Nat), vs = [x, y] ∧ Nv K H x a ∧ Nv K H y b ∧ Sz j a ∧ Sz k b ∧ j + k + 2 ≤ 40000000 ∧ ∀ H', Same H H' → Q (.int (cmpz a b)) H'
theorem p2pos (k : Nat) (h : 0 < k) {x : Int} (hx : x.natAbs < 2 ^ k) : x.natAbs < 2 ^ k := hx
theorem Sz.pos {k : Nat} {z : Int × Int} (h : Sz k z) (r : Red z) : 0 < k := by
  have p := r.pos
  have q := h.2
  cases k with
  | zero => simp at q; omega
  | succ n => exact Nat.succ_pos _
theorem mulW_of {x y : Int} {j k : Nat} (hx : x.natAbs < 2 ^ j) (hy : y.natAbs < 2 ^ k) (j0 : 0 < j) (k0 : 0 < k) (l : j + k + 1 ≤ 40000000) : CMulV x y := mulV_of hx hy j0 k0 (by omega)
theorem to8000 {x : Int} {k : Nat} (h : x.natAbs < 2 ^ k) (l : k ≤ 7999) : x.natAbs < 2 ^ 8000 := Nat.lt_of_lt_of_le h (Nat.pow_le_pow_right (by decide) (by omega))

/-! ### digits -/
open NumText in
theorem dv_app (a b : List Nat) : digitsVal (a ++ b) = digitsVal a * 10 ^ b.length + digitsVal b := by
  have key : ∀ (b : List Nat) (x : Nat), b.foldl (fun acc c => acc * 10 + (c - 48)) x = x * 10 ^ b.length + b.foldl (fun acc c => acc * 10 + (c - 48)) 0 := by
    intro b
    induction b with
    | nil => intro x; simp
    | cons c r ih =>
      intro x
      rw [List.foldl_cons, List.foldl_cons, ih, ih (0 * 10 + (c - 48)), List.length_cons, Nat.pow_succ]
      generalize r.foldl (fun acc c => acc * 10 + (c - 48)) 0 = y
      generalize 10 ^ r.length = z
      grind
  unfold digitsVal
  rw [List.foldl_append, key]
theorem dv_one (c : Nat) : NumText.digitsVal [c] = c - 48 := by
  unfold NumText.digitsVal
  simp
theorem dv_lt : ∀ l : List Nat, NumText.AllDigits l → NumText.digitsVal l < 10 ^ l.length := by
  intro l
  induction l with
  | nil => intro _; decide
  | cons c r ih =>
    intro h
    have e := dv_app [c] r
    rw [List.singleton_append] at e
    rw [e, dv_one, List.length_cons, Nat.pow_succ]
    have h1 := h.head
    have h2 := ih h.tail
    generalize 10 ^ r.length = z at *
    have h3 : (c - 48) * z ≤ 9 * z := Nat.mul_le_mul_right z (by omega)
    omega
theorem ad_app {a b : List Nat} : NumText.AllDigits (a ++ b) ↔ NumText.AllDigits a ∧ NumText.AllDigits b := by
  constructor
  · intro h
    exact ⟨fun c hc => h c (List.mem_append_left _ hc), fun c hc => h c (List.mem_append_right _ hc)⟩
  · rintro ⟨h1, h2⟩ c hc
    rcases List.mem_append.mp hc with h | h
    · exact h1 c h
    · exact h2 c h
theorem ad_take {l : List Nat} (n : Nat) (h : NumText.AllDigits l) : NumText.AllDigits (l.take n) := fun c hc => h c (List.mem_of_mem_take hc)
theorem ad_drop {l : List Nat} (n : Nat) (h : NumText.AllDigits l) : NumText.AllDigits (l.drop n) := fun c hc => h c (List.mem_of_mem_drop hc)
/-- k digits of m, zeros ahead -/
def padL : Nat → Nat → List Nat
  | 0, _ => []
  | k + 1, m => padL k (m / 10) ++ [48 + m % 10]
theorem padL_len : ∀ k m : Nat, (padL k m).length = k
  | 0, _ => rfl
  | k + 1, m => by
    show (padL k (m / 10) ++ [48 + m % 10]).length = k + 1
    rw [List.length_append, padL_len k]
    rfl
theorem padL_digits : ∀ k m : Nat, NumText.AllDigits (padL k m)
  | 0, _ => fun c hc => by cases hc
  | k + 1, m => ad_app.mpr ⟨padL_digits k _, fun c hc => by
      rw [List.mem_singleton.mp hc]
      have := Nat.mod_lt m (show 0 < 10 by decide)
      omega⟩
theorem numL_split : ∀ (k n : Nat), 10 ^ k ≤ n → TL.numL n = TL.numL (n / 10 ^ k) ++ padL k (n % 10 ^ k)
  | 0, n, _ => by
    show TL.numL n = TL.numL (n / 1) ++ []
    rw [Nat.div_one, List.append_nil]
  | k + 1, n, h => by
    have p : 0 < 10 ^ k := Nat.pow_pos (by decide)
    have e : (10 : Nat) ^ (k + 1) = 10 ^ k * 10 := Nat.pow_succ ..
    have h10 : 10 ≤ n := by
      have : 1 * 10 ≤ 10 ^ k * 10 := Nat.mul_le_mul_right _ p
      omega
    have hd : 10 ^ k ≤ n / 10 := by
      rw [Nat.le_div_iff_mul_le (by decide)]
      omega
    rw [TL.numL_step h10, numL_split k (n / 10) hd]
    show _ = _ ++ (padL k (n % 10 ^ (k + 1) / 10) ++ [48 + n % 10 ^ (k + 1) % 10])
    have e1 : n / 10 / 10 ^ k = n / 10 ^ (k + 1) := by rw [Nat.div_div_eq_div_mul, e, Nat.mul_comm]
    have e2 : n % 10 ^ (k + 1) / 10 = n / 10 % 10 ^ k := by
      rw [e, Nat.mul_comm (10 ^ k) 10, Nat.mod_mul_right_div_self]
    have e3 : n % 10 ^ (k + 1) % 10 = n % 10 := by
      rw [e, Nat.mod_mul_left_mod]
    rw [e1, e2, e3, List.append_assoc]
theorem padL_zero : ∀ k : Nat, padL k 0 = List.replicate k 48
  | 0 => rfl
  | k + 1 => by
    show padL k (0 / 10) ++ [48 + 0 % 10] = _
    rw [Nat.zero_div, padL_zero k, List.replicate_succ']
theorem padL_num : ∀ (k m : Nat), m < 10 ^ k → 0 < k → padL k m = List.replicate (k - (TL.numL m).length) 48 ++ TL.numL m
  | 0, _, _, h => absurd h (by decide)
  | k + 1, m, h, _ => by
    show padL k (m / 10) ++ [48 + m % 10] = _
    by_cases hm : m < 10
    · have e : m / 10 = 0 := Nat.div_eq_of_lt hm
      have e2 : m % 10 = m := Nat.mod_eq_of_lt hm
      rw [e, e2, padL_zero, TL.numL_lt hm]
      rfl
    · have h10 : 10 ≤ m := by omega
      have hk : 0 < k := by
        cases k with
        | zero =>
          have : m < 10 := h
          omega
        | succ k => exact Nat.succ_pos _
      have hlt : m / 10 < 10 ^ k := by
        rw [Nat.div_lt_iff_lt_mul (by decide)]
        rw [Nat.pow_succ] at h
        exact h
      rw [padL_num k (m / 10) hlt hk, TL.numL_step h10, List.length_append, List.append_assoc]
      show List.replicate (k - (TL.numL (m / 10)).length) 48 ++ _ = List.replicate (k + 1 - ((TL.numL (m / 10)).length + 1)) 48 ++ _
      rw [Nat.add_sub_add_right]
theorem padL_val : ∀ (k m : Nat), m < 10 ^ k → NumText.digitsVal (padL k m) = m
  | 0, m, h => by
    have : m < 1 := h
    have e : m = 0 := by omega
    rw [e]
    rfl
  | k + 1, m, h => by
    have hlt : m / 10 < 10 ^ k := by
      rw [Nat.div_lt_iff_lt_mul (by decide)]
      rw [Nat.pow_succ] at h
      exact h
    show NumText.digitsVal (padL k (m / 10) ++ [48 + m % 10]) = m
    rw [dv_app, padL_val k _ hlt, dv_one]
    show m / 10 * 10 ^ 1 + (48 + m % 10 - 48) = m
    omega
/-! ### texts as lists of signs -/
abbrev tx (l : List Nat) : V := .str (SX.S l)
theorem isDig : ∀ c : Nat, c < 128 → Unicode.isDigit c = (decide (48 ≤ c) && decide (c ≤ 57)) := by decide +kernel
def allDig (l : List Nat) : Bool := l.all fun c => decide (48 ≤ c) && decide (c ≤ 57)
theorem allDig_iff {l : List Nat} : allDig l = true ↔ NumText.AllDigits l := by
  unfold allDig NumText.AllDigits
  rw [List.all_eq_true]
  constructor
  · intro h c hc
    have := h c hc
    simp at this
    exact this
  · intro h c hc
    have := h c hc
    simp
    exact this
theorem asciiS (l : List Nat) : Txt.isascii (SX.S l) = l.all (· < 128) := by
  unfold Txt.isascii
  simp [SX.S]
theorem digitS (l : List Nat) : Txt.isdigit (SX.S l) = (decide (0 < l.length) && l.all Unicode.isDigit) := by
  unfold Txt.isdigit
  simp [SX.S, Str.length]
theorem both_dig (l : List Nat) : (if l.all (· < 128) = true then (decide (0 < l.length) && l.all Unicode.isDigit) else false) = (decide (l ≠ []) && allDig l) := by
  by_cases h : l.all (· < 128) = true
  · rw [if_pos h]
    have e : l.all Unicode.isDigit = allDig l := by
      unfold allDig
      rw [Bool.eq_iff_iff, List.all_eq_true, List.all_eq_true]
      rw [List.all_eq_true] at h
      constructor
      · intro z c hc
        rw [← isDig c (by have := h c hc; simpa using this)]
        exact z c hc
      · intro z c hc
        rw [isDig c (by have := h c hc; simpa using this)]
        exact z c hc
    rw [e]
    cases l <;> simp
  · rw [if_neg h]
    have e : allDig l = false := by
      rw [Bool.eq_false_iff]
      intro z
      apply h
      rw [List.all_eq_true]
      intro c hc
      have := allDig_iff.mp z c hc
      simp
      omega
    rw [e, Bool.and_false]
theorem intS {l : List Nat} (h : NumText.AllDigits l) (hne : l ≠ []) (hl : l.length ≤ 640) : intText? (SX.S l) = some ((NumText.digitsVal l : Nat) : Int) := SX.int_S (allDig_iff.mpr h) hne (by omega)
theorem zfillS (l : List Nat) (k : Nat) (h : NumText.AllDigits l) (hne : l ≠ []) : Txt.zfill (SX.S l) (k : Int) = SX.S (List.replicate (k - l.length) 48 ++ l) := by
  unfold Txt.zfill
  rw [SX.S_len]
  split
  · rename_i z
    have e : k - l.length = 0 := by omega
    rw [e]
    rfl
  · rename_i z
    obtain ⟨c, r, rfl⟩ : ∃ c r, l = c :: r := by
      cases l with
      | nil => exact absurd rfl hne
      | cons c r => exact ⟨c, r, rfl⟩
    have hc := h.head
    unfold PySem.zfilled
    have e0 : (SX.S (c :: r)).cps[0]? = some c := by simp [SX.S]
    rw [e0]
    have e1 : c ≠ 43 := by omega
    have e2 : c ≠ 45 := by omega
    split
    · rename_i w; exact absurd (Option.some.inj w) e1
    · rename_i w; exact absurd (Option.some.inj w) e2
    · apply TL.ext_tl
      simp [Builtin.Str.padded, TL.tl, SX.S]
theorem sliceFromTo {a : List Nat} {i j : Nat} (h : i ≤ j) (hj : j ≤ a.length) : Txt.slice (SX.S a) (some (i : Int)) (some (j : Int)) = SX.S ((a.drop i).take (j - i)) := by
  rw [← C8.cutS_slice, ← L2.sliceText_cut, StrLaws.sliceText_nat (SX.S a) h (by rw [SX.S_len]; exact hj)]

/-! ### promises of defs while no text of a list is under way -/
structure FnG (P : Program) (w : World) (K : PySem.W.Frag) (mg : Str → Option Value) (base : Heap) (cx : CXT) (k : Nat) (f : Addr) (fd : FuncData) (ps : List Str) (sp : Sp) : Prop where
  many : ∀ vs H Q E, sp vs H Q E → vs.length = ps.length
  goes : ∀ (A : Around) (o : List Env) (s : Shared) (H : Hp) (as : Args) (us : List Value) (vs : List V) (Q : VK) (E : XK), Room k A → A.guards = some [] →
    Env0 P w K mg base A o s H → BindsTo s fd as (ps.zip us) → Vals vs us → sp vs H Q E → codeAny (model P w) A (.call (.ref f) as) (CR cx o P w H s Q E) s
theorem FnOk.free {P : Program} {w : World} {K : PySem.W.Frag} {mg : Str → Option Value} {base : Heap} {cx : CXT} {k : Nat} {f : Addr} {fd : FuncData} {ps : List Str} {sp : Sp} (F : FnOk P w K mg base cx k f fd ps sp) : FnG P w K mg base cx k f fd ps sp :=
  ⟨F.len, fun A o s H as us vs Q E hr _ => F.run A o s H as us vs Q E hr⟩
def KnG (P : Program) (w : World) (K : PySem.W.Frag) (mg : Str → Option Value) (base : Heap) (cx : CXT) (x : Str) (k : Nat) (ps : List Str) (sp : Sp) : Prop :=
  ∃ f fd, FnG P w K mg base cx k f fd ps sp ∧ mg x = some (.ref f) ∧ PySem.W.keepIn K (.ref f) = true ∧ Binds K fd ps []
section
open PyProof.Rows
/-- a def by its body, the frame's guards known -/
theorem okG {P : Program} {w : World} {K : PySem.W.Frag} {mg : Str → Option Value} {base : Heap} {x qual : Str} {st : Stmt} {f : Addr} {fd : FuncData} {N ps : List Str} {k : Nat} {sp : Sp} (F : Fun K x qual st f fd) (S : FnScope N ps (defScope st))
    (many : ∀ vs H Q E, sp vs H Q E → vs.length = ps.length)
    (body : ∀ (cdv : Value) (A : Around) (o : List Env) (s : Shared) (H : Hp) (vs : List V) (Q : VK) (E : XK), Room k (A.deeper (envOfC qual (defScope st) s.heap.objs.size f cdv)) → A.guards = some [] → sp vs H Q E →
      ∃ t, PSs (cxOf CX0 P w K mg base N qual (defScope st) f cdv A o s H E).nox (defBody st) t ∧ t { nx := fun _ H' => Q .non H', rt := Q } (start N vs) H) : FnG P w K mg base CX0 (k + 1) f fd ps sp := by
  obtain ⟨oc, od, kV, doc, pm, an, cdv, ct, osl, rfl, lk, hcd⟩ := F.ex
  refine ⟨many, fun A o s H as us vs Q E hr hg e0 hb rv hsp => ?_⟩
  have nl := many _ _ _ _ hsp
  have old : ∀ b ob, base.get? b = some ob → s.heap.get? b = some ob := fun b ob e => (e0.bs b ob e).1
  have kx : K.In s.heap := e0.mod.kin.keeps old
  refine codeAny_call_function hr.depth (kx _ _ lk) rfl S.co S.gen rfl (PySem.W.codeRec_of kx hcd) (hb _ _ _ _ (wpAny_newFunctionEnv_cells S.kind (fun ⟨n, v⟩ hy => (S.par n (List.of_mem_zip hy).1).imp id fun q => ⟨q, PySem.W.cellsFrom_some _ _ _ (.inl q)⟩) fun env he s1 xc => ?_))
  cases he
  refine ⟨(e0.mod.nolimit.keeps old).keeps xc.toInCall.keep, codeAny_func ?_⟩
  obtain ⟨t, ht, hq⟩ := body cdv A o s H vs Q E (hr.deeper _) hg hsp
  refine wpAny_mono (ht.nox.run [] s1 (start N vs) H _ (inv_start S hr.hd e0 nl rv xc) hq) (fun fl s' hs => ?_) fun e s' hs => hs
  match fl, hs with
  | .ret u, ⟨v, _, H', J, r2, q⟩ => exact ⟨v, H', J.os, J.bare, J.base, J.hok, r2, q⟩
  | .next, ⟨_, H', J, q⟩ => exact ⟨.non, H', J.os, J.bare, J.base, J.hok, rfl, q⟩
  | .brk, ⟨_, _, _, q⟩ => exact q.elim
  | .cont, ⟨_, _, _, q⟩ => exact q.elim
/-- a call of such a def -/
theorem pe_callG {X : Cx} {cx : CXT} {k : Nat} {f : Addr} {fd : FuncData} {ps : List Str} {sp : Sp} {E : XK} {x : Str} {p pos : Pos} {e : Expr} {es : List Expr} {t : TA} (F : FnG X.prog X.w X.K X.mg X.base cx k f fd ps sp) (hr : Room k X.A) (hg : X.A.guards = some []) (gl : Gl X x)
    (hm : X.mg x = some (.ref f)) (hk : PySem.W.keepIn X.K (.ref f) = true) (hb : Binds X.K fd ps []) (hx : Passes cx X E) (ha : PA X (e :: es) t) (hdb : (x == ("__debug__" : Str)) = false := by decide)
    (he : starEach (e :: es) X.env = (false, eval e X.env) :: starEach es X.env := by rfl) (hpl : (backTo pos (starEach es X.env)).any (·.1) = false := by rfl) : PE X (.Call (.Name x p) (e :: es) [] pos) (tCall sp [] E t) := by
  refine ⟨fun pins s σ H Q I h => wpAny_Call_Name_kw (ld_glob I gl hm (PySem.W.callWith_K (h₀ := X.base) I.ok.mod.kin hk (thn (ha.run pos pins s σ H _ I h) fun us s1 ⟨vs, H1, I1, r, q⟩ => ⟨I1.kIn, ?_⟩) he hpl) hdb)⟩
  have q : sp (vs ++ []) H1 Q E := q
  rw [List.append_nil] at q
  have nl : us.length = ps.length := by rw [← r.length]; exact F.many _ _ _ _ q
  have hb1 := hb s1 us I1.kIn (by rw [List.append_nil]; exact nl)
  rw [List.append_nil] at hb1
  refine wpAny_call (codeAny_mono (F.goes X.A X.stack s1 H1 ⟨us, []⟩ us vs Q E hr hg I1.env0 hb1 r q) fun re s' hq => ?_)
  match re, hq with
  | .error e, hq => exact hx pins σ H1 s1 e s' I1 hq
  | .ok (.ret _), hq => exact I1.after hq
  | .ok .next, hq => exact False.elim hq
  | .ok .brk, hq => exact False.elim hq
  | .ok .cont, hq => exact False.elim hq
/-- str() of a list or a tuple of data -/
def rStrD (K : PySem.W.Frag) : List V → Hp → VK → Prop := fun xs H Q => ∃ a d, xs = [.ref a] ∧ Dp K H (.ref a) d ∧ PyData.showable d = true ∧ PyData.hasDict d = false ∧ d.depth ≤ 40 ∧ (PyData.shown d).length ≤ sizeLine ∧ Q (.str (PyData.shown d)) H
theorem call_strD {X : Cx} {K : PySem.W.Frag} (e : X.K = K) (hg : X.A.guards = some []) (hu : X.A.units + 64 < cLine) : CallR X (.type "str") (rStrD K) := by
  subst e
  intro pins s σ H xs us Q I r h
  obtain ⟨a, d, rfl, hd, h1, h2, h3, h4, q⟩ := h
  obtain ⟨u, rfl, ru⟩ := vals1 r
  cases ru
  obtain ⟨as, rd⟩ := Dp.reads I d _ _ hd rfl
  exact PySem.str_of_reads rd h1 (PySem.PyData.noDict_hsm h2) hg (by omega) (fun _ _ h => h) (fun h' t tk hk => ⟨.str _, H, I.kept (t' := tk) hk, ⟨t, rfl⟩, q⟩) h4
end
section
open PyProof.Rows
/-- the law's call at the top -/
theorem top_callG {P : Program} {w : World} {K : PySem.W.Frag} {mg mb : Str → Option Value} {k : Nat} {fa a : Addr} {fd : FuncData} {x : Str} {sp : Sp} {z : Shared} {vs : List Value} {ns : List Int} (kx : K.In z.heap) (hm : z.heap.Ns mainGlobals mg) (hb : z.heap.Ns builtinsNs mb)
    (bb : ∀ x : Str, x ≠ "__name__" → mb x = bootBuiltins x) (nl : z.heap.NoLimit) (gn : z.gens = #[]) (ha : z.heap.get? a = some { cls := .type "list", data := .seq vs.toArray }) (hi : IntsAre vs ns) (hl : ns.length ≤ sizeLine) (hr : Room k callerA)
    (ht : P.given.tree = none) (seer : z.heap.NoSeer) (F : ∀ base : Heap, K.In base → base.Ns mainGlobals mg → Sr P base → FnG P w K mg base CX0 k fa fd [x] sp) (bd : ∀ (s : Shared) (u : Value), BindsTo s fd ⟨[u], []⟩ [(x, u)])
    (hsp : ∀ H : Hp, Only H → SqL K H a (ns.map V.int) → sp [.ref a] H (fun v _ => v = .bl true) fun _ _ _ => False) :
    codeAny (model P w) callerA (.call (.ref fa) ⟨[.ref a], []⟩) (fun r s' => r = .ok (.ret (.bool true)) ∧ OldK z.heap s'.heap ∧ s'.os = z.os ∧ AllBare s'.gens) z := by
  have lv := hi.length
  -- H tracks the script or nothing; it is hidden in the base
  have main : ∀ H : Hp, Only H → SqL K H a (ns.map V.int) → HOk P w H z.heap → (∀ b u, H b = some u → b = a ∧ K.lookup a = none) →
      codeAny (model P w) callerA (.call (.ref fa) ⟨[.ref a], []⟩) (fun r s' => r = .ok (.ret (.bool true)) ∧ OldK z.heap s'.heap ∧ s'.os = z.os ∧ AllBare s'.gens) z := by
    intro H only hS hok hA
    have clean : ∀ b, (∀ u, H b = some u → False) → H b = none := fun b h => by
      cases q : H b with
      | none => rfl
      | some u => exact (h u q).elim
    have ns2 : ∀ {b : Addr} {m : Str → Option Value}, z.heap.Ns b m → (hidT z.heap H).Ns b m := fun {b m} ⟨o, es, ep, e, d, r⟩ => ⟨o, es, ep, hidT_get e (clean b fun u q => by
      have eb := (hA b u q).1
      rw [eb, ha] at e
      cases e
      cases d), d, r⟩
    have kb : K.In (hidT z.heap H) := fun b o e => hidT_get (kx b o e) (clean b fun u q => by
      have y := hA b u q
      rw [y.1, y.2] at e
      cases e)
    obtain ⟨mc, n1, n2⟩ := nl
    have hN : (hidT z.heap H).NoSeer := ⟨let ⟨m1, a1, b1⟩ := seer.statics; ⟨m1, ns2 a1, b1⟩, let ⟨m1, a1, b1⟩ := seer.mods; ⟨m1, ns2 a1, b1⟩, let ⟨m1, a1, b1⟩ := seer.imp; ⟨m1, ns2 a1, b1⟩,
      let ⟨m1, bm, ob, a1, a2, a3, a4, a5⟩ := seer.main; ⟨m1, bm, ob, ns2 a1, a2, hidT_get a3 (clean bm fun u q => by
        have eb := (hA bm u q).1
        rw [eb, ha] at a3
        cases a3
        injection a4 with y
        exact absurd y (by decide)), a4, a5⟩⟩
    have e0 : Env0 P w K mg (hidT z.heap H) callerA [] z H := ⟨rfl, ⟨kb, ns2 hm, ⟨mb, ns2 hb, bb⟩, mc, ns2 n1, n2⟩, fun b o e => of_hidT e, Nat.le_of_eq (hidT_size _ _), trivial, fun b h => (by cases h), hok, .of_eq gn⟩
    refine codeAny_mono ((F _ kb (ns2 hm) ⟨ht, hN⟩).goes callerA [] z H ⟨[.ref a], []⟩ [.ref a] [.ref a] _ _ hr rfl e0 (bd z (.ref a)) (.cons rfl .nil) (hsp H only hS)) fun re s' h => ?_
    match re, h with
    | .error e, h => exact h.elim
    | .ok .next, h => exact False.elim h
    | .ok .brk, h => exact False.elim h
    | .ok .cont, h => exact False.elim h
    | .ok (.ret u), ⟨v, H', os, bare, un, hok', rv, q⟩ =>
      cases (show v = V.bl true from q)
      cases (show u = Value.bool true from rv)
      refine ⟨rfl, OldK.of_keep fun b o e => ?_, os, bare⟩
      cases q2 : H b with
      | none => exact un.keep b o e q2 (fun y => by cases y) (fun y => by cases y)
      | some u =>
        rcases only b with y | ⟨ob, xs, y⟩
        · rw [q2] at y
          cases y
        · obtain ⟨e1, _⟩ := hok b _ y
          obtain ⟨e2, _⟩ := hok' b _ (un.frzs b ob _ y)
          rw [e] at e1
          cases e1
          exact e2
  have rv := vals_ints hi
  cases hk : K.lookup a with
  | some o =>
    have e := kx a o hk
    rw [ha] at e
    cases e
    exact main (fun _ => none) (fun _ => .inl rfl) (.inr ⟨_, vs.toArray, _, hk, rfl, rfl, rfl, by rw [List.size_toArray, lv]; exact hl, by simpa using rv⟩) (fun b u y => by cases y) (fun b u y => by cases y)
  | none =>
    have at_ : ∀ b u, (if b = a then some (HO.frz { cls := .type "list", data := .seq vs.toArray } (.lst (ns.map V.int))) else none) = some u → b = a ∧ u = .frz { cls := .type "list", data := .seq vs.toArray } (.lst (ns.map V.int)) := fun b u y => by
      split at y
      · rename_i h
        exact ⟨h, (Option.some.inj y).symm⟩
      · cases y
    refine main (fun b => if b = a then some (.frz { cls := .type "list", data := .seq vs.toArray } (.lst (ns.map V.int))) else none) (fun b => ?_) (.inl (.inr ⟨{ cls := .type "list", data := .seq vs.toArray }, if_pos rfl⟩)) (fun b u y => ?_) fun b u y => ⟨(at_ b u y).1, hk⟩
    · by_cases hb : b = a
      · exact .inr ⟨_, _, if_pos hb⟩
      · exact .inl (if_neg hb)
    · obtain ⟨rfl, rfl⟩ := at_ b u y
      exact ⟨ha, by rw [List.length_map]; exact hl, vs, _, rv, ha⟩
end

/-! ### tuples that have no dict of their own; dict() of such a tuple of pairs -/
section
open PyProof.Rows
def NdT (H : Hp) (a : Addr) (xs : List V) : Prop := ∃ o : Obj, H a = some (.frz o (.tup xs)) ∧ o.dict = none
theorem NdT.sq {K : PySem.W.Frag} {H : Hp} {a : Addr} {xs : List V} (h : NdT H a xs) : SqT K H a xs := by
  obtain ⟨o, h, _⟩ := h
  exact .inl (.inr ⟨o, h⟩)
theorem NdT.same {H H' : Hp} {a : Addr} {xs : List V} (h : NdT H a xs) (s : Same H H') : NdT H' a xs := by
  obtain ⟨o, h, d⟩ := h
  exact ⟨o, s _ _ h, d⟩
def tTupF (t : TA) : TE := fun σ H Q => t σ H fun xs H1 => xs.length ≤ sizeLine ∧ ∀ p o, H1 p = none → o.dict = none → Q (.ref p) (upd H1 p (.frz o (.tup xs)))
theorem pe_tupF {X : Cx} {es : List Expr} {t : TA} {k : Nat} {pos : Pos} (h : PA X es t) : PE X (.Tuple es k pos) (tTupF t) := by
  refine ⟨fun pins s σ H Q I hq => ?_⟩
  refine wpAny_Tuple_spliced (thn (h.run pos pins s σ H _ I hq) fun us s1 ⟨xs, H1, I1, r, z, q⟩ => ⟨by rw [← r.length]; exact z, ?_⟩)
  exact ⟨.ref s1.heap.objs.size, _, I1.laid (t' := s1.toks) (o := .frz { cls := .type "tuple", data := .seq us.toArray } (.tup xs)) (fun b u e => Heap.get?_push_of_some _ e) (Nat.le_refl _) ⟨Heap.get?_push_size _ rfl, z, us, r, ⟨_, Heap.get?_push_size _ rfl, rfl, _, rfl⟩⟩, rfl,
    q _ _ (I1.hok.fresh (Nat.le_refl _)) rfl⟩
def rTupF (K : PySem.W.Frag) : List V → Hp → VK → Prop := fun xs H Q => ∃ p ys, xs = [.ref p] ∧ SqL K H p ys ∧ ∀ l o, H l = none → o.dict = none → Q (.ref l) (upd H l (.frz o (.tup ys)))
theorem call_tupF {X : Cx} {K : PySem.W.Frag} (e : X.K = K) : CallR X (.type "tuple") (rTupF K) := by
  subst e
  intro pins s σ H xs us Q I r h
  obtain ⟨p, ys, rfl, hq, q⟩ := h
  obtain ⟨u, rfl, rx⟩ := vals1 r
  cases rx
  obtain ⟨its, r2, pl, hz⟩ := I.list hq
  have nl := r2.length
  refine call_tuple_list pl.isList (fun h' kp => ?_) (by simp only [List.size_toArray] <;> omega)
  have J : Inv X pins σ H { s with heap := h' } := I.kept (t' := s.toks) kp
  exact ⟨.ref h'.objs.size, _, J.laid (t' := s.toks) (o := .frz { cls := .type "tuple", data := .seq its.toArray } (.tup ys)) (fun b o e => Heap.get?_push_of_some _ e) (Nat.le_refl _) ⟨Heap.get?_push_size _ rfl, hz, its, r2, IsTup.new _ _⟩, rfl, q _ _ (J.hok.fresh (Nat.le_refl _)) rfl⟩
theorem two_of {X : Cx} {pins : List (Addr × Obj)} {σ : L2.St} {H : Hp} {s : Shared} (I : Inv X pins σ H s) : ∀ {ps : List Addr} {kvs : List (Key × V)}, Paired (fun p kv => SqT X.K H p [kV kv.1, kv.2]) ps kvs →
    ∃ (prs : List (Key × Value)) (qs : List (Value × Value)), KV kvs prs ∧ prs.length = ps.length ∧ qs.length = ps.length ∧
      ∀ (j : Nat) (k v : Value), qs[j]? = some (k, v) → (∃ b, ps[j]? = some b ∧ IsTup s.heap b #[k, v]) ∧ ∃ key, prs[j]? = some (key, v) ∧ (mixKind X.prog X.w).is key k = true
  | _, _, .nil => ⟨[], [], .nil, rfl, rfl, fun j k v e => by simp at e⟩
  | _, _, .cons (a := p) (b := kv) h t => by
    obtain ⟨prs, qs, r, l1, l2, hp⟩ := two_of I t
    obtain ⟨its, rv, ht, _⟩ := I.tuple h
    obtain ⟨u, y, rfl, ru, ry⟩ := vals2 rv
    refine ⟨(kv.1, y) :: prs, (u, y) :: qs, .cons ⟨rfl, ry⟩ r, by rw [List.length_cons, List.length_cons, l1], by rw [List.length_cons, List.length_cons, l2], fun j k v e => ?_⟩
    cases j with
    | zero =>
      cases Option.some.inj e
      exact ⟨⟨p, rfl, ht⟩, kv.1, rfl, kV_is ru⟩
    | succ j => exact hp j k v e
def rDictT (K : PySem.W.Frag) : List V → Hp → VK → Prop := fun xs H Q => ∃ (a : Addr) (ps : List Addr) (kvs : List (Key × V)), xs = [.ref a] ∧ NdT H a (ps.map V.ref) ∧ Paired (fun p kv => SqT K H p [kV kv.1, kv.2]) ps kvs ∧
  ∀ p, H p = none → Q (.ref p) (upd H p (.dK (mergeK [] kvs)))
theorem call_dictT {X : Cx} {K : PySem.W.Frag} (e : X.K = K) (hc : X.calm = true) : CallR X (.type "dict") (rDictT K) := by
  subst e
  intro pins s σ H xs us Q I r h
  obtain ⟨a, ps, kvs, rfl, ⟨o, hq, hd⟩, hp, q⟩ := h
  obtain ⟨u, rfl, rx⟩ := vals1 r
  cases rx
  obtain ⟨ho, hz, its, rv, o2, ho2, hc2, n, hdat⟩ := I.hok a _ hq
  rw [ho] at ho2
  cases ho2
  have ei := refs_at rv
  subst ei
  rw [List.length_map] at hz
  obtain ⟨prs, qs, rel, l1, l2, hpr⟩ := two_of I hp
  have arg := PairArg.tuple (prog := X.prog) (w := X.w) a (ps.map Value.ref).toArray (fun j => ps.getD j a) qs
  refine PySem.call_dict_pairs (knd := mixKind X.prog X.w) (kvs := prs) arg (I.ok.hd hc) ⟨⟨o, n, ho, hc2, hd, hdat⟩, by rw [List.size_toArray, List.length_map, l2], fun j k v e => ?_⟩ ⟨by rw [l1, l2], fun i key v e => ?_⟩ (by rw [l2]; exact hz) fun h' tk hd' k => ?_
  · obtain ⟨⟨b, hb, ht⟩, _⟩ := hpr j k v e
    refine ⟨by simp [List.getD, hb], ?_⟩
    show PairAt s.heap (ps.getD j a) k v
    rw [show ps.getD j a = b by simp [List.getD, hb]]
    exact .inl ht
  · obtain ⟨_, k2, h1, h2⟩ := hpr i key v e
    exact ⟨k2, h1, h2⟩
  · have hm : (s.heap.objs.size == sysModules) = false := beq_eq_false_iff_ne.mpr (Nat.ne_of_gt I.big)
    have hlen : (mergeK [] kvs).length ≤ sizeLine := by
      refine Nat.le_trans (length_mergeK kvs []) ?_
      rw [List.length_nil, Nat.zero_add, rel.length, l1]
      exact hz
    exact ⟨.ref s.heap.objs.size, _, I.laid (t' := tk) (o := .dK (mergeK [] kvs)) (fun b ob e => k b ob (by simp) e) (Nat.le_refl _) ⟨hlen, hm, merged [] prs, KV.merge rel .nil, hd'⟩, rfl, q _ (I.hok.fresh (Nat.le_refl _))⟩
end

theorem mk_off {H : Hp} {a b g : Addr} {o : HO} (h : H a = some o) (n1 : a ≠ b) (n2 : a ≠ g) : mk b g H a = some o := by
  unfold mk
  rw [if_neg (fun z => z.elim n1 n2)]
  exact h
/-- a heap without the thing at D -/
def hide (D : Addr) (H : Hp) : Hp := fun a => if a = D then none else H a
theorem hide_sub (D : Addr) (H : Hp) : Same (hide D H) H := fun a o h => by
  unfold hide at h
  split at h
  · cases h
  · exact h
theorem hide_at {D a : Addr} {H : Hp} {o : HO} (h : H a = some o) (n : a ≠ D) : hide D H a = some o := by
  unfold hide
  rw [if_neg n]
  exact h
theorem hide_upd (D : Addr) (H : Hp) (o : HO) : hide D (upd H D o) = hide D H := funext fun a => by
  unfold hide
  by_cases h : a = D
  · rw [if_pos h, if_pos h]
  · rw [if_neg h, if_neg h, upd_ne h]
theorem hide_same {D : Addr} {H H' : Hp} (s : Same H H') (h : H D = none) : Same H (hide D H') := fun a o e => hide_at (s a o e) (fun z => by rw [z, h] at e; cases e)
theorem hide_mono {D : Addr} {H H' : Hp} (s : Same H H') : Same (hide D H) (hide D H') := fun a o e => by
  unfold hide at e
  split at e
  · cases e
  · rename_i n
    exact hide_at (s a o e) n
theorem dps_snoc {K : PySem.W.Frag} {H : Hp} : ∀ {vs : List V} {ds : List PyData} {v : V} {d : PyData}, DpAll K H vs ds → Dp K H v d → DpAll K H (vs ++ [v]) (ds ++ [d])
  | _, _, _, _, .nil, h => .cons h .nil
  | _, _, _, _, .cons a t, h => .cons a (dps_snoc t h)

end Bs
namespace Bs
open PySem L2
/-! ### the tokens of a formula's text -/
/-- the length of the run of some signs at the head -/
def runLen (cs : List Nat) : List Nat → Nat
  | [] => 0
  | x :: l => if x ∈ cs then runLen cs l + 1 else 0
def spRunEnd : Sp := fun vs H Q _ => ∃ (l cs : List Nat) (at_ : Nat), vs = [tx l, .int at_, tx cs] ∧ l.length ≤ 1000000 ∧ at_ ≤ 1000001 ∧ Q (.int ((at_ + runLen cs (l.drop at_) : Nat) : Int)) H
section
variable {P : Program} {w : World} {K : PySem.W.Frag} {mg : Str → Option Value} {base : Heap}
theorem ok_run_end (T : Bt mg) (D : Df K mg "run_end" s_run_end ["text", "at", "characters"]) : Kn P w K mg base CX0 "run_end" 33 ["text", "at", "characters"] spRunEnd := by
  obtain ⟨f, fd, F, hm, hb⟩ := D
  refine ⟨f, fd, F.ok sc_run_end (fun vs H Q E h => ?_) (fun cdv A outer s H vs Q E hr h => ?_), hm, F.kp, hb⟩
  · obtain ⟨l, cs, at_, rfl, _⟩ := h
    rfl
  · obtain ⟨l, cs, at_, rfl, hl, ha, q⟩ := h
    refine ⟨_, (pss_cons (ps_while PassesOwn.never (PW.pt (pw_and (pt_cmpR op_lt (pv 1) (pe_callB call_len_str (by rfl) T.n_len (by decide +kernel) (pa_cons (pv 0) pa_nil)) (nomark _)) (pw_and1 (pt_cmpR op_in_sign (pe_ix ix_str (pv 0) (pv 1) (fun _ _ => rfl)) (pv 2) (by rfl))))) (pss_one (ps_aug (i := 1) sc_run_end.nd rfl (Or.inl rfl) pe_int ip_add)))
      (pss_one (ps_ret (pv 1)))), ?_⟩
    refine while_by (fun σ H' => H' = H ∧ ∃ j : Nat, σ = [some (tx l), some (.int ((at_ + j : Nat) : Int)), some (tx cs)] ∧ j + runLen cs (l.drop (at_ + j)) = runLen cs (l.drop at_)) (fun σ _ => match σ with | [_, some (.int v), _] => ((l.length : Int) + 1 - v).toNat | _ => 0) ⟨rfl, 0, rfl, by rw [Nat.zero_add, Nat.add_zero]⟩ ?_ ?_
    · rintro σ H1 ⟨rfl, j, rfl, hj⟩
      have hsl : (SX.S l).length ≤ sizeLine := by rw [SX.S_len]; exact Nat.le_trans hl (by decide)
      refine ⟨_, rfl, _, rfl, _, rfl, hsl, _, _, rfl, rfl, _, rfl, ?_⟩
      rw [SX.S_len]
      refine ite2 (fun c1 => ?_) (fun c1 => ?_)
      · have c2 : ((at_ + j : Nat) : Int) < (l.length : Int) := of_decide_eq_true c1
        have hlt : at_ + j < l.length := by omega
        have ed : l.drop (at_ + j) = l[at_ + j] :: l.drop (at_ + j + 1) := List.drop_eq_getElem_cons hlt
        refine ⟨_, rfl, _, rfl, SX.S l, _, l[at_ + j], rfl, rfl, hsl, atI_nat (by rw [show (SX.S l).cps.toList = l by simp [SX.S], List.getElem?_eq_getElem hlt]), _, rfl, l[at_ + j], SX.S cs, rfl, rfl, _, rfl, ?_⟩
        rw [show (SX.S cs).cps.toList = cs by simp [SX.S]]
        refine ite2 (fun c3 => ?_) (fun c3 => ?_)
        · have c4 : l[at_ + j] ∈ cs := of_decide_eq_true c3
          refine ⟨_, rfl, _, _, rfl, rfl, ⟨rfl, j + 1, ?_, ?_⟩, ?_⟩
          · show [some (tx l), some (V.int (((at_ + j : Nat) : Int) + 1)), some (tx cs)] = _
            rw [show ((at_ + (j + 1) : Nat) : Int) = ((at_ + j : Nat) : Int) + 1 by omega]
          · rw [← hj, ed]
            show j + 1 + runLen cs (List.drop (at_ + (j + 1)) l) = j + (if l[at_ + j] ∈ cs then runLen cs (l.drop (at_ + j + 1)) + 1 else 0)
            rw [if_pos c4, show at_ + (j + 1) = at_ + j + 1 by omega]
            omega
          · show ((l.length : Int) + 1 - (((at_ + j : Nat) : Int) + 1)).toNat < ((l.length : Int) + 1 - ((at_ + j : Nat) : Int)).toNat
            omega
        · have c4 : ¬ l[at_ + j] ∈ cs := fun h => c3 (decide_eq_true h)
          refine ⟨_, rfl, ?_⟩
          rw [ed] at hj
          have : j + (if l[at_ + j] ∈ cs then runLen cs (l.drop (at_ + j + 1)) + 1 else 0) = runLen cs (List.drop at_ l) := hj
          rw [if_neg c4] at this
          rw [← this] at q
          exact q
      · have c2 : ¬ ((at_ + j : Nat) : Int) < (l.length : Int) := fun h => c1 (decide_eq_true h)
        refine ⟨_, rfl, ?_⟩
        rw [List.drop_eq_nil_of_le (by omega)] at hj
        rw [← hj] at q
        exact q
    · intro σ H' Q1 Q2 hq h
      obtain ⟨x1, g1, x0, g0, z, e, hz, i, j, ei, ej, k, ek, r⟩ := h
      refine ⟨x1, g1, x0, g0, z, e, hz, i, j, ei, ej, k, ek, ?_⟩
      cases k with
      | true =>
        obtain ⟨y0, h0, y1, h1, z2, i2, c, e1, e2, hz2, ha2, y2, h2, c3, z3, e3, e4, k2, ek2, r⟩ := r
        exact ⟨y0, h0, y1, h1, z2, i2, c, e1, e2, hz2, ha2, y2, h2, c3, z3, e3, e4, k2, ek2, hq _ _ r⟩
      | false => exact hq _ _ r
end
def digs : List Nat := [48, 49, 50, 51, 52, 53, 54, 55, 56, 57]
theorem digs_S : Str.ofString "0123456789" = SX.S digs := by decide +kernel
/-- the length of the number at the head -/
def numLen (l : List Nat) : Nat := if 0 < runLen digs l ∧ l[runLen digs l]? = some 46 ∧ 0 < runLen digs (l.drop (runLen digs l + 1)) then runLen digs l + 1 + runLen digs (l.drop (runLen digs l + 1)) else runLen digs l
theorem runLen_le (cs : List Nat) : ∀ l : List Nat, runLen cs l ≤ l.length
  | [] => Nat.le_refl _
  | x :: l => by
    unfold runLen
    have := runLen_le cs l
    split
    · rw [List.length_cons]; omega
    · exact Nat.zero_le _
theorem one_at {a : List Nat} {i : Nat} (h : i ≤ a.length) : Txt.slice (SX.S a) (some (i : Int)) (some ((i : Int) + 1)) = SX.S ((a.drop i).take 1) := by
  by_cases hi : i < a.length
  · have e := sliceFromTo (a := a) (i := i) (j := i + 1) (by omega) hi
    rw [show i + 1 - i = 1 by omega] at e
    rw [← e]
    rfl
  · have ei : i = a.length := by omega
    have e2 : Txt.slice (SX.S a) (some (i : Int)) (some ((i : Int) + 1)) = Txt.slice (SX.S a) (some (i : Int)) (some (a.length : Int)) := by
      unfold Txt.slice
      rw [SX.S_len, SX.idx_hi (by omega)]
    rw [e2, sliceFromTo (by omega) (Nat.le_refl _), ei, Nat.sub_self, List.drop_length, List.take_zero, List.take_nil]
theorem dot_S : Str.ofString "." = SX.S [46] := by decide +kernel
theorem take_dot {l : List Nat} : l.take 1 = [46] ↔ l[0]? = some 46 := by
  cases l with
  | nil => simp
  | cons x l => simp
def spScan (g : List Nat → Nat) : Sp := fun vs H Q _ => ∃ (l : List Nat) (at_ : Nat), vs = [tx l, .int at_] ∧ l.length ≤ 900000 ∧ at_ < l.length ∧ Q (.int ((at_ + g (l.drop at_) : Nat) : Int)) H
section
variable {P : Program} {w : World} {K : PySem.W.Frag} {mg : Str → Option Value} {base : Heap}
theorem ok_number_end {td : Tok} (hdg : mg "DIGITS" = some (.str "0123456789" td)) (GR : Kn P w K mg base CX0 "run_end" 33 ["text", "at", "characters"] spRunEnd) (D : Df K mg "number_end" s_number_end ["text", "at"]) : Kn P w K mg base CX0 "number_end" 34 ["text", "at"] (spScan numLen) := by
  obtain ⟨f, fd, F, hm, hb⟩ := D
  obtain ⟨f_run_end, fd_run_end, G_run_end, m_run_end, k_run_end, b_run_end⟩ := GR
  refine ⟨f, fd, F.ok sc_number_end (fun vs H Q E h => ?_) (fun cdv A outer s H vs Q E hr h => ?_), hm, F.kp, hb⟩
  · obtain ⟨l, at_, rfl, _⟩ := h
    rfl
  · obtain ⟨l, at_, rfl, hl, ha, q⟩ := h
    refine ⟨_, (pss_cons (ps_set (i := 2) sc_number_end.nd rfl (Or.inl rfl) (pe_call G_run_end (hr.mono (by omega)) rfl m_run_end k_run_end b_run_end .nil pass0 (pa_cons (pv 0) (pa_cons (pv 1) (pa_cons (pe_glob (v := tx digs) rfl hdg ⟨_, by rw [← digs_S]⟩) pa_nil)))))
      (pss_cons (ps_set (i := 3) sc_number_end.nd rfl (Or.inl rfl) (pe_call G_run_end (hr.mono (by omega)) rfl m_run_end k_run_end b_run_end .nil pass0 (pa_cons (pv 0) (pa_cons (pe_op op_add (pv 2) pe_int) (pa_cons (pe_glob (v := tx digs) rfl hdg ⟨_, by rw [← digs_S]⟩) pa_nil)))))
      (pss_cons (ps_if (PW.pt (pw_and (pt_cmpR op_gt (pv 2) (pv 1) (nomark _)) (pw_and (pt_cmpR op_eq (pe_slice C8.sl_txt (pv 0) (po_some (pv 2)) (po_some (pe_op op_add (pv 2) pe_int))) pe_str (nomark _)) (pw_and1 (pt_cmpR op_gt (pv 3) (pe_op op_add (pv 2) pe_int) (nomark _)))))) (pss_one (ps_ret (pv 3))) pss_nil)
      (pss_one (ps_ret (pv 2)))))), ?_⟩
    refine ⟨_, rfl, _, rfl, l, digs, at_, rfl, by omega, by omega, ?_⟩
    have hsl : (SX.S l).length ≤ sizeLine := by rw [SX.S_len]; exact Nat.le_trans hl (by decide)
    have p1 := runLen_le digs (l.drop at_)
    rw [List.length_drop] at p1
    refine ⟨_, rfl, _, rfl, _, _, rfl, rfl, l, digs, at_ + runLen digs (l.drop at_) + 1, rfl, by omega, by omega, ?_⟩
    refine ⟨_, rfl, _, rfl, _, _, rfl, rfl, _, rfl, ?_⟩
    have ed : l.drop (at_ + runLen digs (l.drop at_) + 1) = (l.drop at_).drop (runLen digs (l.drop at_) + 1) := by rw [List.drop_drop]; congr 1
    have eg : (l.drop (at_ + runLen digs (l.drop at_)))[0]? = (l.drop at_)[runLen digs (l.drop at_)]? := by rw [List.getElem?_drop, List.getElem?_drop, Nat.add_zero]
    have esl : at_ + runLen digs (l.drop at_) ≤ l.length := by omega
    have e1 := one_at esl
    rw [ed]
    unfold numLen at q
    generalize l.drop at_ = m at *
    generalize runLen digs (m.drop (runLen digs m + 1)) = e at *
    generalize runLen digs m = p at *
    refine ite2 (fun k1 => ?_) (fun k1 => ?_)
    · have h1 : ((at_ : Nat) : Int) < ((at_ + p : Nat) : Int) := of_decide_eq_true k1
      refine ⟨_, rfl, _, rfl, _, rfl, _, rfl, _, _, rfl, rfl, _, rfl, _, rfl, hsl, rfl, _, rfl, ?_⟩
      have ec : decide (V.str (Txt.slice (SX.S l) (some ((at_ + p : Nat) : Int)) (some (((at_ + p : Nat) : Int) + 1))) = V.str (Str.ofString ".")) = decide (m[p]? = some 46) := by
        rw [e1, dot_S, Bool.eq_iff_iff, decide_eq_true_eq, decide_eq_true_eq, ← eg, ← take_dot]
        exact ⟨fun h => SX.S_inj (by injection h), fun h => by rw [h]⟩
      refine ite2 (fun k2 => ?_) (fun k2 => ?_)
      · have h2 : m[p]? = some 46 := of_decide_eq_true (ec.symm.trans k2)
        refine ⟨_, rfl, _, rfl, _, _, rfl, rfl, _, _, rfl, rfl, _, rfl, ?_⟩
        refine ite2 (fun k3 => ?_) (fun k3 => ?_)
        · have h3 : (((at_ + p : Nat) : Int) + 1) < ((at_ + p + 1 + e : Nat) : Int) := of_decide_eq_true k3
          rw [if_pos ⟨by omega, h2, by omega⟩, show at_ + (p + 1 + e) = at_ + p + 1 + e by omega] at q
          exact ⟨_, rfl, q⟩
        · have h3 : ¬ (((at_ + p : Nat) : Int) + 1) < ((at_ + p + 1 + e : Nat) : Int) := fun h => k3 (decide_eq_true h)
          rw [if_neg (fun h => h3 (by have := h.2.2; omega))] at q
          exact ⟨_, rfl, q⟩
      · rw [if_neg (fun h => k2 (ec.trans (decide_eq_true h.2.1)))] at q
        exact ⟨_, rfl, q⟩
    · have h1 : ¬ ((at_ : Nat) : Int) < ((at_ + p : Nat) : Int) := fun h => k1 (decide_eq_true h)
      rw [if_neg (fun h => h1 (by have := h.1; omega))] at q
      exact ⟨_, rfl, q⟩
end

end Bs
namespace Bs
open PySem L2
def sgns : List Nat := [43, 45, 42, 47, 40, 41, 44]
theorem sgns_S : Str.ofString "+-*/()," = SX.S sgns := by decide +kernel
def lets : List Nat := (List.range 26).map (· + 97)
theorem lets_S : Str.ofString "abcdefghijklmnopqrstuvwxyz" = SX.S lets := by decide +kernel
instance tokDec (l : List Nat) : Decidable (∃ x, l[0]? = some x ∧ x ∈ sgns) := match l with
  | [] => .isFalse fun ⟨x, h, _⟩ => by cases h
  | y :: _ => if h : y ∈ sgns then .isTrue ⟨y, rfl, h⟩ else .isFalse fun ⟨x, e, m⟩ => h (by cases e; exact m)
/-- the length of the token at the head; 0 where none begins -/
def tokLen (l : List Nat) : Nat := if (∃ x, l[0]? = some x ∧ x ∈ sgns) then 1 else if 0 < runLen lets l then (if runLen lets l ≤ 8 then runLen lets l else 0) else numLen l
section
variable {P : Program} {w : World} {K : PySem.W.Frag} {mg : Str → Option Value} {base : Heap}
theorem ok_token_end {t1 t2 t3 : Tok} (hsg : mg "SIGNS" = some (.str "+-*/()," t1)) (hle : mg "LETTERS" = some (.str "abcdefghijklmnopqrstuvwxyz" t2)) (hnl : mg "NAME_LETTERS" = some (.int 8 t3)) (GR : Kn P w K mg base CX0 "run_end" 33 ["text", "at", "characters"] spRunEnd) (GN : Kn P w K mg base CX0 "number_end" 34 ["text", "at"] (spScan numLen)) (D : Df K mg "token_end" s_token_end ["text", "at"]) :
    Kn P w K mg base CX0 "token_end" 35 ["text", "at"] (spScan tokLen) := by
  obtain ⟨f, fd, F, hm, hb⟩ := D
  obtain ⟨f_run_end, fd_run_end, G_run_end, m_run_end, k_run_end, b_run_end⟩ := GR
  obtain ⟨f_number_end, fd_number_end, G_number_end, m_number_end, k_number_end, b_number_end⟩ := GN
  refine ⟨f, fd, F.ok sc_token_end (fun vs H Q E h => ?_) (fun cdv A outer s H vs Q E hr h => ?_), hm, F.kp, hb⟩
  · obtain ⟨l, at_, rfl, _⟩ := h
    rfl
  · obtain ⟨l, at_, rfl, hl, ha, q⟩ := h
    refine ⟨_, (pss_cons (ps_if (pt_cmpR op_in_sign (pe_ix ix_str (pv 0) (pv 1) (fun _ _ => rfl)) (pe_glob (v := tx sgns) rfl hsg ⟨_, by rw [← sgns_S]⟩) (by rfl)) (pss_one (ps_ret (pe_op op_add (pv 1) pe_int))) pss_nil)
      (pss_cons (ps_set (i := 2) sc_token_end.nd rfl (Or.inl rfl) (pe_call G_run_end (hr.mono (by omega)) rfl m_run_end k_run_end b_run_end .nil pass0 (pa_cons (pv 0) (pa_cons (pv 1) (pa_cons (pe_glob (v := tx lets) rfl hle ⟨_, by rw [← lets_S]⟩) pa_nil)))))
      (pss_cons (ps_if (pt_cmpR op_gt (pv 2) (pv 1) (nomark _)) (pss_one (ps_ret (pe_ifExp (pt_cmpR op_le (pe_op op_sub (pv 2) (pv 1)) (pe_glob (v := .int 8) rfl hnl ⟨_, rfl⟩) (nomark _)) (pv 2) (pv 1)))) pss_nil)
      (pss_one (ps_ret (pe_call G_number_end (hr.mono (by omega)) rfl m_number_end k_number_end b_number_end .nil pass0 (pa_cons (pv 0) (pa_cons (pv 1) pa_nil)))))))), ?_⟩
    have hsl : (SX.S l).length ≤ sizeLine := by rw [SX.S_len]; exact Nat.le_trans hl (by decide)
    have e0 : (l.drop at_)[0]? = some l[at_] := by rw [List.getElem?_drop, Nat.add_zero, List.getElem?_eq_getElem ha]
    refine ⟨_, rfl, _, rfl, SX.S l, _, l[at_], rfl, rfl, hsl, atI_nat (by rw [show (SX.S l).cps.toList = l by simp [SX.S], List.getElem?_eq_getElem ha]), l[at_], SX.S sgns, rfl, rfl, _, rfl, ?_⟩
    rw [show (SX.S sgns).cps.toList = sgns by simp [SX.S]]
    refine ite2 (fun k1 => ?_) (fun k1 => ?_)
    · have h1 : l[at_] ∈ sgns := of_decide_eq_true k1
      have et : tokLen (l.drop at_) = 1 := if_pos ⟨_, e0, h1⟩
      rw [et] at q
      exact ⟨_, rfl, _, _, rfl, rfl, q⟩
    · have h1 : ¬ l[at_] ∈ sgns := fun h => k1 (decide_eq_true h)
      have et : tokLen (l.drop at_) = if 0 < runLen lets (l.drop at_) then (if runLen lets (l.drop at_) ≤ 8 then runLen lets (l.drop at_) else 0) else numLen (l.drop at_) := if_neg (fun ⟨x, e, m⟩ => h1 (by rw [e0] at e; cases e; exact m))
      rw [et] at q
      refine ⟨_, rfl, _, rfl, l, lets, at_, rfl, by omega, by omega, ?_⟩
      refine ⟨_, rfl, _, rfl, _, _, rfl, rfl, _, rfl, ?_⟩
      refine ite2 (fun k2 => ?_) (fun k2 => ?_)
      · have h2 : ((at_ : Nat) : Int) < ((at_ + runLen lets (l.drop at_) : Nat) : Int) := of_decide_eq_true k2
        rw [if_pos (by omega)] at q
        refine ⟨_, rfl, _, rfl, _, _, rfl, rfl, _, _, rfl, rfl, _, rfl, ?_⟩
        refine ite2 (fun k3 => ?_) (fun k3 => ?_)
        · have h3 : ((at_ + runLen lets (l.drop at_) : Nat) : Int) - ((at_ : Nat) : Int) ≤ 8 := of_decide_eq_true k3
          rw [if_pos (by omega)] at q
          exact ⟨_, rfl, q⟩
        · have h3 : ¬ ((at_ + runLen lets (l.drop at_) : Nat) : Int) - ((at_ : Nat) : Int) ≤ 8 := fun h => k3 (decide_eq_true h)
          rw [if_neg (by omega), Nat.add_zero] at q
          exact ⟨_, rfl, q⟩
      · have h2 : ¬ ((at_ : Nat) : Int) < ((at_ + runLen lets (l.drop at_) : Nat) : Int) := fun h => k2 (decide_eq_true h)
        rw [if_neg (by omega)] at q
        exact ⟨_, rfl, _, rfl, l, at_, rfl, hl, ha, q⟩
end

end Bs
namespace Bs
open PySem L2
/-- the tokens of a text from a place on -/
inductive Toks (l : List Nat) : Nat → List (List Nat × Nat) → Prop
  | done {i : Nat} : l.length ≤ i → Toks l i []
  | space {i : Nat} {ts : List (List Nat × Nat)} : l[i]? = some 32 → Toks l (i + 1) ts → Toks l i ts
  | tok {i : Nat} {ts : List (List Nat × Nat)} : l[i]? ≠ some 32 → i < l.length → 0 < tokLen (l.drop i) → Toks l (i + tokLen (l.drop i)) ts → Toks l i (((l.drop i).take (tokLen (l.drop i)), i) :: ts)
/-- the first place where no token begins -/
inductive ToksNo (l : List Nat) : Nat → Nat → Prop
  | here {i : Nat} : l[i]? ≠ some 32 → i < l.length → tokLen (l.drop i) = 0 → ToksNo l i i
  | space {i p : Nat} : l[i]? = some 32 → ToksNo l (i + 1) p → ToksNo l i p
  | tok {i p : Nat} : l[i]? ≠ some 32 → i < l.length → 0 < tokLen (l.drop i) → ToksNo l (i + tokLen (l.drop i)) p → ToksNo l i p
theorem numLen_le (l : List Nat) : numLen l ≤ l.length := by
  unfold numLen
  have p := runLen_le digs l
  split
  · rename_i h
    have h1 := get_lt h.2.1
    have e := runLen_le digs (l.drop (runLen digs l + 1))
    rw [List.length_drop] at e
    omega
  · exact p
theorem tokLen_le (l : List Nat) : tokLen l ≤ l.length := by
  unfold tokLen
  split
  · rename_i h
    obtain ⟨x, hx, _⟩ := h
    exact get_lt hx
  · split
    · split
      · exact runLen_le _ _
      · exact Nat.zero_le _
    · exact numLen_le l
def tokD (t : List Nat × Nat) : PyData := .tuple [.str (SX.S t.1), .int (t.2 : Nat)]
def spTokens (K : PySem.W.Frag) (C : Addr) : Sp := fun vs H Q E => ∃ l : List Nat, vs = [tx l] ∧ l.length ≤ 90000 ∧
  (∀ ts, Toks l 0 ts → ∀ (D : Addr) (xs : List V) (H' : Hp), Same H H' → H' D = some (.lst xs) → H D = none → DpAll K (hide D H') xs (ts.map tokD) → Q (.ref D) H') ∧
  ∀ p, ToksNo l 0 p → ∀ dx H', Same H H' → H' dx = some (.xd [("position", .int (p : Nat))]) → E (.ref C) (some dx) H'
section
variable {P : Program} {w : World} {K : PySem.W.Frag} {mg : Str → Option Value} {base : Heap}
theorem ok_tokens_of {C : Addr} (T : Bt mg) (Ti : ErrF P w K mg base "FormulaSyntax" "position" C) (GT : Kn P w K mg base CX0 "token_end" 35 ["text", "at"] (spScan tokLen)) (D : Df K mg "tokens_of" s_tokens_of ["text"]) :
    Kn P w K mg base (L2.CX P w) "tokens_of" 36 ["text"] (spTokens K C) := by
  obtain ⟨f, fd, F, hm, hb⟩ := D
  obtain ⟨f_token_end, fd_token_end, G_token_end, m_token_end, k_token_end, b_token_end⟩ := GT
  obtain ⟨fI, fdI, iC, tI, F1, b1⟩ := Ti.ini
  refine ⟨f, fd, F.okX sc_tokens_of (fun vs H Q E h => ?_) (fun cdv A outer s H vs Q E hr h => ?_), hm, F.kp, hb⟩
  · obtain ⟨l, rfl, _⟩ := h
    rfl
  · obtain ⟨l, rfl, hl, q1, q2⟩ := h
    refine ⟨_, (pss_cons (ps_set (i := 1) sc_tokens_of.nd rfl (Or.inl rfl) (pe_lst pa_nil))
      (pss_cons (ps_set (i := 2) sc_tokens_of.nd rfl (Or.inl rfl) pe_int)
      (pss_cons (ps_while (passes_of rfl) (pt_cmpR op_lt (pv 2) (pe_callB call_len_str (by rfl) T.n_len (by decide +kernel) (pa_cons (pv 0) pa_nil)) (nomark _)) (pss_cons (ps_set (i := 3) sc_tokens_of.nd rfl (Or.inl rfl) (pe_call G_token_end (hr.mono (by omega)) rfl m_token_end k_token_end b_token_end .nil pass0 (pa_cons (pv 0) (pa_cons (pv 2) pa_nil))))
      (pss_cons (ps_if (pt_cmpR op_eq (pe_ix ix_str (pv 0) (pv 2) (fun _ _ => rfl)) pe_str (nomark _)) (pss_one (ps_set (i := 3) sc_tokens_of.nd rfl (Or.inl rfl) (pe_op op_add (pv 2) pe_int))) (pss_one (ps_if (pt_cmpR op_eq (pv 3) (pv 2) (nomark _)) (pss_one (ps_raise rfl (takes_of rfl rfl rfl rfl) (pmk_oex Ti.ox iC tI F1 (hr.mono (by omega)) b1 .nil pass0 rfl Ti.gC (pa_cons (pv 2) pa_nil)))) (pss_one (ps_expr (pe_bm PySem.F.plainAttrs_list PySem.F.slot_list_append PySem.F.type_list_append mt_append (pv 1) (pa_cons (pe_tup (pa_cons (pe_slice C8.sl_txt (pv 0) (po_some (pv 2)) (po_some (pv 3))) (pa_cons (pv 2) pa_nil))) pa_nil)))))))
      (pss_one (ps_set (i := 2) sc_tokens_of.nd rfl (Or.inl rfl) (pv 3))))))
      (pss_one (ps_ret (pv 1)))))), ?_⟩
    have hsl : (SX.S l).length ≤ sizeLine := by rw [SX.S_len]; exact Nat.le_trans hl (by decide)
    refine ⟨(by show 0 ≤ sizeLine; decide), fun D hD => ?_⟩
    refine while_by (fun σ H' => ∃ (i : Nat) (ds : List (List Nat × Nat)) (xs : List V) (o3 : Option V), σ = [some (tx l), some (.ref D), some (.int (i : Nat)), o3] ∧ i ≤ l.length ∧ ds.length ≤ i ∧ Same H H' ∧ H' D = some (.lst xs) ∧ DpAll K (hide D H') xs (ds.map tokD) ∧ (∀ ts, Toks l i ts → Toks l 0 (ds ++ ts)) ∧ ∀ p, ToksNo l i p → ToksNo l 0 p)
      (fun σ _ => match σ with | [_, _, some (.int v), _] => ((l.length : Int) + 1 - v).toNat | _ => 0) ⟨0, [], [], none, rfl, Nat.zero_le _, Nat.le_refl _, same_new hD _, upd_same, .nil, fun ts h => h, fun p h => h⟩ ?_ ?_
    · rintro σ H1 ⟨i, ds, xs, o3, rfl, hi, ld, s1, hDx, hall, t1, t2⟩
      refine ⟨_, rfl, _, rfl, _, rfl, hsl, _, _, rfl, rfl, _, rfl, ?_⟩
      rw [SX.S_len]
      refine ite2 (fun k1 => ?_) (fun k1 => ?_)
      · have h1 : ((i : Nat) : Int) < (l.length : Int) := of_decide_eq_true k1
        have hlt : i < l.length := by omega
        refine ⟨_, rfl, _, rfl, l, i, rfl, by omega, hlt, ?_⟩
        have at0 : atI (SX.S l).cps.toList (i : Nat) = some l[i] := atI_nat (by rw [show (SX.S l).cps.toList = l by simp [SX.S], List.getElem?_eq_getElem hlt])
        have el : l[i]? = some l[i] := List.getElem?_eq_getElem hlt
        refine ⟨_, rfl, _, rfl, SX.S l, _, l[i], rfl, rfl, hsl, at0, rfl, _, rfl, ?_⟩
        have esp : decide (V.str ⟨#[l[i]]⟩ = V.str (Str.ofString " ")) = decide (l[i] = 32) := by
          rw [show Str.ofString " " = (⟨#[32]⟩ : Str) by decide +kernel, Bool.eq_iff_iff, decide_eq_true_eq, decide_eq_true_eq]
          exact ⟨fun h => by injection h with h; injection h with h; simpa using h, fun h => by rw [h]⟩
        refine ite2 (fun k2 => ?_) (fun k2 => ?_)
        · have h2 : l[i]? = some 32 := by rw [el, of_decide_eq_true (esp.symm.trans k2)]
          refine ⟨_, rfl, _, _, rfl, rfl, _, rfl, ⟨i + 1, ds, xs, _, rfl, hlt, by omega, s1, hDx, hall, fun ts h => t1 ts (.space h2 h), fun p h => t2 p (.space h2 h)⟩, ?_⟩
          show ((l.length : Int) + 1 - (((i : Nat) : Int) + 1)).toNat < ((l.length : Int) + 1 - ((i : Nat) : Int)).toNat
          omega
        · have h2 : l[i]? ≠ some 32 := fun h => k2 (esp.trans (decide_eq_true (by rw [el] at h; exact Option.some.inj h)))
          refine ⟨_, rfl, _, rfl, rfl, _, rfl, ?_⟩
          refine ite2 (fun k3 => ?_) (fun k3 => ?_)
          · have h3 : tokLen (l.drop i) = 0 := by
              have z := of_decide_eq_true k3
              injection z with z
              omega
            have q3 := q2 i (t2 i (.here h2 hlt h3))
            refine ⟨_, rfl, (by show 1 ≤ 1000; decide), fun a na => ?_⟩
            refine ⟨a, .int (i : Nat), rfl, upd_same, fun dx hdx nx => ⟨rfl, dx, [("position", .int (i : Nat))], upd_same, ?_, ?_, ?_⟩⟩
            · rw [upd_ne nx, upd_same]
            · rw [upd_ne nx] at hdx
              exact hdx
            · rw [upd_ne nx] at hdx
              refine q3 dx _ (s1.trans fun b o hbo => ?_) upd_same
              have n1 : b ≠ a := ne_of_none hbo na
              have n2 : b ≠ dx := ne_of_none hbo hdx
              rw [upd_ne n2, del_ne n1, upd_ne n1, upd_ne n2, upd_ne n1]
              exact hbo
          · have h3 : 0 < tokLen (l.drop i) := by
              rcases Nat.eq_zero_or_pos (tokLen (l.drop i)) with z | z
              · exact absurd (decide_eq_true (by rw [z]; rfl)) k3
              · exact z
            have tl := tokLen_le (l.drop i)
            rw [List.length_drop] at tl
            have es : Txt.slice (SX.S l) (some ((i : Nat) : Int)) (some ((i + tokLen (l.drop i) : Nat) : Int)) = SX.S ((l.drop i).take (tokLen (l.drop i))) := by
              rw [sliceFromTo (by omega) (by omega), Nat.add_sub_cancel_left]
            have etok : tokD ((l.drop i).take (tokLen (l.drop i)), i) = .tuple [.str (Txt.slice (SX.S l) (some ((i : Nat) : Int)) (some ((i + tokLen (l.drop i) : Nat) : Int))), .int ((i : Nat) : Int)] := by
              rw [es]
              rfl
            refine ⟨_, rfl, .inl ⟨rfl, _, SqL.of hDx⟩, _, rfl, _, rfl, _, rfl, _, rfl, _, rfl, _, rfl, hsl, _, rfl, (by show 2 ≤ sizeLine; decide), fun p np => ?_⟩
            have s2 := same_new np (.tup [V.str (Txt.slice (SX.S l) (some ((i : Nat) : Int)) (some ((i + tokLen (l.drop i) : Nat) : Int))), V.int ((i : Nat) : Int)])
            have pD : p ≠ D := fun e => by rw [e, hDx] at np; cases np
            have lx : xs.length = ds.length := by rw [dps_len hall, List.length_map]
            refine ⟨D, xs, _, rfl, rfl, s2 _ _ hDx, small1e5 (by omega), _, rfl, ⟨i + tokLen (l.drop i), ds ++ [((l.drop i).take (tokLen (l.drop i)), i)], xs ++ [.ref p], _, rfl, by omega, by rw [List.length_append]; show ds.length + 1 ≤ _; omega, same_upd (s1.trans s2) hD, upd_same, ?_, fun ts h => ?_, fun p h => t2 p (.tok h2 hlt h3 h)⟩, ?_⟩
            · rw [hide_upd, List.map_append, List.map_cons, List.map_nil, etok]
              exact dps_snoc (dps_same (hide_mono s2) _ _ hall) (.tup (SqT.of (hide_at upd_same pD)) (.cons (.str _) (.cons (.int _) .nil)))
            · rw [List.append_assoc]
              exact t1 _ (.tok h2 hlt h3 h)
            · show ((l.length : Int) + 1 - ((i + tokLen (l.drop i) : Nat) : Int)).toNat < ((l.length : Int) + 1 - ((i : Nat) : Int)).toNat
              omega
      · have h1 : ¬ ((i : Nat) : Int) < (l.length : Int) := fun h => k1 (decide_eq_true h)
        have e1 : i = l.length := by omega
        refine ⟨_, rfl, q1 ds (by have z := t1 [] (.done (by omega)); rwa [List.append_nil] at z) D xs _ s1 hDx hD hall⟩
    · intro σ H' Q1 Q2 hq h
      obtain ⟨x1, g1, x0, g0, z, e, hz, i, j, ei, ej, k, ek, r⟩ := h
      exact ⟨x1, g1, x0, g0, z, e, hz, i, j, ei, ej, k, ek, hq _ _ r⟩
end

end Bs
namespace Bs
open PySem L2
/-! ### a text cut into its tokens, piece by piece -/
inductive Lex : Nat → List Nat → List (List Nat × Nat) → Prop
  | nil {i : Nat} : Lex i [] []
  | space {i : Nat} {s : List Nat} {ts : List (List Nat × Nat)} : Lex (i + 1) s ts → Lex i (32 :: s) ts
  | tok {i c : Nat} {w s : List Nat} {ts : List (List Nat × Nat)} : c ≠ 32 → tokLen (c :: w ++ s) = (c :: w).length → Lex (i + (c :: w).length) s ts → Lex i (c :: w ++ s) ((c :: w, i) :: ts)
theorem lex_toks {i : Nat} {s : List Nat} {ts : List (List Nat × Nat)} (h : Lex i s ts) : ∀ pre : List Nat, pre.length = i → Toks (pre ++ s) i ts := by
  induction h with
  | nil =>
    intro pre e
    exact .done (by rw [List.append_nil]; omega)
  | @space i s ts _ ih =>
    intro pre e
    refine .space (by rw [List.getElem?_append_right (by omega), e, Nat.sub_self]; rfl) ?_
    have z := ih (pre ++ [32]) (by rw [List.length_append, e]; rfl)
    rwa [List.append_assoc] at z
  | @tok i c w s ts hc hl _ ih =>
    intro pre e
    have ed : (pre ++ (c :: w ++ s)).drop i = c :: w ++ s := by rw [← e, List.drop_left]
    have z := ih (pre ++ (c :: w)) (by rw [List.length_append, e])
    rw [List.append_assoc] at z
    have key := Toks.tok (l := pre ++ (c :: w ++ s)) (i := i) (ts := ts) (by rw [List.getElem?_append_right (by omega), e, Nat.sub_self]; intro q; exact hc (Option.some.inj q)) (by rw [List.length_append, List.length_append, List.length_cons]; omega) (by rw [ed, hl, List.length_cons]; omega) (by rw [ed, hl]; exact z)
    rw [ed, hl, List.take_left] at key
    exact key
theorem run_all {cs : List Nat} : ∀ {w s : List Nat}, (∀ c ∈ w, c ∈ cs) → (∀ c, s.head? = some c → c ∉ cs) → runLen cs (w ++ s) = w.length
  | [], [], _, _ => rfl
  | [], c :: s, _, h => if_neg (h c rfl)
  | c :: w, s, h, hs => by
    show (if c ∈ cs then runLen cs (w ++ s) + 1 else 0) = w.length + 1
    rw [if_pos (h c (List.mem_cons_self ..)), run_all (fun x hx => h x (List.mem_cons_of_mem _ hx)) hs]
theorem run_none {cs : List Nat} {c : Nat} {s : List Nat} (h : c ∉ cs) : runLen cs (c :: s) = 0 := if_neg h
theorem tok_sign {c : Nat} {s : List Nat} (h : c ∈ sgns) : tokLen (c :: s) = 1 := if_pos ⟨c, rfl, h⟩
theorem tok_name {c : Nat} {w s : List Nat} (h : ∀ x ∈ c :: w, x ∈ lets) (hl : (c :: w).length ≤ 8) (hs : ∀ x, s.head? = some x → x ∉ lets) : tokLen (c :: w ++ s) = (c :: w).length := by
  have r := run_all h hs
  have n : ¬ ∃ x, (c :: w ++ s)[0]? = some x ∧ x ∈ sgns := fun ⟨x, e, m⟩ => by
    cases e
    exact (by decide : ∀ c ∈ sgns, c ∉ lets) c m (h c (List.mem_cons_self ..))
  unfold tokLen
  rw [if_neg n, r, if_pos (by rw [List.length_cons]; omega), if_pos hl]
theorem tok_number {c : Nat} {w s : List Nat} (h : ∀ x ∈ c :: w, x ∈ digs) (hs : ∀ x, s.head? = some x → x ∉ digs ∧ x ≠ 46) : tokLen (c :: w ++ s) = (c :: w).length := by
  have hc := h c (List.mem_cons_self ..)
  have n : ¬ ∃ x, (c :: w ++ s)[0]? = some x ∧ x ∈ sgns := fun ⟨x, e, m⟩ => by
    cases e
    exact (by decide : ∀ c ∈ sgns, c ∉ digs) c m hc
  have l0 : runLen lets (c :: w ++ s) = 0 := run_none ((by decide : ∀ c ∈ digs, c ∉ lets) c hc)
  have r := run_all h (s := s) (fun x hx => (hs x hx).1)
  unfold tokLen
  rw [if_neg n, l0, if_neg (by omega)]
  unfold numLen
  rw [r, if_neg]
  rintro ⟨_, e, _⟩
  rw [List.getElem?_append_right (Nat.le_refl _), Nat.sub_self] at e
  cases s with
  | nil => cases e
  | cons y s => exact (hs y rfl).2 (Option.some.inj e)
theorem tok_point {c d : Nat} {w v s : List Nat} (h : ∀ x ∈ c :: w, x ∈ digs) (hv : ∀ x ∈ d :: v, x ∈ digs) (hs : ∀ x, s.head? = some x → x ∉ digs) :
    tokLen (c :: (w ++ 46 :: d :: v) ++ s) = (c :: (w ++ 46 :: d :: v)).length := by
  have hc := h c (List.mem_cons_self ..)
  have n : ¬ ∃ x, (c :: (w ++ 46 :: d :: v) ++ s)[0]? = some x ∧ x ∈ sgns := fun ⟨x, e, m⟩ => by
    cases e
    exact (by decide : ∀ c ∈ sgns, c ∉ digs) c m hc
  have l0 : runLen lets (c :: (w ++ 46 :: d :: v) ++ s) = 0 := run_none ((by decide : ∀ c ∈ digs, c ∉ lets) c hc)
  have e1 : c :: (w ++ 46 :: d :: v) ++ s = (c :: w) ++ 46 :: (d :: v ++ s) := by simp
  have r := run_all h (s := 46 :: (d :: v ++ s)) (fun x hx => by cases hx; decide)
  have e2 : ((c :: w) ++ 46 :: (d :: v ++ s)).drop ((c :: w).length + 1) = d :: v ++ s := by
    rw [List.drop_append, List.drop_eq_nil_of_le (by omega), List.nil_append, Nat.add_sub_cancel_left]
    rfl
  have r2 := run_all hv hs
  unfold tokLen
  rw [if_neg n, l0, if_neg (by omega), e1]
  unfold numLen
  rw [r, e2, r2, if_pos ⟨by rw [List.length_cons]; omega, by rw [List.getElem?_append_right (Nat.le_refl _), Nat.sub_self]; rfl, by rw [List.length_cons]; omega⟩]
  simp only [List.length_cons, List.length_append]
  omega

end Bs
namespace Bs
/-! ### the order of the steps of a formula: the machine over tokens -/
abbrev Stp := List Nat × Nat × Nat
abbrev Tkn := List Nat × Nat
def oppW : List Nat := [45, 32, 102, 97, 99, 116, 111, 114]
def sumW : List Nat := [115, 117, 109]
def avgW : List Nat := [97, 118, 101, 114, 97, 103, 101]
def rankW (w : List Nat) : Nat := if w = [43] ∨ w = [45] then 1 else if w = [42] ∨ w = [47] then 2 else if w = oppW then 3 else 0
inductive Exp | factor | list | operator
  deriving DecidableEq
structure Mch where
  steps : List Stp
  /-- the last one first -/
  wait : List Stp
  exp : Exp
def releaseW (r : Nat) : List Stp → List Stp → List Stp × List Stp
  | [], ss => ([], ss)
  | x :: ws, ss => if r ≤ rankW x.1 then releaseW r ws (ss ++ [x]) else (x :: ws, ss)
def signW (w : List Nat) : Prop := w = [43] ∨ w = [45] ∨ w = [42] ∨ w = [47] ∨ w = [40] ∨ w = [41] ∨ w = [44]
instance (w : List Nat) : Decidable (signW w) := by unfold signW; infer_instance
def takeW (m : Mch) (t : Tkn) : Except Nat Mch := match m.exp with
  | .factor =>
    if t.1 = [45] then .ok { m with wait := (oppW, t.2, 1) :: m.wait }
    else if t.1 = [40] then .ok { m with wait := (t.1, t.2, 1) :: m.wait }
    else if t.1 = sumW ∨ t.1 = avgW then .ok { m with wait := (t.1, t.2, 1) :: m.wait, exp := .list }
    else if signW t.1 then .error t.2
    else .ok { m with steps := m.steps ++ [(t.1, t.2, 0)], exp := .operator }
  | .list => if t.1 = [40] then .ok { m with exp := .factor } else .error t.2
  | .operator =>
    if t.1 = [43] ∨ t.1 = [45] ∨ t.1 = [42] ∨ t.1 = [47] then
      .ok ⟨(releaseW (rankW t.1) m.wait m.steps).2, (t.1, t.2, 2) :: (releaseW (rankW t.1) m.wait m.steps).1, .factor⟩
    else match releaseW 1 m.wait m.steps with
      | ([], _) => .error t.2
      | ((o, i, n) :: ws, ss) =>
        if t.1 = [44] then (if o = [40] then .error t.2 else .ok ⟨ss, (o, i, n + 1) :: ws, .factor⟩)
        else if t.1 = [41] then (if o = [40] then .ok ⟨ss, ws, .operator⟩ else .ok ⟨ss ++ [(o, i, n)], ws, .operator⟩)
        else .error t.2
def takesW : Mch → List Tkn → Except Nat Mch
  | m, [] => .ok m
  | m, t :: ts => match takeW m t with
    | .ok m' => takesW m' ts
    | .error p => .error p
/-- the steps of the texts that the grammar has -/
inductive Prt | fac | prd | sm | parts (n : Nat)
inductive Gr : Prt → List Tkn → List Stp → Prop
  | atom {w : List Nat} {p : Nat} : w ≠ sumW → w ≠ avgW → ¬ signW w → Gr .fac [(w, p)] [(w, p, 0)]
  | neg {p : Nat} {ts : List Tkn} {ss : List Stp} : Gr .fac ts ss → Gr .fac (([45], p) :: ts) (ss ++ [(oppW, p, 1)])
  | par {p q : Nat} {ts : List Tkn} {ss : List Stp} : Gr .sm ts ss → Gr .fac (([40], p) :: (ts ++ [([41], q)])) ss
  | fn {w : List Nat} {p q r n : Nat} {ts : List Tkn} {ss : List Stp} : (w = sumW ∨ w = avgW) → Gr (.parts n) ts ss → Gr .fac ((w, p) :: ([40], q) :: (ts ++ [([41], r)])) (ss ++ [(w, p, n)])
  | prd1 {ts : List Tkn} {ss : List Stp} : Gr .fac ts ss → Gr .prd ts ss
  | prd {w : List Nat} {p : Nat} {ts us : List Tkn} {ss rr : List Stp} : (w = [42] ∨ w = [47]) → Gr .prd ts ss → Gr .fac us rr → Gr .prd (ts ++ (w, p) :: us) (ss ++ rr ++ [(w, p, 2)])
  | sm1 {ts : List Tkn} {ss : List Stp} : Gr .prd ts ss → Gr .sm ts ss
  | sm {w : List Nat} {p : Nat} {ts us : List Tkn} {ss rr : List Stp} : (w = [43] ∨ w = [45]) → Gr .sm ts ss → Gr .prd us rr → Gr .sm (ts ++ (w, p) :: us) (ss ++ rr ++ [(w, p, 2)])
  | parts1 {ts : List Tkn} {ss : List Stp} : Gr .sm ts ss → Gr (.parts 1) ts ss
  | parts {n p : Nat} {ts us : List Tkn} {ss rr : List Stp} : Gr (.parts n) ts ss → Gr .sm us rr → Gr (.parts (n + 1)) (ts ++ ([44], p) :: us) (ss ++ rr)
theorem release_all {r : Nat} : ∀ {P W : List Stp} {S : List Stp}, (∀ x ∈ P, r ≤ rankW x.1) → (∀ x, W.head? = some x → rankW x.1 < r) → releaseW r (P ++ W) S = (W, S ++ P)
  | [], [], S, _, _ => by simp [releaseW]
  | [], x :: W, S, _, h => by
    have := h x rfl
    show (if r ≤ rankW x.1 then _ else (x :: W, S)) = _
    rw [if_neg (by omega), List.append_nil]
  | x :: P, W, S, hp, hw => by
    show (if r ≤ rankW x.1 then releaseW r (P ++ W) (S ++ [x]) else _) = _
    rw [if_pos (hp x (List.mem_cons_self ..)), release_all (fun y hy => hp y (List.mem_cons_of_mem _ hy)) hw, List.append_assoc]
    rfl
theorem takes_app : ∀ {ts us : List Tkn} {m m' : Mch}, takesW m ts = .ok m' → takesW m (ts ++ us) = takesW m' us
  | [], us, m, m', h => by cases h; rfl
  | t :: ts, us, m, m', h => by
    show (match takeW m t with | .ok m' => takesW m' (ts ++ us) | .error p => .error p) = _
    have h2 : (match takeW m t with | .ok m' => takesW m' ts | .error p => .error p) = Except.ok m' := h
    cases e : takeW m t with
    | ok m1 =>
      rw [e] at h2
      exact takes_app h2
    | error p =>
      rw [e] at h2
      cases h2
/-- what running over a part leads to: the steps that wait still are at least of its rank -/
def Ends6 (k : Prt) (S W : List Stp) (ts : List Tkn) (ss : List Stp) : Prop := match k with
  | .fac => ∃ S1 P, takesW ⟨S, W, .factor⟩ ts = .ok ⟨S1, P ++ W, .operator⟩ ∧ S1 ++ P = S ++ ss ∧ ∀ x ∈ P, 3 ≤ rankW x.1
  | .prd => (∀ x, W.head? = some x → rankW x.1 < 2) → ∃ S1 P, takesW ⟨S, W, .factor⟩ ts = .ok ⟨S1, P ++ W, .operator⟩ ∧ S1 ++ P = S ++ ss ∧ ∀ x ∈ P, 2 ≤ rankW x.1
  | .sm => (∀ x, W.head? = some x → rankW x.1 < 1) → ∃ S1 P, takesW ⟨S, W, .factor⟩ ts = .ok ⟨S1, P ++ W, .operator⟩ ∧ S1 ++ P = S ++ ss ∧ ∀ x ∈ P, 1 ≤ rankW x.1
  | .parts n => ∀ (w : List Nat) (i : Nat) (W' : List Stp), (w = sumW ∨ w = avgW) → W = (w, i, 1) :: W' → ∃ S1 P, takesW ⟨S, W, .factor⟩ ts = .ok ⟨S1, P ++ (w, i, n) :: W', .operator⟩ ∧ S1 ++ P = S ++ ss ∧ ∀ x ∈ P, 1 ≤ rankW x.1
theorem takes_one {m m' : Mch} {t : Tkn} {us : List Tkn} (h : takeW m t = .ok m') : takesW m (t :: us) = takesW m' us := by
  show (match takeW m t with | .ok m' => takesW m' us | .error p => .error p) = _
  rw [h]
theorem rank_opp : rankW oppW = 3 := by decide
theorem take_op {S P W : List Stp} {w : List Nat} {p r : Nat} (hw : w = [43] ∨ w = [45] ∨ w = [42] ∨ w = [47]) (hr : rankW w = r) (hp : ∀ x ∈ P, r ≤ rankW x.1) (hW : ∀ x, W.head? = some x → rankW x.1 < r) :
    takeW ⟨S, P ++ W, .operator⟩ (w, p) = .ok ⟨S ++ P, (w, p, 2) :: W, .factor⟩ := by
  show (if w = [43] ∨ w = [45] ∨ w = [42] ∨ w = [47] then _ else _) = _
  rw [if_pos hw, hr, release_all hp hW]
theorem take_close {S P W : List Stp} {o : List Nat} {i n p : Nat} (ho : rankW o < 1) (hp : ∀ x ∈ P, 1 ≤ rankW x.1) :
    takeW ⟨S, P ++ (o, i, n) :: W, .operator⟩ ([41], p) = .ok (if o = [40] then ⟨S ++ P, W, .operator⟩ else ⟨S ++ P ++ [(o, i, n)], W, .operator⟩) := by
  have e := release_all (S := S) hp (show ∀ x, ((o, i, n) :: W).head? = some x → rankW x.1 < 1 from fun x hx => by cases hx; exact ho)
  unfold takeW
  simp only [e, List.cons.injEq, and_true, reduceCtorEq, if_false, if_true, Nat.reduceEqDiff, or_self]
  split <;> rfl
theorem take_comma {S P W : List Stp} {o : List Nat} {i n p : Nat} (ho : rankW o < 1) (h4 : o ≠ [40]) (hp : ∀ x ∈ P, 1 ≤ rankW x.1) :
    takeW ⟨S, P ++ (o, i, n) :: W, .operator⟩ ([44], p) = .ok ⟨S ++ P, (o, i, n + 1) :: W, .factor⟩ := by
  have e := release_all (S := S) hp (show ∀ x, ((o, i, n) :: W).head? = some x → rankW x.1 < 1 from fun x hx => by cases hx; exact ho)
  unfold takeW
  simp only [e, List.cons.injEq, and_true, reduceCtorEq, if_false, if_true, Nat.reduceEqDiff, or_self, if_neg h4]
theorem word_rank {w : List Nat} (h : w = sumW ∨ w = avgW) : rankW w < 1 ∧ w ≠ [40] ∧ w ≠ [45] := by
  rcases h with rfl | rfl <;> decide
theorem gr_runs {k : Prt} {ts : List Tkn} {ss : List Stp} (h : Gr k ts ss) : ∀ S W, Ends6 k S W ts ss := by
  induction h with
  | @atom w p h1 h2 h3 =>
    intro S W
    refine ⟨S ++ [(w, p, 0)], [], takes_one ?_, by simp, fun x hx => nomatch hx⟩
    have n1 : w ≠ [45] := fun e => h3 (by rw [e]; decide)
    have n2 : w ≠ [40] := fun e => h3 (by rw [e]; decide)
    unfold takeW
    simp only [if_neg n1, if_neg n2, if_neg h3, if_neg (fun z : w = sumW ∨ w = avgW => z.elim h1 h2)]
    rfl
  | @neg p ts ss _ ih =>
    intro S W
    obtain ⟨S1, P, e, es, hp⟩ := ih S ((oppW, p, 1) :: W)
    refine ⟨S1, P ++ [(oppW, p, 1)], ?_, ?_, ?_⟩
    · rw [takes_one (m' := ⟨S, (oppW, p, 1) :: W, .factor⟩) rfl, e, List.append_assoc]
      rfl
    · rw [← List.append_assoc, es, List.append_assoc]
    · intro x hx
      rcases List.mem_append.mp hx with hx | hx
      · exact hp x hx
      · rw [List.mem_singleton.mp hx]
        exact Nat.le_of_eq rank_opp.symm
  | @par p q ts ss _ ih =>
    intro S W
    obtain ⟨S1, P, e, es, hp⟩ := ih S (([40], p, 1) :: W) (fun x hx => by cases hx; show rankW [40] < 1; decide)
    refine ⟨S ++ ss, [], ?_, by simp, fun x hx => nomatch hx⟩
    rw [takes_one (m' := ⟨S, ([40], p, 1) :: W, .factor⟩) rfl, takes_app e, takes_one (take_close (by decide) hp), if_pos rfl, es]
    rfl
  | @fn w p q r n ts ss hw _ ih =>
    intro S W
    obtain ⟨S1, P, e, es, hp⟩ := ih S ((w, p, 1) :: W) w p W hw rfl
    obtain ⟨r1, r2, r3⟩ := word_rank hw
    refine ⟨S ++ (ss ++ [(w, p, n)]), [], ?_, by simp, fun x hx => nomatch hx⟩
    rw [takes_one (m' := ⟨S, (w, p, 1) :: W, .list⟩) (by unfold takeW; simp only [if_neg r3, if_neg r2, if_pos hw]), takes_one (m' := ⟨S, (w, p, 1) :: W, .factor⟩) rfl, takes_app e, takes_one (take_close r1 hp), if_neg r2, es, List.append_assoc]
    rfl
  | @prd1 ts ss _ ih =>
    intro S W _
    obtain ⟨S1, P, e, es, hp⟩ := ih S W
    exact ⟨S1, P, e, es, fun x hx => by have := hp x hx; omega⟩
  | @prd w p ts us ss rr hw _ _ ih1 ih2 =>
    intro S W hW
    have rw2 : rankW w = 2 := by rcases hw with rfl | rfl <;> decide
    obtain ⟨S1, P, e, es, hp⟩ := ih1 S W hW
    obtain ⟨S2, P2, e2, es2, hp2⟩ := ih2 (S1 ++ P) ((w, p, 2) :: W)
    refine ⟨S2, P2 ++ [(w, p, 2)], ?_, ?_, ?_⟩
    · rw [takes_app e, takes_one (take_op (.inr (.inr hw)) rw2 hp hW), e2, List.append_assoc]
      rfl
    · rw [← List.append_assoc, es2, es]
      simp only [List.append_assoc]
    · intro x hx
      rcases List.mem_append.mp hx with hx | hx
      · have := hp2 x hx
        omega
      · rw [List.mem_singleton.mp hx]
        exact Nat.le_of_eq rw2.symm
  | @sm1 ts ss _ ih =>
    intro S W hW
    obtain ⟨S1, P, e, es, hp⟩ := ih S W (fun x hx => by have := hW x hx; omega)
    exact ⟨S1, P, e, es, fun x hx => by have := hp x hx; omega⟩
  | @sm w p ts us ss rr hw _ _ ih1 ih2 =>
    intro S W hW
    have rw1 : rankW w = 1 := by rcases hw with rfl | rfl <;> decide
    obtain ⟨S1, P, e, es, hp⟩ := ih1 S W hW
    obtain ⟨S2, P2, e2, es2, hp2⟩ := ih2 (S1 ++ P) ((w, p, 2) :: W) (fun x hx => by cases hx; show rankW w < 2; omega)
    refine ⟨S2, P2 ++ [(w, p, 2)], ?_, ?_, ?_⟩
    · rw [takes_app e, takes_one (take_op (hw.elim .inl fun z => .inr (.inl z)) rw1 hp hW), e2, List.append_assoc]
      rfl
    · rw [← List.append_assoc, es2, es]
      simp only [List.append_assoc]
    · intro x hx
      rcases List.mem_append.mp hx with hx | hx
      · have := hp2 x hx
        omega
      · rw [List.mem_singleton.mp hx]
        exact Nat.le_of_eq rw1.symm
  | @parts1 ts ss _ ih =>
    intro S W w i W' hw hW
    subst hW
    exact ih S ((w, i, 1) :: W') (fun x hx => by cases hx; exact (word_rank hw).1)
  | @parts n p ts us ss rr _ _ ih1 ih2 =>
    intro S W w i W' hw hW
    subst hW
    obtain ⟨S1, P, e, es, hp⟩ := ih1 S ((w, i, 1) :: W') w i W' hw rfl
    obtain ⟨r1, r2, r3⟩ := word_rank hw
    obtain ⟨S2, P2, e2, es2, hp2⟩ := ih2 (S1 ++ P) ((w, i, n + 1) :: W') (fun x hx => by cases hx; exact r1)
    refine ⟨S2, P2, ?_, ?_, hp2⟩
    · rw [takes_app e, takes_one (take_comma r1 r2 hp), e2]
    · rw [es2, es, List.append_assoc]
/-- the end of a formula -/
def endW (m : Mch) (len : Nat) : Except Nat (List Stp) := match releaseW 1 m.wait m.steps with
  | (ws, ss) => if m.exp ≠ .operator ∨ ws ≠ [] then .error len else .ok ss
def orderW (ts : List Tkn) (len : Nat) : Except Nat (List Stp) := match takesW ⟨[], [], .factor⟩ ts with
  | .ok m => endW m len
  | .error p => .error p
/-- a text of the grammar: its steps in the order of their performance -/
theorem gr_order {ts : List Tkn} {ss : List Stp} (h : Gr .sm ts ss) (len : Nat) : orderW ts len = .ok ss := by
  obtain ⟨S1, P, e, es, hp⟩ := gr_runs h [] [] (fun x hx => nomatch hx)
  have r := release_all (W := []) (S := S1) hp (fun x hx => nomatch hx)
  unfold orderW
  rw [e]
  show endW _ len = _
  unfold endW
  simp only [r, es, List.nil_append]
  rfl

end Bs
namespace Bs
open PySem L2
/-! ### d.get(word, x) of a dict of the written part -/
section
open PySem.Spec PyProof.Rows
variable {X : Cx}
def tKGet (K : PySem.W.Frag) (d : Addr) (td ty tx : TE) : TE := fun σ H Q => td σ H fun x H1 => x = .ref d ∧ ty σ H1 fun y H2 => tx σ H2 fun z H3 => ∃ (s : Str) (r : Option Value), y = .str s ∧ PySem.W.nsIn K d s = some r ∧ ∃ v : V, (∀ u, r = some u → RelV v u) ∧ (r = none → v = z) ∧ Q v H3
theorem pe_kget {d : Addr} {es : Array DictEntry} {n : Nat} {o e f : Expr} {apos cpos : Pos} {td ty tx : TE} (D : KDict X.K X.w d es n) (ho : PE X o td) (he : PE X e ty) (hf : PE X f tx) (m : M2 X o "get" apos e f cpos) :
    PE X (.Call (.Attribute o "get" apos) [e, f] [] cpos) (tKGet X.K d td ty tx) := by
  refine ⟨fun pins s σ H Q I want => ?_⟩
  refine wpAny_Call_method m.base m.few m.line PySem.F.plainAttrs_dict PySem.F.slot_dict_get PySem.F.type_dict_get (thn (ho.run pins s σ H _ I want) fun u s1 ⟨x, H1, I1, rx, ex, q1⟩ => ?_)
  subst ex
  obtain rfl : u = Value.ref d := rx
  have dm := PySem.W.mapOf_K (prog := X.prog) (w := X.w) I1.kIn D.at_ D.lit
  have dty := dm.typeIs
  refine ⟨dty, fun b hb => ?_, ?_⟩
  · cases hb
    exact ⟨_, I1.kIn _ _ D.at_, rfl⟩
  rw [m.trees]
  refine Calls.callWith_builtin rfl (Calls.evalArgs_plain (Calls.spliced_cons (thn (he.run pins s1 σ H1 _ I1 q1) fun iv s2 ⟨y, H2, I2, ry, q2⟩ =>
    Calls.spliced_cons (thn (hf.run pins s2 σ H2 _ I2 q2) fun fv s3 ⟨z, H3, I3, rz, w, r, ey, hn, v, hv1, hv2, q3⟩ => Calls.spliced_nil ?_))))
  subst ey
  obtain ⟨t, rfl⟩ := ry
  have dm3 := PySem.W.mapOf_K (prog := X.prog) (w := X.w) I3.kIn D.at_ D.lit
  refine call_meetsIn PySem.F.slot_dict_get dm3.typeIs PySem.F.entry_dict_get (PySem.F.args_dict_get_3 _ _ _) (meets_dict_get_default (strKind X.prog X.w) d (PySem.strKind_is X.prog X.w w t) D.low fv) ⟨_, dm3, ⟨v, H3, I3.tok _, ?_, q3⟩⟩
  rw [PySem.W.find_K D.at_ hn]
  cases r with
  | none =>
    rw [hv2 rfl]
    exact rz
  | some u => exact hv1 u rfl
end

end Bs
namespace Bs
open PySem L2
def Asc (l : List Nat) : Prop := ∀ c ∈ l, c < 128
theorem Asc.app {a b : List Nat} (x : Asc a) (y : Asc b) : Asc (a ++ b) := fun c hc => by
  rcases List.mem_append.mp hc with h | h
  · exact x c h
  · exact y c h
theorem Asc.cons {a : List Nat} {c : Nat} (h : c < 128) (x : Asc a) : Asc (c :: a) := fun d hd => by
  rcases List.mem_cons.mp hd with rfl | hd
  · exact h
  · exact x d hd
theorem Asc.nil : Asc [] := fun c hc => by cases hc
theorem Asc.take {a : List Nat} (k : Nat) (x : Asc a) : Asc (a.take k) := fun c hc => x c (List.mem_of_mem_take hc)
theorem Asc.drop {a : List Nat} (k : Nat) (x : Asc a) : Asc (a.drop k) := fun c hc => x c (List.mem_of_mem_drop hc)

theorem strS {l : List Nat} (h : Asc l) : PyData.strOk (SX.S l) = true := by
  unfold PyData.strOk
  rw [← Array.all_toList, List.all_eq_true]
  intro c hc
  rw [decide_eq_true_eq]
  refine Nat.lt_trans (h c ?_) (by decide)
  rw [show (SX.S l).cps.toList = l by simp [SX.S]] at hc
  exact hc

theorem name_ok {x : Str} (h : nameL x.cps.toList = true) : PyData.strOk x = true := by
  unfold nameL at h
  rw [Bool.and_eq_true, Bool.and_eq_true, Bool.and_eq_true] at h
  unfold PyData.strOk
  rw [← Array.all_toList, List.all_eq_true]
  intro c hc
  rw [decide_eq_true_eq]
  exact Nat.lt_trans (az_ascii (List.all_eq_true.mp h.1.1.2 c hc)) (by decide)
abbrev strD (xs : List Str) : PyData := .list (xs.map PyData.str)
theorem eqv_strs : ∀ xs ys : List Str, PyData.eqv (strD xs) (strD ys) = decide (xs = ys) := by
  have key : ∀ xs ys : List Str, PyData.eqvAll (xs.map PyData.str) (ys.map PyData.str) = decide (xs = ys) := by
    intro xs
    induction xs with
    | nil => intro ys; cases ys <;> rfl
    | cons x xs ih =>
      intro ys
      cases ys with
      | nil => rfl
      | cons y ys =>
        show ((x == y) && PyData.eqvAll (xs.map PyData.str) (ys.map PyData.str)) = _
        rw [ih ys, Bool.eq_iff_iff, Bool.and_eq_true, decide_eq_true_eq, decide_eq_true_eq, beq_iff_eq]
        exact ⟨fun h => by rw [h.1, h.2], fun h => ⟨(List.cons.inj h).1, (List.cons.inj h).2⟩⟩
  exact key

/-! ### data that can be laid and compared -/
def fine (n : Nat) (d : PyData) : Prop := d.canLay0 = true ∧ d.depth ≤ n
theorem lay_all : ∀ {ds : List PyData}, (∀ d ∈ ds, d.canLay0 = true) → PyData.canLayAll0 ds = true
  | [], _ => rfl
  | d :: ds, h => by
    show (d.canLay0 && PyData.canLayAll0 ds) = true
    rw [h d (List.mem_cons_self ..), lay_all fun e he => h e (List.mem_cons_of_mem _ he)]
    rfl
theorem depth_all {n : Nat} : ∀ {ds : List PyData}, (∀ d ∈ ds, d.depth ≤ n) → PyData.depthAll ds ≤ n
  | [], _ => Nat.zero_le _
  | d :: ds, h => by
    show max d.depth (PyData.depthAll ds) ≤ n
    exact Nat.max_le.mpr ⟨h d (List.mem_cons_self ..), depth_all fun e he => h e (List.mem_cons_of_mem _ he)⟩
theorem fine.lst {n : Nat} {ds : List PyData} (h : ∀ d ∈ ds, fine n d) : fine (n + 1) (.list ds) := ⟨lay_all fun d hd => (h d hd).1, by
  show PyData.depthAll ds + 1 ≤ n + 1
  exact Nat.succ_le_succ (depth_all fun d hd => (h d hd).2)⟩
theorem fine.tup {n : Nat} {ds : List PyData} (h : ∀ d ∈ ds, fine n d) : fine (n + 1) (.tuple ds) := ⟨lay_all fun d hd => (h d hd).1, by
  show PyData.depthAll ds + 1 ≤ n + 1
  exact Nat.succ_le_succ (depth_all fun d hd => (h d hd).2)⟩
theorem fine.mono {n m : Nat} {d : PyData} (h : fine n d) (l : n ≤ m) : fine m d := ⟨h.1, Nat.le_trans h.2 l⟩
theorem fine.shp {n : Nat} {d : PyData} (h : fine n d) (l : n ≤ 64) : SeqAt.shaped d = true := by
  unfold SeqAt.shaped
  rw [h.1, decide_eq_true (Nat.le_trans h.2 l)]
  rfl
theorem fine.self {n : Nat} {d : PyData} (h : fine n d) : PyData.eqv d d = true := PySem.SeqAt.eqv_refl _ h.1
theorem fine_str {x : Str} (h : PyData.strOk x = true) : fine 0 (.str x) := ⟨h, Nat.le_refl _⟩
theorem fine_int (i : Int) : fine 0 (.int i) := ⟨rfl, Nat.le_refl _⟩
theorem fine_non : fine 0 .none := ⟨rfl, Nat.le_refl _⟩
theorem fine_rat (t m : Int) : fine 1 (rat t m) := fine.tup fun d hd => by
  simp only [List.mem_cons, List.not_mem_nil, or_false] at hd
  rcases hd with rfl | rfl <;> exact fine_int _

/-! ### data without lists -/
mutual
def noL : PyData → Bool
  | .list _ => false
  | .tuple ds => noLs ds
  | _ => true
def noLs : List PyData → Bool
  | [] => true
  | d :: ds => noL d && noLs ds
end
theorem sq_hide {K : PySem.W.Frag} {H : Hp} {D a : Addr} {xs ls : List V} (hD : H D = some (.lst ls)) (h : SqT K H a xs) : SqT K (hide D H) a xs := by
  have ne : ∀ o : HO, H a = some o → (∀ l, o ≠ .lst l) → hide D H a = some o := fun o ho no => by
    refine hide_at ho fun e => ?_
    rw [e, hD] at ho
    exact no ls (Option.some.inj ho).symm
  rcases h with (h | ⟨o, h⟩) | h
  · exact .inl (.inl (ne _ h fun l e => nomatch e))
  · exact .inl (.inr ⟨o, ne _ h fun l e => nomatch e⟩)
  · exact .inr h
mutual
theorem dp_hide {K : PySem.W.Frag} {H : Hp} {D : Addr} {ls : List V} (hD : H D = some (.lst ls)) : ∀ (d : PyData) (v : V), noL d = true → Dp K H v d → Dp K (hide D H) v d
  | .none, _, _, h => by cases h; exact .non
  | .bool b, _, _, h => by cases h; exact .bl b
  | .int i, _, _, h => by cases h; exact .int i
  | .str x, _, _, h => by cases h; exact .str x
  | .list ds, _, n, _ => by cases n
  | .tuple ds, _, n, h => by
    cases h with
    | tup hs ha => exact .tup (sq_hide hD hs) (dps_hide hD ds _ n ha)
  | .dict _, _, _, h => by cases h
theorem dps_hide {K : PySem.W.Frag} {H : Hp} {D : Addr} {ls : List V} (hD : H D = some (.lst ls)) : ∀ (ds : List PyData) (vs : List V), noLs ds = true → DpAll K H vs ds → DpAll K (hide D H) vs ds
  | [], _, _, h => by cases h; exact .nil
  | d :: ds, _, n, h => by
    have n2 := Bool.and_eq_true_iff.mp (show (noL d && noLs ds) = true from n)
    cases h with
    | cons h1 h2 => exact .cons (dp_hide hD d _ n2.1 h1) (dps_hide hD ds _ n2.2 h2)
end
mutual
theorem dp_mk {K : PySem.W.Frag} {H : Hp} {b g c : Addr} {n : Nat} (B : Box H b g c n) : ∀ (d : PyData) (v : V), noL d = true → Dp K H v d → Dp K (mk b g H) v d
  | .none, _, _, h => by cases h; exact .non
  | .bool b, _, _, h => by cases h; exact .bl b
  | .int i, _, _, h => by cases h; exact .int i
  | .str x, _, _, h => by cases h; exact .str x
  | .list _, _, n, _ => by cases n
  | .tuple ds, _, n, h => by
    cases h with
    | tup hs ha =>
      refine .tup ?_ (dps_mk B ds _ n ha)
      rcases hs with (h | ⟨o, h⟩) | h
      · exact .inl (.inl (mk_tup B h))
      · refine .inl (.inr ⟨o, ?_⟩)
        obtain ⟨gs, cs, cur, m, B, _⟩ := B
        unfold mk
        rw [if_neg]
        · exact h
        · rintro (z | z)
          · rw [z, B.hb] at h
            cases h
          · rw [z, B.hg] at h
            cases h
      · exact .inr h
  | .dict _, _, _, h => by cases h
theorem dps_mk {K : PySem.W.Frag} {H : Hp} {b g c : Addr} {n : Nat} (B : Box H b g c n) : ∀ (ds : List PyData) (vs : List V), noLs ds = true → DpAll K H vs ds → DpAll K (mk b g H) vs ds
  | [], _, _, h => by cases h; exact .nil
  | d :: ds, _, n, h => by
    have z := Bool.and_eq_true_iff.mp (show (noL d && noLs ds) = true from n)
    cases h with
    | cons h1 h2 => exact .cons (dp_mk B d _ z.1 h1) (dps_mk B ds _ z.2 h2)
end

/-! ### what of a heap no operation changes: its tuples -/
def isT : HO → Bool
  | .tup _ => true
  | .frz _ (.tup _) => true
  | _ => false
def tps (H : Hp) : Hp := fun a => match H a with
  | some u => if isT u = true then some u else none
  | none => none
theorem tps_sub (H : Hp) : Same (tps H) H := fun a o h => by
  unfold tps at h
  cases e : H a with
  | none => rw [e] at h; cases h
  | some u =>
    rw [e] at h
    have h2 : (if isT u = true then some u else none) = some o := h
    split at h2
    · exact h2
    · cases h2
theorem tps_at {H : Hp} {a : Addr} {u : HO} (h : H a = some u) (t : isT u = true) : tps H a = some u := by
  unfold tps
  rw [h]
  exact if_pos t
theorem tps_of {H : Hp} {a : Addr} {u : HO} (h : tps H a = some u) : H a = some u ∧ isT u = true := by
  refine ⟨tps_sub H a u h, ?_⟩
  unfold tps at h
  cases e : H a with
  | none => rw [e] at h; cases h
  | some w =>
    rw [e] at h
    have h2 : (if isT w = true then some w else none) = some u := h
    split at h2
    · rename_i t
      cases h2
      exact t
    · cases h2
/-- all tuples stay -/
def TS (H H' : Hp) : Prop := Same (tps H) (tps H')
theorem TS.trans {H H1 H2 : Hp} (x : TS H H1) (y : TS H1 H2) : TS H H2 := Same.trans x y
theorem TS.refl (H : Hp) : TS H H := Same.refl _
theorem TS.of {H H' : Hp} (s : Same H H') : TS H H' := fun a u h => tps_at (s a u (tps_of h).1) (tps_of h).2
theorem TS.upd {H : Hp} {a : Addr} {o u : HO} (h : H a = some o) (n : isT o = false) : TS H (upd H a u) := fun b w hb => by
  have hb := tps_of hb
  have ne : b ≠ a := fun e => by
    rw [e, h] at hb
    cases hb.1
    rw [n] at hb
    cases hb.2
  exact tps_at (by rw [upd_ne ne]; exact hb.1) hb.2
mutual
theorem dp_tps {K : PySem.W.Frag} {H : Hp} : ∀ (d : PyData) (v : V), noL d = true → Dp K H v d → Dp K (tps H) v d
  | .none, _, _, h => by cases h; exact .non
  | .bool b, _, _, h => by cases h; exact .bl b
  | .int i, _, _, h => by cases h; exact .int i
  | .str x, _, _, h => by cases h; exact .str x
  | .list ds, _, n, _ => by cases n
  | .tuple ds, _, n, h => by
    cases h with
    | tup hs ha =>
      refine .tup ?_ (dps_tps ds _ n ha)
      rcases hs with (h | ⟨o, h⟩) | h
      · exact .inl (.inl (tps_at h rfl))
      · exact .inl (.inr ⟨o, tps_at h rfl⟩)
      · exact .inr h
  | .dict _, _, _, h => by cases h
theorem dps_tps {K : PySem.W.Frag} {H : Hp} : ∀ (ds : List PyData) (vs : List V), noLs ds = true → DpAll K H vs ds → DpAll K (tps H) vs ds
  | [], _, _, h => by cases h; exact .nil
  | d :: ds, _, n, h => by
    have n2 := Bool.and_eq_true_iff.mp (show (noL d && noLs ds) = true from n)
    cases h with
    | cons h1 h2 => exact .cons (dp_tps d _ n2.1 h1) (dps_tps ds _ n2.2 h2)
end
/-! ### the object of the order -/
def expS : Exp → Str | .factor => "a factor" | .list => "the opening parenthesis of a list" | .operator => "an operator, a comma, a closing parenthesis or the end"
def stD (x : Stp) : PyData := .tuple [.str (SX.S x.1), .int (x.2.1 : Nat), .int (x.2.2 : Nat)]
structure SO (K : PySem.W.Frag) (C o dx ps pw : Addr) (m : Mch) (H : Hp) : Prop where
  ob : H o = some (.ins C dx [("steps", .ref ps), ("waiting", .ref pw), ("expected", .str (expS m.exp))])
  st : ∃ rs, H ps = some (.lst rs) ∧ DpAll K (tps H) rs (m.steps.map stD)
  wt : ∃ ws, H pw = some (.lst ws) ∧ DpAll K (tps H) ws (m.wait.reverse.map stD)
  ne : ps ≠ pw
  asc : ∀ x ∈ m.steps ++ m.wait, Asc x.1
  few : m.steps.length + m.wait.length ≤ 100000
def Only (o ps pw : Addr) (H H' : Hp) : Prop := ∀ a u, H a = some u → a ≠ o → a ≠ ps → a ≠ pw → H' a = some u
theorem Only.refl (o ps pw : Addr) (H : Hp) : Only o ps pw H H := fun _ _ h _ _ _ => h
theorem Only.trans {o ps pw : Addr} {H H1 H2 : Hp} (x : Only o ps pw H H1) (y : Only o ps pw H1 H2) : Only o ps pw H H2 := fun a u h n1 n2 n3 => y a u (x a u h n1 n2 n3) n1 n2 n3
theorem Only.of {o ps pw : Addr} {H H' : Hp} (s : Same H H') : Only o ps pw H H' := fun a u h _ _ _ => s a u h
/-- a class and its methods -/
def KnM (P : Program) (w : World) (K : PySem.W.Frag) (mg : Str → Option Value) (base : Heap) (cx : CXT) (C : Addr) (m : Str) (k : Nat) (ps : List Str) (sp : Sp) : Prop :=
  ∃ f fd, FnOk P w K mg base cx k f fd ps sp ∧ Meth K C m f ∧ Binds K fd ps []
def Dm (K : PySem.W.Frag) (C : Addr) (m qual : Str) (st : Stmt) (ps : List Str) : Prop :=
  ∃ f fd, Fun K m qual st f fd ∧ Meth K C m f ∧ Binds K fd ps []
structure SOc (K : PySem.W.Frag) (C : Addr) : Prop where
  c : Cls K C
  n1 : NoAttr K C "steps"
  n2 : NoAttr K C "waiting"
  n3 : NoAttr K C "expected"
/-- the ranks, a dict of the program's text -/
structure Rnk (K : PySem.W.Frag) (w : World) (mg : Str → Option Value) : Prop where
  ex : ∃ a es n, mg "RANKS" = some (.ref a) ∧ KDict K w a es n ∧ (∀ x : List Nat, Asc x → ∃ r : Option Value, PySem.W.nsIn K a (SX.S x) = some r ∧ (rankW x = 0 → r = none) ∧ (rankW x ≠ 0 → ∃ t, r = some (.int (rankW x : Nat) t)))
theorem fine_st {x : Stp} (h : Asc x.1) : fine 1 (stD x) := fine.tup fun d hd => by
  simp only [List.mem_cons, List.not_mem_nil, or_false] at hd
  rcases hd with rfl | rfl | rfl
  · exact fine_str (strS h)
  · exact fine_int _
  · exact fine_int _
theorem SO.keep {K : PySem.W.Frag} {C o dx ps pw : Addr} {m : Mch} {H H' : Hp} (x : SO K C o dx ps pw m H) (s : Same H H') : SO K C o dx ps pw m H' where
  ob := s _ _ x.ob
  st := by
    obtain ⟨rs, h, a⟩ := x.st
    exact ⟨rs, s _ _ h, dps_same (TS.of s) _ _ a⟩
  wt := by
    obtain ⟨rs, h, a⟩ := x.wt
    exact ⟨rs, s _ _ h, dps_same (TS.of s) _ _ a⟩
  ne := x.ne
  asc := x.asc
  few := x.few
theorem dps_last {K : PySem.W.Frag} {H : Hp} : ∀ {ds : List PyData} {d : PyData} {vs : List V}, DpAll K H vs (ds ++ [d]) → ∃ us v, vs = us ++ [v] ∧ DpAll K H us ds ∧ Dp K H v d
  | [], d, _, .cons h t => by
    cases t
    exact ⟨[], _, rfl, .nil, h⟩
  | e :: ds, d, _, .cons h t => by
    obtain ⟨us, v, rfl, h1, h2⟩ := dps_last t
    exact ⟨_ :: us, v, rfl, .cons h h1, h2⟩
theorem eqv_snoc (l : List PyData) (d : PyData) : PyData.eqv (.list (l ++ [d])) (.list []) = false := by
  cases l <;> rfl
theorem at_last {α : Type} (l : List α) (x : α) : atI (l ++ [x]) (-1) = some x := by
  have e : ixN (l ++ [x]).length (-1) = some l.length := by
    unfold ixN
    rw [List.length_append, List.length_singleton, if_neg (by decide)]
    rw [if_pos (by omega)]
    congr 1
    omega
  unfold atI
  rw [e]
  show (l ++ [x])[l.length]? = some x
  rw [List.getElem?_append_right (Nat.le_refl _), Nat.sub_self]
  rfl
def spRelease (K : PySem.W.Frag) (C : Addr) : Sp := fun vs H Q _ => ∃ (o dx ps pw : Addr) (m : Mch) (r : Nat), vs = [.ref o, .int (r : Nat)] ∧ SO K C o dx ps pw m H ∧ 1 ≤ r ∧
  ∀ H', SO K C o dx ps pw ⟨(releaseW r m.wait m.steps).2, (releaseW r m.wait m.steps).1, m.exp⟩ H' → Only o ps pw H H' → TS H H' → Q .non H'
section
variable {P : Program} {w : World} {K : PySem.W.Frag} {mg : Str → Option Value} {base : Heap}
theorem ok_release {C : Addr} (T : Bt mg) (S : SOc K C) (R : Rnk K w mg) (D : Dm K C "release" "StepOrder.release" s_StepOrder_release ["self", "rank"]) : KnM P w K mg base CX0 C "release" 33 ["self", "rank"] (spRelease K C) := by
  obtain ⟨f, fd, F, hm, hb⟩ := D
  obtain ⟨aR, eR, nR, hR, DR, hrank⟩ := R.ex
  refine ⟨f, fd, F.ok sc_StepOrder_release (fun vs H Q E h => ?_) (fun cdv A outer s H vs Q E hr h => ?_), hm, hb⟩
  · obtain ⟨o, dx, ps, pw, m, r, rfl, _⟩ := h
    rfl
  · obtain ⟨o, dx, ps, pw, m, r, rfl, so, r1, q⟩ := h
    refine ⟨_, (pss_one (ps_while PassesOwn.never (PW.pt (pw_and (pt_cmpR (op_neD hr.units) (pe_fld (pv 0) rfl) (pe_lst pa_nil) (nomark _)) (pw_and1 (pt_cmpR op_ge (pe_kget DR (pe_glob (v := .ref aR) rfl hR rfl) (pe_ix ix_tup (pe_ix ix_list (pe_fld (pv 0) rfl) (pe_un un_neg pe_int) (fun _ _ => rfl)) pe_int (fun _ _ => rfl)) pe_int ⟨rfl, by rfl, by rfl, by rfl⟩) (pv 1) (nomark _))))) (pss_one (ps_expr (pe_bm PySem.F.plainAttrs_list PySem.F.slot_list_append PySem.F.type_list_append mt_append (pe_fld (pv 0) rfl) (pa_cons (pe_bm0 PySem.F.plainAttrs_list PySem.F.slot_list_pop PySem.F.type_list_pop mt_pop (pe_fld (pv 0) rfl)) pa_nil)))))), ?_⟩
    refine while_by (fun σ H' => ∃ S' W' : List Stp, σ = [some (.ref o), some (.int (r : Nat))] ∧ releaseW r W' S' = releaseW r m.wait m.steps ∧ SO K C o dx ps pw ⟨S', W', m.exp⟩ H' ∧ Only o ps pw H H' ∧ TS H H')
      (fun _ H' => match H' pw with | some (.lst ws) => ws.length | _ => 0) ⟨m.steps, m.wait, rfl, rfl, so, Only.refl _ _ _ _, TS.refl _⟩ ?_ ?_
    · rintro σ H1 ⟨S', W', rfl, hrel, so1, on1, ts1⟩
      obtain ⟨ws, hws, hwall⟩ := so1.wt
      obtain ⟨rs, hrs, hrall⟩ := so1.st
      have hwD : Dp K H1 (.ref pw) (.list (W'.reverse.map stD)) := .lst (SqL.of hws) (dps_same (tps_sub H1) _ _ hwall)
      have hfine : SeqAt.shaped (.list (W'.reverse.map stD)) = true := (fine.lst (n := 1) fun d hd => by
        obtain ⟨x, hx, rfl⟩ := List.mem_map.mp hd
        exact fine_st (so1.asc x (List.mem_append_right _ (List.mem_reverse.mp hx)))).shp (by decide)
      refine ⟨_, rfl, o, C, dx, _, .ref pw, rfl, so1.ob, S.c, S.n2, rfl, (by show 0 ≤ sizeLine; decide), fun p1 np1 => ?_⟩
      have s1 := same_new np1 (.lst [])
      refine ⟨.list (W'.reverse.map stD), .list [], dp_same s1 _ _ hwD, .lst (SqL.of upd_same) .nil, hfine, rfl, _, rfl, ?_⟩
      have so2 := so1.keep s1
      have on2 := on1.trans (Only.of (o := o) (ps := ps) (pw := pw) s1)
      have ts2 := ts1.trans (TS.of s1)
      have hws2 := s1 _ _ hws
      have hrs2 := s1 _ _ hrs
      have mu1 : (match H1 pw with | some (.lst ws) => ws.length | _ => 0) = ws.length := by rw [hws]
      generalize upd H1 p1 (.lst []) = H2 at *
      rw [mu1]
      cases W' with
      | nil =>
        refine ite2 (fun c => ?_) (fun c => ?_)
        · exact absurd c (by decide)
        · have e : releaseW r m.wait m.steps = ([], S') := hrel.symm
          refine q H2 ?_ on2 ts2
          rw [e]
          exact so2
      | cons x Wr =>
        refine ite2 (fun _ => ?_) (fun c => ?_)
        · have hx := so1.asc x (List.mem_append_right _ (List.mem_cons_self ..))
          have erev : (x :: Wr).reverse.map stD = Wr.reverse.map stD ++ [stD x] := by rw [List.reverse_cons, List.map_append]; rfl
          rw [erev] at hwall
          obtain ⟨wi, v, rfl, hwi, hv⟩ := dps_last hwall
          obtain ⟨rk, hrk, hr0, hr1⟩ := hrank x.1 hx
          cases (show Dp K (tps H1) v (.tuple [.str (SX.S x.1), .int (x.2.1 : Nat), .int (x.2.2 : Nat)]) from hv) with
          | @tup pt xs_ _ hsq hal =>
            cases hal with
            | cons hw0 hal =>
              cases hal with
              | cons hw1 hal =>
                cases hal with
                | cons hw2 hal =>
                  cases hal
                  cases hw0
                  cases hw1
                  cases hw2
                  have hsq2 := same_seqT ((tps_sub H1).trans s1) hsq
                  have er : ∃ v : V, (∀ u, rk = some u → RelV v u) ∧ (rk = none → v = .int 0) ∧ v = .int (rankW x.1 : Nat) := by
                    by_cases z : rankW x.1 = 0
                    · exact ⟨.int 0, (fun u hu => by rw [hr0 z] at hu; cases hu), (fun _ => rfl), by rw [z]; rfl⟩
                    · obtain ⟨t, ht⟩ := hr1 z
                      exact ⟨.int (rankW x.1 : Nat), (fun u hu => by rw [ht] at hu; cases hu; exact ⟨t, rfl⟩), (fun hn => by rw [ht] at hn; cases hn), rfl⟩
                  obtain ⟨vr, er1, er2, rfl⟩ := er
                  refine ⟨rfl, _, rfl, o, C, dx, _, .ref pw, rfl, so2.ob, S.c, S.n2, rfl, _, rfl, pw, _, _, .ref pt, rfl, rfl, SqL.of hws2, at_last wi _, pt, _, _, .str (SX.S x.1), rfl, rfl, hsq2, rfl, SX.S x.1, rk, rfl, hrk, .int (rankW x.1 : Nat), er1, er2, _, rfl, _, _, rfl, rfl, _, rfl, ?_⟩
                  refine ite2 (fun c => ?_) (fun c => ?_)
                  · have hle : r ≤ rankW x.1 := by
                      have := of_decide_eq_true c
                      omega
                    have op : o ≠ ps := fun e => by
                      have z := so2.ob
                      rw [e, hrs2] at z
                      cases z
                    have ow : o ≠ pw := fun e => by
                      have z := so2.ob
                      rw [e, hws2] at z
                      cases z
                    have few := so2.few
                    have lrs : rs.length = S'.length := by
                      have := dps_len hrall
                      rw [List.length_map] at this
                      exact this
                    have few1 : S'.length + (Wr.length + 1) ≤ 100000 := few
                    refine ⟨_, rfl, o, C, dx, _, .ref ps, rfl, so2.ob, S.c, S.n1, rfl, .inl ⟨rfl, _, SqL.of hrs2⟩, _, rfl, o, C, dx, _, .ref pw, rfl, so2.ob, S.c, S.n2, rfl, .inl ⟨rfl, _, SqL.of hws2⟩, pw, _, .ref pt, rfl, rfl, hws2, ?_, ps, rs, _, rfl, rfl, by rw [upd_ne so2.ne]; exact hrs2, small1e5 (by omega), ?_⟩
                    · rw [List.length_append, List.length_singleton, Nat.add_sub_cancel, List.getElem?_append_right (Nat.le_refl _), Nat.sub_self]
                      rfl
                    have t3 : TS H2 (upd H2 pw (.lst (wi ++ [V.ref pt]).dropLast)) := TS.upd hws2 rfl
                    have t4 : TS (upd H2 pw (.lst (wi ++ [V.ref pt]).dropLast)) (upd (upd H2 pw (.lst (wi ++ [V.ref pt]).dropLast)) ps (.lst (rs ++ [.ref pt]))) := TS.upd (by rw [upd_ne so2.ne]; exact hrs2) rfl
                    have t12 : TS H1 H2 := TS.of s1
                    have t14 := t12.trans (t3.trans t4)
                    refine ⟨⟨S' ++ [x], Wr, rfl, ?_, ⟨?_, ⟨_, upd_same, ?_⟩, ⟨wi, ?_, dps_same t14 _ _ hwi⟩, so2.ne, fun y hy => ?_, ?_⟩, ?_, ts2.trans (t3.trans t4)⟩, ?_⟩
                    · rw [← hrel]
                      exact (if_pos hle).symm
                    · rw [upd_ne op, upd_ne ow]
                      exact so2.ob
                    · rw [List.map_append]
                      exact dps_snoc (dps_same t14 _ _ hrall) (dp_same t14 _ _ hv)
                    · rw [upd_ne so2.ne.symm, upd_same, List.dropLast_concat]
                    · refine so2.asc y ?_
                      rcases List.mem_append.mp hy with h | h
                      · rcases List.mem_append.mp h with h | h
                        · exact List.mem_append_left _ h
                        · rw [List.mem_singleton.mp h]
                          exact List.mem_append_right _ (List.mem_cons_self ..)
                      · exact List.mem_append_right _ (List.mem_cons_of_mem _ h)
                    · show (S' ++ [x]).length + Wr.length ≤ 100000
                      rw [List.length_append, List.length_singleton]
                      omega
                    · intro a u h n1 n2 n3
                      rw [upd_ne n2, upd_ne n3]
                      exact on2 a u h n1 n2 n3
                    · rw [upd_ne so2.ne.symm, upd_same, List.dropLast_concat, List.length_append]
                      exact Nat.lt_succ_self _
                  · have hle : ¬ r ≤ rankW x.1 := fun z => c (decide_eq_true (by omega))
                    have e : releaseW r m.wait m.steps = (x :: Wr, S') := by
                      rw [← hrel]
                      exact if_neg hle
                    refine q H2 ?_ on2 ts2
                    rw [e]
                    exact so2
        · refine absurd ?_ c
          have e : (x :: Wr).reverse.map stD = Wr.reverse.map stD ++ [stD x] := by rw [List.reverse_cons, List.map_append]; rfl
          rw [e, eqv_snoc]
          rfl
    · intro σ H' Q1 Q2 hq h
      obtain ⟨v, h1, a, C1, dx1, fs1, v1, e1, e2, c1, n1, l1, sz, h⟩ := h
      refine ⟨v, h1, a, C1, dx1, fs1, v1, e1, e2, c1, n1, l1, sz, fun p np => ?_⟩
      obtain ⟨d, e, hd, he, sd, se, k, ek, h⟩ := h p np
      refine ⟨d, e, hd, he, sd, se, k, ek, ?_⟩
      revert h
      refine fun h => ?_
      by_cases hk : k = true
      · rw [hk] at h ⊢
        obtain ⟨g1, v2, g2, a3, C3, dx3, fs3, v3, g3, g4, g5, g6, g7, i4, g8, p5, xs5, i5, v5, g9, g10, g11, g12, p6, xs6, i6, v6, g13, g14, g15, g16, s7, r7, g17, g18, v7, g19, g20, v8, g21, i9, j9, g22, g23, k9, g24, h⟩ := h
        exact ⟨g1, v2, g2, a3, C3, dx3, fs3, v3, g3, g4, g5, g6, g7, i4, g8, p5, xs5, i5, v5, g9, g10, g11, g12, p6, xs6, i6, v6, g13, g14, g15, g16, s7, r7, g17, g18, v7, g19, g20, v8, g21, i9, j9, g22, g23, k9, g24, hq _ _ h⟩
      · rw [Bool.eq_false_iff.mpr hk] at h ⊢
        exact hq _ _ h
end

end Bs

namespace Bs
open PySem L2




structure Ucs (K : PySem.W.Frag) (mg : Str → Option Value) : Prop where
  f : ∃ t, mg "FACTOR" = some (.str "a factor" t)
  l : ∃ t, mg "LIST" = some (.str "the opening parenthesis of a list" t)
  p : ∃ t, mg "OPERATOR" = some (.str "an operator, a comma, a closing parenthesis or the end" t)
  o : ∃ t, mg "OPPOSITE" = some (.str "- factor" t)
  s : ∃ t, mg "SIGNS" = some (.str "+-*/()," t)
  w : ∃ a, mg "FUNCTION_WORDS" = some (.ref a) ∧ ∀ H, SqT K H a [V.str "sum", V.str "average"]
  r : ∃ t, mg "LOWEST_RANK" = some (.int 1 t)
theorem op_inK {X : Cx} {K : PySem.W.Frag} (h : X.K = K) : OpR X (compareOp .In) (rIn K false) := by
  subst h
  exact op_in_seq
/-! ### a word among the signs -/
theorem par_mem (S : List Nat) : ∀ (a acc : List Nat) (pq : List Nat × List Nat), TL.par S acc a = some pq → ∀ c ∈ S, c ∈ a
  | [], acc, pq, h, c, hc => by cases h
  | d :: r, acc, pq, h, c, hc => by
    unfold TL.par at h
    split at h
    · rename_i e
      have e2 : (d :: r).take S.length = S := by
        unfold TL.pre at e
        exact beq_iff_eq.mp e
      rw [← e2] at hc
      exact List.mem_of_mem_take hc
    · exact List.mem_cons_of_mem _ (par_mem S r _ pq h c hc)
theorem occ_none {a b : List Nat} (hb : b ≠ []) {c : Nat} (hc : c ∈ b) (hn : c ∉ a) : Builtin.Str.occurrences (SX.S a) (SX.S b) 0 (SX.S a).length 1 = [] := by
  have hp : TL.par b [] a = none := by
    cases e : TL.par b [] a with
    | none => rfl
    | some pq => exact absurd (par_mem b a [] pq e c hc) hn
  have h := SX.partition_none hb hp
  cases e : Builtin.Str.occurrences (SX.S a) (SX.S b) 0 (SX.S a).length 1 with
  | nil => rfl
  | cons i t =>
    unfold Txt.partition at h
    rw [e] at h
    have h2 := congrArg (fun z => z.2.1) h
    exact absurd (SX.S_inj h2) hb
abbrev signL : List Nat := [43, 45, 42, 47, 40, 41, 44]
/-- what a token's word is: a sign, or without signs -/
def Wrd (w : List Nat) : Prop := Asc w ∧ w ≠ [] ∧ (w.length ≤ 100000 ∧ w ≠ oppW) ∧ (signW w ∨ ∃ c ∈ w, c ∉ signL)
theorem word_in {w : List Nat} (h : Wrd w) : (!(Builtin.Str.occurrences (Str.ofString "+-*/(),") (SX.S w) 0 (Str.ofString "+-*/(),").length 1).isEmpty) = decide (signW w) := by
  rw [show Str.ofString "+-*/()," = SX.S signL by decide +kernel]
  rcases h.2.2.2 with hs | ⟨c, hc, hn⟩
  · rw [decide_eq_true hs]
    obtain ⟨d, rfl, hd⟩ : ∃ d, w = [d] ∧ d ∈ signL := by
      rcases hs with rfl | rfl | rfl | rfl | rfl | rfl | rfl <;> exact ⟨_, rfl, by decide⟩
    rw [SX.in_one, decide_eq_true hd]
  · have ns : ¬ signW w := fun hs => by
      have : ∀ d ∈ w, d ∈ signL := by
        rcases hs with rfl | rfl | rfl | rfl | rfl | rfl | rfl <;> decide
      exact hn (this c hc)
    rw [decide_eq_false ns, occ_none h.2.1 hc hn]
    rfl
theorem txt_is {w : List Nat} {x : Str} {l : List Nat} (h : x = SX.S l) : decide (tx w = V.str x) = decide (w = l) := by
  rw [h, Bool.eq_iff_iff, decide_eq_true_eq, decide_eq_true_eq]
  exact ⟨fun e => SX.S_inj (by injection e), fun e => by rw [e]⟩
theorem raised_same {H : Hp} {ea xd : Addr} {u v w z : HO} (na : H ea = none) (hdx : H xd = none) (nx : xd ≠ ea) : Same H (upd (del (upd (upd (upd H ea u) xd v) ea w) ea) xd z) := fun b o hbo => by
  have n1 : b ≠ ea := ne_of_none hbo na
  have n2 : b ≠ xd := ne_of_none hbo hdx
  rw [upd_ne n2, del_ne n1, upd_ne n1, upd_ne n2, upd_ne n1]
  exact hbo
theorem Only.upd {o ps pw : Addr} {H : Hp} {u v : HO} (h : H o = some u) : Only o ps pw H (upd H o v) := fun a w ha n1 _ _ => by
  rw [upd_ne n1]
  exact ha
theorem SO.exp {K : PySem.W.Frag} {C o dx ps pw : Addr} {m : Mch} {H : Hp} (x : SO K C o dx ps pw m H) (e : Exp) : SO K C o dx ps pw { m with exp := e } (upd H o (.ins C dx (putF "expected" (.str (expS e)) [("steps", .ref ps), ("waiting", .ref pw), ("expected", .str (expS m.exp))]))) where
  ob := upd_same
  st := by
    obtain ⟨rs, h, a⟩ := x.st
    exact ⟨rs, by rw [upd_ne (fun e => by rw [e, x.ob] at h; cases h)]; exact h, dps_same (TS.upd x.ob rfl) _ _ a⟩
  wt := by
    obtain ⟨rs, h, a⟩ := x.wt
    exact ⟨rs, by rw [upd_ne (fun e => by rw [e, x.ob] at h; cases h)]; exact h, dps_same (TS.upd x.ob rfl) _ _ a⟩
  ne := x.ne
  asc := x.asc
  few := x.few
abbrev stV (t : Stp) : HO := .tup [tx t.1, .int (t.2.1 : Nat), .int (t.2.2 : Nat)]
theorem dp_stV {K : PySem.W.Frag} {H : Hp} {pt : Addr} (t : Stp) : Dp K (tps (upd H pt (stV t))) (.ref pt) (stD t) := .tup (SqT.of (tps_at upd_same rfl)) (.cons (.str _) (.cons (.int _) (.cons (.int _) .nil)))
theorem SO.pushW {K : PySem.W.Frag} {C o dx ps pw pt : Addr} {m : Mch} {H : Hp} {ws : List V} (x : SO K C o dx ps pw m H) (hws : H pw = some (.lst ws)) (hall : DpAll K (tps H) ws (m.wait.reverse.map stD)) (np : H pt = none) {t : Stp} (ht : Asc t.1) (few : m.steps.length + m.wait.length < 100000) :
    SO K C o dx ps pw { m with wait := t :: m.wait } (upd (upd H pt (stV t)) pw (.lst (ws ++ [.ref pt]))) ∧ Only o ps pw H (upd (upd H pt (stV t)) pw (.lst (ws ++ [.ref pt]))) ∧ TS H (upd (upd H pt (stV t)) pw (.lst (ws ++ [.ref pt]))) := by
  have s1 := same_new np (stV t)
  have t1 := TS.of s1
  have t2 : TS (upd H pt (stV t)) (upd (upd H pt (stV t)) pw (.lst (ws ++ [.ref pt]))) := TS.upd (s1 _ _ hws) rfl
  have ow : o ≠ pw := fun e => by
    have z := x.ob
    rw [e, hws] at z
    cases z
  refine ⟨⟨?_, ?_, ⟨_, upd_same, ?_⟩, x.ne, fun y hy => ?_, ?_⟩, fun a u h _ _ n3 => ?_, t1.trans t2⟩
  · rw [upd_ne ow]
    exact s1 _ _ x.ob
  · obtain ⟨rs, h, a⟩ := x.st
    exact ⟨rs, by rw [upd_ne x.ne]; exact s1 _ _ h, dps_same (t1.trans t2) _ _ a⟩
  · rw [show ({ m with wait := t :: m.wait } : Mch).wait.reverse.map stD = m.wait.reverse.map stD ++ [stD t] by rw [List.reverse_cons, List.map_append]; rfl]
    exact dps_snoc (dps_same (t1.trans t2) _ _ hall) (dp_same t2 _ _ (dp_stV t))
  · rcases List.mem_append.mp hy with h | h
    · exact x.asc y (List.mem_append_left _ h)
    · rcases List.mem_cons.mp h with rfl | h
      · exact ht
      · exact x.asc y (List.mem_append_right _ h)
  · show m.steps.length + (m.wait.length + 1) ≤ 100000
    omega
  · rw [upd_ne n3]
    exact s1 _ _ h
theorem SO.pushS {K : PySem.W.Frag} {C o dx ps pw pt : Addr} {m : Mch} {H : Hp} {rs : List V} (x : SO K C o dx ps pw m H) (hrs : H ps = some (.lst rs)) (hall : DpAll K (tps H) rs (m.steps.map stD)) (np : H pt = none) {t : Stp} (ht : Asc t.1) (few : m.steps.length + m.wait.length < 100000) :
    SO K C o dx ps pw { m with steps := m.steps ++ [t] } (upd (upd H pt (stV t)) ps (.lst (rs ++ [.ref pt]))) ∧ Only o ps pw H (upd (upd H pt (stV t)) ps (.lst (rs ++ [.ref pt]))) ∧ TS H (upd (upd H pt (stV t)) ps (.lst (rs ++ [.ref pt]))) := by
  have s1 := same_new np (stV t)
  have t1 := TS.of s1
  have t2 : TS (upd H pt (stV t)) (upd (upd H pt (stV t)) ps (.lst (rs ++ [.ref pt]))) := TS.upd (s1 _ _ hrs) rfl
  have op : o ≠ ps := fun e => by
    have z := x.ob
    rw [e, hrs] at z
    cases z
  refine ⟨⟨?_, ⟨_, upd_same, ?_⟩, ?_, x.ne, fun y hy => ?_, ?_⟩, fun a u h _ n2 _ => ?_, t1.trans t2⟩
  · rw [upd_ne op]
    exact s1 _ _ x.ob
  · rw [List.map_append]
    exact dps_snoc (dps_same (t1.trans t2) _ _ hall) (dp_same t2 _ _ (dp_stV t))
  · obtain ⟨ws, h, a⟩ := x.wt
    exact ⟨ws, by rw [upd_ne x.ne.symm]; exact s1 _ _ h, dps_same (t1.trans t2) _ _ a⟩
  · rcases List.mem_append.mp hy with h | h
    · rcases List.mem_append.mp h with h | h
      · exact x.asc y (List.mem_append_left _ h)
      · rw [List.mem_singleton.mp h]
        exact ht
    · exact x.asc y (List.mem_append_right _ h)
  · show (m.steps ++ [t]).length + m.wait.length ≤ 100000
    rw [List.length_append, List.length_singleton]
    omega
  · rw [upd_ne n2]
    exact s1 _ _ h
theorem words_in2 (l : List Nat) : inV (tx l) [V.str (Str.ofString "sum"), V.str (Str.ofString "average")] = decide (l = sumW ∨ l = avgW) := by
  show ((Str.ofString "sum" == SX.S l) || ((Str.ofString "average" == SX.S l) || false)) = _
  rw [show Str.ofString "sum" = SX.S sumW by decide +kernel, show Str.ofString "average" = SX.S avgW by decide +kernel, SX.S_beq_eq, SX.S_beq_eq, Bool.or_false]
  rw [Bool.eq_iff_iff, Bool.or_eq_true, decide_eq_true_eq, decide_eq_true_eq, decide_eq_true_eq]
  exact ⟨fun h => h.imp Eq.symm Eq.symm, fun h => h.imp Eq.symm Eq.symm⟩
def Pre (K : PySem.W.Frag) (C o dx ps pw : Addr) (m : Mch) (w : List Nat) (H : Hp) : Prop := SO K C o dx ps pw m H ∧ Wrd w ∧ m.steps.length + m.wait.length < 100000
def spTakeX (K : PySem.W.Frag) (C Ce : Addr) (ok : Exp → Prop) : Sp := fun vs H Q E => ∃ (o dx ps pw : Addr) (m : Mch) (w : List Nat) (p : Nat), vs = [.ref o, tx w, .int (p : Nat)] ∧ Pre K C o dx ps pw m w H ∧ ok m.exp ∧
  (∀ m', takeW m (w, p) = .ok m' → ∀ H', SO K C o dx ps pw m' H' → Only o ps pw H H' → TS H H' → Q .non H') ∧
  (∀ e, takeW m (w, p) = .error e → ∀ dx H', Only o ps pw H H' → TS H H' → H' dx = some (.xd [("position", .int (e : Nat))]) → E (.ref Ce) (some dx) H')
def spInitSO (K : PySem.W.Frag) (C : Addr) : Sp := fun vs H Q _ => ∃ (o dx : Addr), vs = [.ref o] ∧ H o = some (.ins C dx []) ∧ ∀ ps pw H', SO K C o dx ps pw ⟨[], [], .factor⟩ H' → H ps = none → H pw = none → (∀ a u, H a = some u → a ≠ o → H' a = some u) → TS H H' → Q .non H'
section
variable {P : Program} {w : World} {K : PySem.W.Frag} {mg : Str → Option Value} {base : Heap}
theorem ok_initSO {C : Addr} (S : SOc K C) (U : Ucs K mg) (D : ∃ f fd, Fun K "__init__" "StepOrder.__init__" s_StepOrder_init f fd ∧ Binds K fd ["self"] [] ∧ Mk K C f) :
    ∃ f fd, FnOk P w K mg base CX0 1 f fd ["self"] (spInitSO K C) ∧ Mk K C f ∧ Binds K fd ["self"] [] := by
  obtain ⟨f, fd, F, hb, hm⟩ := D
  obtain ⟨tf, hF⟩ := U.f
  refine ⟨f, fd, F.ok sc_StepOrder_init (fun vs H Q E h => ?_) (fun cdv A outer s H vs Q E hr h => ?_), hm, hb⟩
  · obtain ⟨o, dx, rfl, _⟩ := h
    rfl
  · obtain ⟨o, dx, rfl, ho, q⟩ := h
    refine ⟨_, (pss_cons (ps_fld (pv 0) (pe_lst pa_nil) rfl)
      (pss_cons (ps_fld (pv 0) (pe_lst pa_nil) rfl)
      (pss_one (ps_fld (pv 0) (pe_glob (v := .str "a factor") rfl hF ⟨_, rfl⟩) rfl)))), ?_⟩
    refine ⟨(by show 0 ≤ sizeLine; decide), fun ps np => ?_⟩
    have op : o ≠ ps := ne_of_none ho np
    refine ⟨_, rfl, o, C, dx, [], rfl, by rw [upd_ne op]; exact ho, S.c, S.n1, (by decide), ?_⟩
    refine ⟨(by show 0 ≤ sizeLine; decide), fun pw nw => ?_⟩
    have ow : o ≠ pw := fun e => by
      rw [← e, upd_same] at nw
      cases nw
    have pp : ps ≠ pw := fun e => by
      rw [← e, upd_ne op.symm, upd_same] at nw
      cases nw
    have hpw : H pw = none := by
      rw [upd_ne ow.symm, upd_ne pp.symm] at nw
      exact nw
    refine ⟨_, rfl, o, C, dx, _, rfl, by rw [upd_ne ow]; exact upd_same, S.c, S.n2, (by show 1 < 1000; decide), ?_⟩
    refine ⟨_, rfl, o, C, dx, _, rfl, upd_same, S.c, S.n3, (by show 2 < 1000; decide), ?_⟩
    refine q ps pw _ ⟨upd_same, ⟨[], ?_, .nil⟩, ⟨[], ?_, .nil⟩, pp, (fun x hx => by cases hx), Nat.zero_le _⟩ np hpw ?_ ?_
    · rw [upd_ne op.symm, upd_ne op.symm, upd_ne pp, upd_ne op.symm, upd_same]
    · rw [upd_ne ow.symm, upd_ne ow.symm, upd_same]
    · intro a u h n1
      rw [upd_ne n1, upd_ne n1, upd_ne (ne_of_none h hpw), upd_ne n1, upd_ne (ne_of_none h np)]
      exact h
    · have t1 := TS.of (same_new np (.lst []))
      have t2 : TS (upd H ps (.lst [])) _ := TS.upd (a := o) (u := .ins C dx (putF "steps" (.ref ps) [])) (by rw [upd_ne op]; exact ho) rfl
      have t3 := TS.of (same_new nw (.lst []))
      refine t1.trans (t2.trans (t3.trans (TS.trans (TS.upd (a := o) (by rw [upd_ne ow]; exact upd_same) rfl) (TS.upd (a := o) upd_same rfl))))
theorem ok_take_list {C Ce : Addr} (S : SOc K C) (U : Ucs K mg) (Ti : ErrF P w K mg base "FormulaSyntax" "position" Ce) (D : Dm K C "take_list" "StepOrder.take_list" s_StepOrder_take_list ["self", "word", "position"]) :
    KnM P w K mg base (L2.CX P w) C "take_list" 35 ["self", "word", "position"] (spTakeX K C Ce (· = .list)) := by
  obtain ⟨f, fd, F, hm, hb⟩ := D
  obtain ⟨fI, fdI, iC, tI, F1, b1⟩ := Ti.ini
  obtain ⟨tf, hF⟩ := U.f
  refine ⟨f, fd, F.okX sc_StepOrder_take_list (fun vs H Q E h => ?_) (fun cdv A outer s H vs Q E hr h => ?_), hm, hb⟩
  · obtain ⟨o, dx, ps, pw, m, wd, p, rfl, _⟩ := h
    rfl
  · obtain ⟨o, dx, ps, pw, m, wd, p, rfl, ⟨so, hw, few⟩, hexp, q, qe⟩ := h
    refine ⟨_, (pss_cons (ps_if (pt_cmpR op_ne (pv 1) pe_str (nomark _)) (pss_one (ps_raise rfl (takes_of rfl rfl rfl rfl) (pmk_oex Ti.ox iC tI F1 (hr.mono (by omega)) b1 .nil pass0 rfl Ti.gC (pa_cons (pv 2) pa_nil)))) pss_nil)
      (pss_one (ps_fld (pv 0) (pe_glob (v := .str "a factor") rfl hF ⟨_, rfl⟩) rfl))), ?_⟩
    have et : takeW m (wd, p) = if wd = [40] then .ok { m with exp := .factor } else .error p := by
      unfold takeW
      rw [hexp]
    have ec : decide (tx wd = V.str (Str.ofString "(")) = decide (wd = [40]) := txt_is (by decide +kernel)
    refine ⟨_, rfl, rfl, _, rfl, ?_⟩
    rw [ec]
    refine ite2 (fun c => ?_) (fun c => ?_)
    · have hn : ¬ wd = [40] := fun z => by
        rw [decide_eq_true z] at c
        cases c
      rw [if_neg hn] at et
      refine ⟨_, rfl, (by show 1 ≤ 1000; decide), fun ea na => ?_⟩
      refine ⟨ea, _, rfl, upd_same, fun xd hdx nx => ⟨rfl, xd, [("position", .int (p : Nat))], upd_same, ?_, ?_, ?_⟩⟩
      · rw [upd_ne nx, upd_same]
      · rw [upd_ne nx] at hdx
        exact hdx
      · rw [upd_ne nx] at hdx
        exact qe _ et xd _ (Only.of (raised_same na hdx nx)) (TS.of (raised_same na hdx nx)) upd_same
    · have hn : wd = [40] := by
        cases z : decide (wd = [40]) with
        | true => exact of_decide_eq_true z
        | false => exact absurd (by rw [z]; rfl) c
      rw [if_pos hn] at et
      exact ⟨_, rfl, o, C, dx, _, rfl, so.ob, S.c, S.n3, (by show 3 < 1000; decide), q _ et _ (so.exp .factor) (Only.upd so.ob) (TS.upd so.ob rfl)⟩
theorem ok_take_factor {C Ce : Addr} (T : Bt mg) (S : SOc K C) (U : Ucs K mg) (Ti : ErrF P w K mg base "FormulaSyntax" "position" Ce) (D : Dm K C "take_factor" "StepOrder.take_factor" s_StepOrder_take_factor ["self", "word", "position"]) :
    KnM P w K mg base (L2.CX P w) C "take_factor" 35 ["self", "word", "position"] (spTakeX K C Ce (· = .factor)) := by
  obtain ⟨f, fd, F, hm, hb⟩ := D
  obtain ⟨fI, fdI, iC, tI, F1, b1⟩ := Ti.ini
  obtain ⟨tf, hF⟩ := U.f
  obtain ⟨tl, hL⟩ := U.l
  obtain ⟨tp, hP⟩ := U.p
  obtain ⟨to, hO⟩ := U.o
  obtain ⟨ts, hsg⟩ := U.s
  obtain ⟨aw, hfw, sfw⟩ := U.w
  refine ⟨f, fd, F.okX sc_StepOrder_take_factor (fun vs H Q E h => ?_) (fun cdv A outer s H vs Q E hr h => ?_), hm, hb⟩
  · obtain ⟨o, dx, ps, pw, m, wd, p, rfl, _⟩ := h
    rfl
  · obtain ⟨o, dx, ps, pw, m, wd, p, rfl, ⟨so, hw, few⟩, hexp, q, qe⟩ := h
    refine ⟨_, (pss_one (ps_if (pt_cmpR op_eq (pv 1) pe_str (nomark _)) (pss_one (ps_expr (pe_bm PySem.F.plainAttrs_list PySem.F.slot_list_append PySem.F.type_list_append mt_append (pe_fld (pv 0) rfl) (pa_cons (pe_tup (pa_cons (pe_glob (v := .str "- factor") rfl hO ⟨_, rfl⟩) (pa_cons (pv 2) (pa_cons pe_int pa_nil)))) pa_nil)))) (pss_one (ps_if (pt_cmpR op_eq (pv 1) pe_str (nomark _)) (pss_one (ps_expr (pe_bm PySem.F.plainAttrs_list PySem.F.slot_list_append PySem.F.type_list_append mt_append (pe_fld (pv 0) rfl) (pa_cons (pe_tup (pa_cons (pv 1) (pa_cons (pv 2) (pa_cons pe_int pa_nil)))) pa_nil)))) (pss_one (ps_if (pt_cmpR (op_inK (K := K) rfl) (pv 1) (pe_glob (v := .ref aw) rfl hfw rfl) (by rfl)) (pss_cons (ps_expr (pe_bm PySem.F.plainAttrs_list PySem.F.slot_list_append PySem.F.type_list_append mt_append (pe_fld (pv 0) rfl) (pa_cons (pe_tup (pa_cons (pv 1) (pa_cons (pv 2) (pa_cons pe_int pa_nil)))) pa_nil)))
      (pss_one (ps_fld (pv 0) (pe_glob (v := .str "the opening parenthesis of a list") rfl hL ⟨_, rfl⟩) rfl))) (pss_one (ps_if (pt_cmpR op_in_str (pv 1) (pe_glob (v := .str "+-*/(),") rfl hsg ⟨_, rfl⟩) (by rfl)) (pss_one (ps_raise rfl (takes_of rfl rfl rfl rfl) (pmk_oex Ti.ox iC tI F1 (hr.mono (by omega)) b1 .nil pass0 rfl Ti.gC (pa_cons (pv 2) pa_nil)))) (pss_cons (ps_expr (pe_bm PySem.F.plainAttrs_list PySem.F.slot_list_append PySem.F.type_list_append mt_append (pe_fld (pv 0) rfl) (pa_cons (pe_tup (pa_cons (pv 1) (pa_cons (pv 2) (pa_cons pe_int pa_nil)))) pa_nil)))
      (pss_one (ps_fld (pv 0) (pe_glob (v := .str "an operator, a comma, a closing parenthesis or the end") rfl hP ⟨_, rfl⟩) rfl))))))))))), ?_⟩
    have et : takeW m (wd, p) = if wd = [45] then .ok { m with wait := (oppW, p, 1) :: m.wait }
      else if wd = [40] then .ok { m with wait := (wd, p, 1) :: m.wait }
      else if wd = sumW ∨ wd = avgW then .ok { m with wait := (wd, p, 1) :: m.wait, exp := .list }
      else if signW wd then .error p
      else .ok { m with steps := m.steps ++ [(wd, p, 0)], exp := .operator } := by
      unfold takeW
      rw [hexp]
    obtain ⟨ws, hws, hwall⟩ := so.wt
    obtain ⟨rs, hrs, hrall⟩ := so.st
    have lws : ws.length < 100000 := by
      have := dps_len hwall
      rw [List.length_map, List.length_reverse] at this
      omega
    have lrs : rs.length < 100000 := by
      have := dps_len hrall
      rw [List.length_map] at this
      omega
    refine ⟨_, rfl, rfl, _, rfl, ?_⟩
    rw [txt_is (l := [45]) (by decide +kernel)]
    refine ite2 (fun c => ?_) (fun c => ?_)
    · have h1 := of_decide_eq_true c
      rw [if_pos h1] at et
      refine ⟨_, rfl, o, C, dx, _, .ref pw, rfl, so.ob, S.c, S.n2, rfl, .inl ⟨rfl, _, SqL.of hws⟩, _, rfl, (by show 3 ≤ sizeLine; decide), fun pt npt => ?_⟩
      have z := so.pushW hws hwall npt (t := (oppW, p, 1)) (by show ∀ c ∈ oppW, c < 128; decide) few
      have eo : (HO.tup [V.str (Str.ofString "- factor"), .int (p : Nat), .int 1]) = stV (oppW, p, 1) := congrArg (fun s => HO.tup [V.str s, .int (p : Nat), .int 1]) (show Str.ofString "- factor" = SX.S oppW by decide +kernel)
      rw [eo]
      exact ⟨pw, ws, _, rfl, rfl, (same_new npt _) _ _ hws, small1e5 (by omega), q _ et _ z.1 z.2.1 z.2.2⟩
    have h1 : ¬ wd = [45] := fun z => c (decide_eq_true z)
    rw [if_neg h1] at et
    clear c
    refine ⟨_, rfl, rfl, _, rfl, ?_⟩
    rw [txt_is (l := [40]) (by decide +kernel)]
    refine ite2 (fun c => ?_) (fun c => ?_)
    · have h2 := of_decide_eq_true c
      rw [if_pos h2] at et
      refine ⟨_, rfl, o, C, dx, _, .ref pw, rfl, so.ob, S.c, S.n2, rfl, .inl ⟨rfl, _, SqL.of hws⟩, _, rfl, _, rfl, (by show 3 ≤ sizeLine; decide), fun pt npt => ?_⟩
      have z := so.pushW hws hwall npt (t := (wd, p, 1)) hw.1 few
      exact ⟨pw, ws, _, rfl, rfl, (same_new npt _) _ _ hws, small1e5 (by omega), q _ et _ z.1 z.2.1 z.2.2⟩
    have h2 : ¬ wd = [40] := fun z => c (decide_eq_true z)
    rw [if_neg h2] at et
    clear c
    refine ⟨_, rfl, aw, _, rfl, .inr (sfw _), rfl, rfl, _, rfl, ?_⟩
    have ew : inV (tx wd) [V.str (Str.ofString "sum"), V.str (Str.ofString "average")] = decide (wd = sumW ∨ wd = avgW) := words_in2 wd
    refine ite2 (fun c => ?_) (fun c => ?_)
    · have h3 := of_decide_eq_true (ew.symm.trans c)
      rw [if_pos h3] at et
      refine ⟨_, rfl, o, C, dx, _, .ref pw, rfl, so.ob, S.c, S.n2, rfl, .inl ⟨rfl, _, SqL.of hws⟩, _, rfl, _, rfl, (by show 3 ≤ sizeLine; decide), fun pt npt => ?_⟩
      have z := so.pushW hws hwall npt (t := (wd, p, 1)) hw.1 few
      refine ⟨pw, ws, _, rfl, rfl, (same_new npt _) _ _ hws, small1e5 (by omega), ?_⟩
      exact ⟨_, rfl, o, C, dx, _, rfl, z.1.ob, S.c, S.n3, (by show 3 < 1000; decide), q _ et _ (z.1.exp .list) (z.2.1.trans (Only.upd z.1.ob)) (z.2.2.trans (TS.upd z.1.ob rfl))⟩
    have h3 := of_decide_eq_false (ew.symm.trans (Bool.eq_false_iff.mpr c))
    rw [if_neg h3] at et
    clear c ew
    refine ⟨_, rfl, _, _, rfl, rfl, _, rfl, ?_⟩
    rw [word_in hw]
    refine ite2 (fun c => ?_) (fun c => ?_)
    · have h4 := of_decide_eq_true c
      rw [if_pos h4] at et
      refine ⟨_, rfl, (by show 1 ≤ 1000; decide), fun ea na => ?_⟩
      refine ⟨ea, _, rfl, upd_same, fun xd hdx nx => ⟨rfl, xd, [("position", .int (p : Nat))], upd_same, ?_, ?_, ?_⟩⟩
      · rw [upd_ne nx, upd_same]
      · rw [upd_ne nx] at hdx
        exact hdx
      · rw [upd_ne nx] at hdx
        exact qe _ et xd _ (Only.of (raised_same na hdx nx)) (TS.of (raised_same na hdx nx)) upd_same
    have h4 : ¬ signW wd := fun z => c (decide_eq_true z)
    rw [if_neg h4] at et
    clear c
    refine ⟨_, rfl, o, C, dx, _, .ref ps, rfl, so.ob, S.c, S.n1, rfl, .inl ⟨rfl, _, SqL.of hrs⟩, _, rfl, _, rfl, (by show 3 ≤ sizeLine; decide), fun pt npt => ?_⟩
    have z := so.pushS hrs hrall npt (t := (wd, p, 0)) hw.1 few
    refine ⟨ps, rs, _, rfl, rfl, (same_new npt _) _ _ hrs, small1e5 (by omega), ?_⟩
    exact ⟨_, rfl, o, C, dx, _, rfl, z.1.ob, S.c, S.n3, (by show 3 < 1000; decide), q _ et _ (z.1.exp .operator) (z.2.1.trans (Only.upd z.1.ob)) (z.2.2.trans (TS.upd z.1.ob rfl))⟩
end

end Bs

namespace Bs
open PySem L2




theorem op_notInK2 {X : Cx} {K : PySem.W.Frag} (h : X.K = K) : OpR X (compareOp .NotIn) (rIn K true) := by
  subst h
  exact op_notIn_seq
theorem comma_close (l : List Nat) : inV (tx l) [V.str (Str.ofString ","), V.str (Str.ofString ")")] = decide (l = [44] ∨ l = [41]) := by
  show ((Str.ofString "," == SX.S l) || ((Str.ofString ")" == SX.S l) || false)) = _
  rw [show Str.ofString "," = SX.S [44] by decide +kernel, show Str.ofString ")" = SX.S [41] by decide +kernel, SX.S_beq_eq, SX.S_beq_eq, Bool.or_false]
  rw [Bool.eq_iff_iff, Bool.or_eq_true, decide_eq_true_eq, decide_eq_true_eq, decide_eq_true_eq]
  exact ⟨fun h => h.imp Eq.symm Eq.symm, fun h => h.imp Eq.symm Eq.symm⟩
theorem last_at {α : Type} (l : List α) (x : α) : (l ++ [x])[(l ++ [x]).length - 1]? = some x := by
  rw [List.length_append, List.length_singleton, Nat.add_sub_cancel, List.getElem?_append_right (Nat.le_refl _), Nat.sub_self]
  rfl
theorem SO.popW {K : PySem.W.Frag} {C o dx ps pw : Addr} {ss wt : List Stp} {e : Exp} {x : Stp} {H : Hp} {wi : List V} {v : V} (so : SO K C o dx ps pw ⟨ss, x :: wt, e⟩ H) (hws : H pw = some (.lst (wi ++ [v]))) (hall : DpAll K (tps H) wi (wt.reverse.map stD)) :
    SO K C o dx ps pw ⟨ss, wt, e⟩ (upd H pw (.lst (wi ++ [v]).dropLast)) ∧ Only o ps pw H (upd H pw (.lst (wi ++ [v]).dropLast)) ∧ TS H (upd H pw (.lst (wi ++ [v]).dropLast)) := by
  have t1 : TS H (upd H pw (.lst (wi ++ [v]).dropLast)) := TS.upd hws rfl
  have ow : o ≠ pw := fun e => by
    have z := so.ob
    rw [e, hws] at z
    cases z
  refine ⟨⟨?_, ?_, ⟨wi, by rw [upd_same, List.dropLast_concat], dps_same t1 _ _ hall⟩, so.ne, fun y hy => ?_, ?_⟩, fun a u h _ _ n3 => ?_, t1⟩
  · rw [upd_ne ow]
    exact so.ob
  · obtain ⟨rs, h, a⟩ := so.st
    exact ⟨rs, by rw [upd_ne so.ne]; exact h, dps_same t1 _ _ a⟩
  · rcases List.mem_append.mp hy with h | h
    · exact so.asc y (List.mem_append_left _ h)
    · exact so.asc y (List.mem_append_right _ (List.mem_cons_of_mem _ h))
  · have := so.few
    have e2 : ss.length + (wt.length + 1) ≤ 100000 := this
    show ss.length + wt.length ≤ 100000
    omega
  · rw [upd_ne n3]
    exact h
def spEndX (K : PySem.W.Frag) (C Ce : Addr) : Sp := fun vs H Q E => ∃ (o dx ps pw : Addr) (m : Mch) (w : List Nat) (p : Nat), vs = [.ref o, tx w, .int (p : Nat)] ∧ Pre K C o dx ps pw m w H ∧ m.exp = .operator ∧ rankW w = 0 ∧
  (∀ m', takeW m (w, p) = .ok m' → ∀ H', SO K C o dx ps pw m' H' → Only o ps pw H H' → TS H H' → Q .non H') ∧
  (∀ e, takeW m (w, p) = .error e → ∀ dx H', Only o ps pw H H' → TS H H' → H' dx = some (.xd [("position", .int (e : Nat))]) → E (.ref Ce) (some dx) H')
section
variable {P : Program} {w : World} {K : PySem.W.Frag} {mg : Str → Option Value} {base : Heap}
theorem ok_take_end {C Ce : Addr} (T : Bt mg) (S : SOc K C) (U : Ucs K mg) (Ti : ErrF P w K mg base "FormulaSyntax" "position" Ce) (GR : KnM P w K mg base CX0 C "release" 33 ["self", "rank"] (spRelease K C))
    (D : Dm K C "take_end" "StepOrder.take_end" s_StepOrder_take_end ["self", "word", "position"]) : KnM P w K mg base (L2.CX P w) C "take_end" 35 ["self", "word", "position"] (spEndX K C Ce) := by
  obtain ⟨f, fd, F, hm, hb⟩ := D
  obtain ⟨fI, fdI, iC, tI, F1, b1⟩ := Ti.ini
  obtain ⟨f_r, fd_r, G_StepOrder_release, h_StepOrder_release, b_StepOrder_release⟩ := GR
  have c_StepOrder := S.c
  obtain ⟨tf, hF⟩ := U.f
  obtain ⟨tr, hR⟩ := U.r
  refine ⟨f, fd, F.okX sc_StepOrder_take_end (fun vs H Q E h => ?_) (fun cdv A outer s H vs Q E hr h => ?_), hm, hb⟩
  · obtain ⟨o, dx, ps, pw, m, wd, p, rfl, _⟩ := h
    rfl
  · obtain ⟨o, dx, ps, pw, m, wd, p, rfl, ⟨so, hw, few⟩, hexp, hrk, q, qe⟩ := h
    refine ⟨_, (pss_cons (ps_expr (pe_meth (pv 0) c_StepOrder h_StepOrder_release G_StepOrder_release (hr.mono (by omega)) b_StepOrder_release .nil pass0 (pa_cons (pe_glob (v := .int 1) rfl hR ⟨_, rfl⟩) pa_nil)))
      (pss_cons (ps_if (PW.pt (pw_or (pt_cmpR (op_notInK2 (K := K) rfl) (pv 1) (pe_tup (pa_cons pe_str (pa_cons pe_str pa_nil))) (by rfl)) (pw_or1 (pt_cmpR (op_eqD hr.units) (pe_fld (pv 0) rfl) (pe_lst pa_nil) (nomark _))))) (pss_one (ps_raise rfl (takes_of rfl rfl rfl rfl) (pmk_oex Ti.ox iC tI F1 (hr.mono (by omega)) b1 .nil pass0 rfl Ti.gC (pa_cons (pv 2) pa_nil)))) pss_nil)
      (pss_cons (ps_asg (pe_bm0 PySem.F.plainAttrs_list PySem.F.slot_list_pop PySem.F.type_list_pop mt_pop (pe_fld (pv 0) rfl)) (pg_tup (by rfl) (pgs_cons (pg_name (i := 3) sc_StepOrder_take_end.nd rfl (Or.inl rfl)) (pgs_cons (pg_name (i := 4) sc_StepOrder_take_end.nd rfl (Or.inl rfl)) (pgs_cons (pg_name (i := 5) sc_StepOrder_take_end.nd rfl (Or.inl rfl)) pgs_nil)))))
      (pss_cons (ps_if (PW.pt (pw_and (pt_cmpR op_eq (pv 1) pe_str (nomark _)) (pw_and1 (pt_cmpR op_eq (pv 3) pe_str (nomark _))))) (pss_one (ps_raise rfl (takes_of rfl rfl rfl rfl) (pmk_oex Ti.ox iC tI F1 (hr.mono (by omega)) b1 .nil pass0 rfl Ti.gC (pa_cons (pv 2) pa_nil)))) pss_nil)
      (pss_one (ps_if (pt_cmpR op_eq (pv 1) pe_str (nomark _)) (pss_cons (ps_expr (pe_bm PySem.F.plainAttrs_list PySem.F.slot_list_append PySem.F.type_list_append mt_append (pe_fld (pv 0) rfl) (pa_cons (pe_tup (pa_cons (pv 3) (pa_cons (pv 4) (pa_cons (pe_op op_add (pv 5) pe_int) pa_nil)))) pa_nil)))
      (pss_one (ps_fld (pv 0) (pe_glob (v := .str "a factor") rfl hF ⟨_, rfl⟩) rfl))) (pss_one (ps_if (pt_cmpR op_ne (pv 3) pe_str (nomark _)) (pss_one (ps_expr (pe_bm PySem.F.plainAttrs_list PySem.F.slot_list_append PySem.F.type_list_append mt_append (pe_fld (pv 0) rfl) (pa_cons (pe_tup (pa_cons (pv 3) (pa_cons (pv 4) (pa_cons (pv 5) pa_nil)))) pa_nil)))) pss_nil)))))))), ?_⟩
    have et : takeW m (wd, p) = match releaseW 1 m.wait m.steps with
      | ([], _) => .error p
      | ((o, i, n) :: ws, ss) =>
        if wd = [44] then (if o = [40] then .error p else .ok ⟨ss, (o, i, n + 1) :: ws, .factor⟩)
        else if wd = [41] then (if o = [40] then .ok ⟨ss, ws, .operator⟩ else .ok ⟨ss ++ [(o, i, n)], ws, .operator⟩)
        else .error p := by
      unfold takeW
      rw [hexp]
      have hn : ¬ (wd = [43] ∨ wd = [45] ∨ wd = [42] ∨ wd = [47]) := fun z => by
        rcases z with rfl | rfl | rfl | rfl <;> cases hrk
      exact if_neg hn
    refine ⟨_, rfl, o, dx, _, rfl, so.ob, rfl, o, dx, ps, pw, m, 1, rfl, so, Nat.le_refl _, fun H1 so1 on1 ts1 => ?_⟩
    rw [hexp] at so1
    obtain ⟨W1, S1, eW⟩ : ∃ W1 S1, releaseW 1 m.wait m.steps = (W1, S1) := ⟨_, _, rfl⟩
    rw [eW] at so1 et
    have so1 : SO K C o dx ps pw ⟨S1, W1, .operator⟩ H1 := so1
    obtain ⟨ws, hws, hwall⟩ := so1.wt
    obtain ⟨rs, hrs, hrall⟩ := so1.st
    have few1 := so1.few
    have few1 : S1.length + W1.length ≤ 100000 := few1
    have ew : (!inV (tx wd) [V.str (Str.ofString ","), V.str (Str.ofString ")")]) = !decide (wd = [44] ∨ wd = [41]) := congrArg (!·) (comma_close wd)
    refine ⟨_, rfl, (by show 2 ≤ sizeLine; decide), fun pt npt => ⟨pt, _, rfl, .inr (SqT.of upd_same), rfl, rfl, _, rfl, ?_⟩⟩
    have s2 := same_new npt (.tup [V.str ",", .str ")"])
    have so2 := so1.keep s2
    have on2 := on1.trans (Only.of (o := o) (ps := ps) (pw := pw) s2)
    have ts2 := ts1.trans (TS.of s2)
    have hws2 := s2 _ _ hws
    have hrs2 := s2 _ _ hrs
    have hwall2 := dps_same (TS.of s2) _ _ hwall
    have hrall2 := dps_same (TS.of s2) _ _ hrall
    generalize upd H1 pt (.tup [V.str ",", .str ")"]) = H2 at *
    clear hws hrs hwall hrall so1 on1 ts1 s2 npt
    refine ite2 (fun c => ?_) (fun c => ?_)
    · have hn : ¬ (wd = [44] ∨ wd = [41]) := fun z => by
        rw [ew, decide_eq_true z] at c
        cases c
      have et2 : takeW m (wd, p) = .error p := by
        rw [et]
        cases W1 with
        | nil => rfl
        | cons x W1 =>
          obtain ⟨oo, i, n⟩ := x
          show (if wd = [44] then _ else if wd = [41] then _ else Except.error p) = _
          rw [if_neg (fun z => hn (.inl z)), if_neg (fun z => hn (.inr z))]
      refine ⟨_, rfl, (by show 1 ≤ 1000; decide), fun ea na => ?_⟩
      refine ⟨ea, _, rfl, upd_same, fun xd hdx nx => ⟨rfl, xd, [("position", .int (p : Nat))], upd_same, ?_, ?_, ?_⟩⟩
      · rw [upd_ne nx, upd_same]
      · rw [upd_ne nx] at hdx
        exact hdx
      · rw [upd_ne nx] at hdx
        exact qe _ et2 xd _ (on2.trans (Only.of (raised_same na hdx nx))) (ts2.trans (TS.of (raised_same na hdx nx))) upd_same
    have hin : wd = [44] ∨ wd = [41] := by
      cases z : decide (wd = [44] ∨ wd = [41]) with
      | true => exact of_decide_eq_true z
      | false => exact absurd (by rw [ew, z]; rfl) c
    clear c ew
    have hwD : Dp K H2 (.ref pw) (.list (W1.reverse.map stD)) := .lst (SqL.of hws2) (dps_same (tps_sub H2) _ _ hwall2)
    have hfine : SeqAt.shaped (.list (W1.reverse.map stD)) = true := (fine.lst (n := 1) fun d hd => by
      obtain ⟨x, hx, rfl⟩ := List.mem_map.mp hd
      exact fine_st (so2.asc x (List.mem_append_right _ (List.mem_reverse.mp hx)))).shp (by decide)
    refine ⟨_, rfl, o, C, dx, _, .ref pw, rfl, so2.ob, S.c, S.n2, rfl, (by show 0 ≤ sizeLine; decide), fun p1 np1 => ?_⟩
    have s3 := same_new np1 (.lst [])
    refine ⟨.list (W1.reverse.map stD), .list [], dp_same s3 _ _ hwD, .lst (SqL.of upd_same) .nil, hfine, rfl, _, rfl, ?_⟩
    have so3 := so2.keep s3
    have on3 := on2.trans (Only.of (o := o) (ps := ps) (pw := pw) s3)
    have ts3 := ts2.trans (TS.of s3)
    have hws3 := s3 _ _ hws2
    have hrs3 := s3 _ _ hrs2
    have hwall3 := dps_same (TS.of s3) _ _ hwall2
    have hrall3 := dps_same (TS.of s3) _ _ hrall2
    generalize upd H2 p1 (.lst []) = H3 at *
    clear hws2 hrs2 hwall2 hrall2 so2 on2 ts2 s3 np1 hwD hfine
    cases W1 with
    | nil =>
      refine ite2 (fun c => ?_) (fun c => ?_)
      · have et2 : takeW m (wd, p) = .error p := et
        refine ⟨_, rfl, (by show 1 ≤ 1000; decide), fun ea na => ?_⟩
        refine ⟨ea, _, rfl, upd_same, fun xd hdx nx => ⟨rfl, xd, [("position", .int (p : Nat))], upd_same, ?_, ?_, ?_⟩⟩
        · rw [upd_ne nx, upd_same]
        · rw [upd_ne nx] at hdx
          exact hdx
        · rw [upd_ne nx] at hdx
          exact qe _ et2 xd _ (on3.trans (Only.of (raised_same na hdx nx))) (ts3.trans (TS.of (raised_same na hdx nx))) upd_same
      · exact absurd (by rfl) c
    | cons x Wr =>
      obtain ⟨oo, i, n⟩ := x
      have erev : ((oo, i, n) :: Wr).reverse.map stD = Wr.reverse.map stD ++ [stD (oo, i, n)] := by rw [List.reverse_cons, List.map_append]; rfl
      refine ite2 (fun c => ?_) (fun c => ?_)
      · rw [erev, eqv_snoc] at c
        cases c
      clear c
      have hx := so3.asc (oo, i, n) (List.mem_append_right _ (List.mem_cons_self ..))
      rw [show ({ steps := S1, wait := (oo, i, n) :: Wr, exp := Exp.operator } : Mch).wait.reverse.map stD = Wr.reverse.map stD ++ [stD (oo, i, n)] from erev] at hwall3
      obtain ⟨wi, v, rfl, hwi, hv⟩ := dps_last hwall3
      have et3 : takeW m (wd, p) = if wd = [44] then (if oo = [40] then .error p else .ok ⟨S1, (oo, i, n + 1) :: Wr, .factor⟩)
        else if wd = [41] then (if oo = [40] then .ok ⟨S1, Wr, .operator⟩ else .ok ⟨S1 ++ [(oo, i, n)], Wr, .operator⟩)
        else .error p := et
      have pop := so3.popW hws3 hwi
      have tv := pop.2.2
      cases (show Dp K (tps H3) v (.tuple [.str (SX.S oo), .int (i : Nat), .int (n : Nat)]) from hv) with
      | @tup pv xs_ _ hsq hal =>
        cases hal with
        | cons hw0 hal =>
          cases hal with
          | cons hw1 hal =>
            cases hal with
            | cons hw2 hal =>
              cases hal
              cases hw0
              cases hw1
              cases hw2
              refine ⟨_, rfl, o, C, dx, _, .ref pw, rfl, so3.ob, S.c, S.n2, rfl, .inl ⟨rfl, _, SqL.of hws3⟩, pw, _, .ref pv, rfl, rfl, hws3, last_at wi _, ?_⟩
              have hsq4 := same_seqT (Same.trans tv (tps_sub _)) hsq
              have hwi4 := dps_same tv _ _ hwi
              have hrall4 := dps_same tv _ _ hrall3
              have hrs4 : upd H3 pw (.lst (wi ++ [V.ref pv]).dropLast) ps = some (.lst rs) := by rw [upd_ne so3.ne]; exact hrs3
              have hws4 : upd H3 pw (.lst (wi ++ [V.ref pv]).dropLast) pw = some (.lst wi) := by rw [upd_same, List.dropLast_concat]
              have so4 := pop.1
              have on4 := on3.trans pop.2.1
              have ts4 := ts3.trans tv
              generalize upd H3 pw (.lst (wi ++ [V.ref pv]).dropLast) = H4 at *
              refine ⟨pv, _, rfl, hsq4, rfl, _, _, rfl, _, _, rfl, _, _, rfl, rfl, ?_⟩
              clear et pop tv hsq hws3 hwall3 hwi hrs3 hrall3 hv so3
              have few4 : S1.length + Wr.length < 100000 := by
                have e : ((oo, i, n) :: Wr).length = Wr.length + 1 := rfl
                omega
              have lwi : wi.length ≤ 99999 := by
                have := dps_len hwi4
                rw [List.length_map, List.length_reverse] at this
                omega
              have lrs4 : rs.length ≤ 99999 := by
                have := dps_len hrall4
                rw [List.length_map] at this
                have e : rs.length = S1.length := this
                omega
              refine ⟨_, rfl, rfl, _, rfl, ?_⟩
              rw [txt_is (l := [44]) (by decide +kernel)]
              refine ite2 (fun c => ?_) (fun c => ?_)
              · have h1 := of_decide_eq_true c
                rw [if_pos h1] at et3
                refine ⟨_, rfl, rfl, _, rfl, ?_⟩
                rw [txt_is (l := [40]) (by decide +kernel)]
                refine ite2 (fun c => ?_) (fun c => ?_)
                · have h2 := of_decide_eq_true c
                  rw [if_pos h2] at et3
                  refine ⟨_, rfl, (by show 1 ≤ 1000; decide), fun ea na => ?_⟩
                  refine ⟨ea, _, rfl, upd_same, fun xd hdx nx => ⟨rfl, xd, [("position", .int (p : Nat))], upd_same, ?_, ?_, ?_⟩⟩
                  · rw [upd_ne nx, upd_same]
                  · rw [upd_ne nx] at hdx
                    exact hdx
                  · rw [upd_ne nx] at hdx
                    exact qe _ et3 xd _ (on4.trans (Only.of (raised_same na hdx nx))) (ts4.trans (TS.of (raised_same na hdx nx))) upd_same
                · have h2 : ¬ oo = [40] := fun z => c (decide_eq_true z)
                  rw [if_neg h2] at et3
                  refine ⟨_, rfl, rfl, _, rfl, ?_⟩
                  rw [txt_is (l := [44]) (by decide +kernel)]
                  refine ite2 (fun _ => ?_) (fun c => absurd (decide_eq_true h1) c)
                  refine ⟨_, rfl, o, C, dx, _, .ref pw, rfl, so4.ob, S.c, S.n2, rfl, .inl ⟨rfl, _, SqL.of hws4⟩, _, rfl, _, rfl, _, rfl, _, _, rfl, rfl, (by show 3 ≤ sizeLine; decide), fun p5 np5 => ?_⟩
                  have z := so4.pushW hws4 hwi4 np5 (t := (oo, i, n + 1)) hx few4
                  refine ⟨pw, wi, _, rfl, rfl, (same_new np5 _) _ _ hws4, small1e5 (by omega), ?_⟩
                  exact ⟨_, rfl, o, C, dx, _, rfl, z.1.ob, S.c, S.n3, (by show 3 < 1000; decide), q _ et3 _ (z.1.exp .factor) (on4.trans (z.2.1.trans (Only.upd z.1.ob))) (ts4.trans (z.2.2.trans (TS.upd z.1.ob rfl)))⟩
              · have h1 : ¬ wd = [44] := fun z => c (decide_eq_true z)
                have h41 : wd = [41] := hin.resolve_left h1
                rw [if_neg h1, if_pos h41] at et3
                refine ⟨_, rfl, rfl, _, rfl, ?_⟩
                rw [txt_is (l := [44]) (by decide +kernel)]
                refine ite2 (fun c => absurd (of_decide_eq_true c) h1) (fun _ => ?_)
                refine ⟨_, rfl, rfl, _, rfl, ?_⟩
                rw [txt_is (l := [40]) (by decide +kernel)]
                refine ite2 (fun c => ?_) (fun c => ?_)
                · have h2 : ¬ oo = [40] := fun z => by
                    rw [decide_eq_true z] at c
                    cases c
                  rw [if_neg h2] at et3
                  refine ⟨_, rfl, o, C, dx, _, .ref ps, rfl, so4.ob, S.c, S.n1, rfl, .inl ⟨rfl, _, SqL.of hrs4⟩, _, rfl, _, rfl, _, rfl, (by show 3 ≤ sizeLine; decide), fun p5 np5 => ?_⟩
                  have z := so4.pushS hrs4 hrall4 np5 (t := (oo, i, n)) hx few4
                  exact ⟨ps, rs, _, rfl, rfl, (same_new np5 _) _ _ hrs4, small1e5 (by omega), q _ et3 _ z.1 (on4.trans z.2.1) (ts4.trans z.2.2)⟩
                · have h2 : oo = [40] := by
                    cases z : decide (oo = [40]) with
                    | true => exact of_decide_eq_true z
                    | false => exact absurd (by rw [z]; rfl) c
                  rw [if_pos h2] at et3
                  exact q _ et3 _ so4 on4 ts4
end

end Bs

namespace Bs
open PySem L2




def spFinish (K : PySem.W.Frag) (C Ce : Addr) : Sp := fun vs H Q E => ∃ (o dx ps pw : Addr) (m : Mch) (n : Nat), vs = [.ref o, .int (n : Nat)] ∧ SO K C o dx ps pw m H ∧
  (∀ ss, endW m n = .ok ss → ∀ H', SO K C o dx ps pw ⟨ss, [], .operator⟩ H' → Only o ps pw H H' → TS H H' → Q .non H') ∧
  (∀ e, endW m n = .error e → ∀ dx H', Only o ps pw H H' → TS H H' → H' dx = some (.xd [("position", .int (e : Nat))]) → E (.ref Ce) (some dx) H')
theorem exp_is (e : Exp) : decide (V.str (expS e) = V.str (Str.ofString "a factor")) = decide (e = .factor) ∧ decide (V.str (expS e) = V.str (Str.ofString "the opening parenthesis of a list")) = decide (e = .list) ∧
    decide (V.str (expS e) = V.str (Str.ofString "an operator, a comma, a closing parenthesis or the end")) = decide (e = .operator) := by
  cases e <;> decide +kernel
def spTakeW (K : PySem.W.Frag) (C Ce : Addr) : Sp := fun vs H Q E => ∃ (o dx ps pw : Addr) (m : Mch) (w : List Nat) (p : Nat), vs = [.ref o, tx w, .int (p : Nat)] ∧ Pre K C o dx ps pw m w H ∧
  (∀ m', takeW m (w, p) = .ok m' → ∀ H', SO K C o dx ps pw m' H' → Only o ps pw H H' → TS H H' → Q .non H') ∧
  (∀ e, takeW m (w, p) = .error e → ∀ dx H', Only o ps pw H H' → TS H H' → H' dx = some (.xd [("position", .int (e : Nat))]) → E (.ref Ce) (some dx) H')
theorem rank_words {w : List Nat} (h : w ≠ oppW) : rankW w ≠ 0 ↔ (w = [43] ∨ w = [45] ∨ w = [42] ∨ w = [47]) := by
  unfold rankW
  constructor
  · intro z
    split at z
    · rename_i e
      exact e.elim .inl fun e => .inr (.inl e)
    · split at z
      · rename_i e
        exact e.elim (fun e => .inr (.inr (.inl e))) fun e => .inr (.inr (.inr e))
      · exact absurd rfl z
  · rintro (rfl | rfl | rfl | rfl) <;> decide
theorem release_len (r : Nat) : ∀ (ws ss : List Stp), (releaseW r ws ss).1.length + (releaseW r ws ss).2.length = ws.length + ss.length
  | [], ss => rfl
  | x :: ws, ss => by
    unfold releaseW
    split
    · rw [release_len r ws (ss ++ [x]), List.length_append]
      simp only [List.length_cons, List.length_nil]
      omega
    · simp only [List.length_cons]
section
variable {P : Program} {w : World} {K : PySem.W.Frag} {mg : Str → Option Value} {base : Heap}
theorem ok_take_so {C Ce : Addr} (T : Bt mg) (S : SOc K C) (U : Ucs K mg) (R : Rnk K w mg) (GR : KnM P w K mg base CX0 C "release" 33 ["self", "rank"] (spRelease K C))
    (GF : KnM P w K mg base (L2.CX P w) C "take_factor" 35 ["self", "word", "position"] (spTakeX K C Ce (· = .factor))) (GL : KnM P w K mg base (L2.CX P w) C "take_list" 35 ["self", "word", "position"] (spTakeX K C Ce (· = .list)))
    (GE : KnM P w K mg base (L2.CX P w) C "take_end" 35 ["self", "word", "position"] (spEndX K C Ce))
    (D : Dm K C "take" "StepOrder.take" s_StepOrder_take ["self", "word", "position"]) : KnM P w K mg base (L2.CX P w) C "take" 36 ["self", "word", "position"] (spTakeW K C Ce) := by
  obtain ⟨f, fd, F, hm, hb⟩ := D
  obtain ⟨f_r, fd_r, G_StepOrder_release, h_StepOrder_release, b_StepOrder_release⟩ := GR
  obtain ⟨f_f, fd_f, G_StepOrder_take_factor, h_StepOrder_take_factor, b_StepOrder_take_factor⟩ := GF
  obtain ⟨f_l, fd_l, G_StepOrder_take_list, h_StepOrder_take_list, b_StepOrder_take_list⟩ := GL
  obtain ⟨f_e, fd_e, G_StepOrder_take_end, h_StepOrder_take_end, b_StepOrder_take_end⟩ := GE
  have c_StepOrder := S.c
  obtain ⟨tf, hF⟩ := U.f
  obtain ⟨tl, hL⟩ := U.l
  obtain ⟨aR, eR, nR, hRK, DR, hrank⟩ := R.ex
  refine ⟨f, fd, F.okX sc_StepOrder_take (fun vs H Q E h => ?_) (fun cdv A outer s H vs Q E hr h => ?_), hm, hb⟩
  · obtain ⟨o, dx, ps, pw, m, wd, p, rfl, _⟩ := h
    rfl
  · obtain ⟨o, dx, ps, pw, m, wd, p, rfl, ⟨so, hw, few⟩, q, qe⟩ := h
    refine ⟨_, (pss_one (ps_if (pt_cmpR op_eq (pe_fld (pv 0) rfl) (pe_glob (v := .str "a factor") rfl hF ⟨_, rfl⟩) (nomark _)) (pss_one (ps_expr (pe_meth (pv 0) c_StepOrder h_StepOrder_take_factor G_StepOrder_take_factor (hr.mono (by omega)) b_StepOrder_take_factor .nil (passes_call (takes_of rfl rfl rfl rfl) (fun _ _ _ _ h => h)) (pa_cons (pv 1) (pa_cons (pv 2) pa_nil))))) (pss_one (ps_if (pt_cmpR op_eq (pe_fld (pv 0) rfl) (pe_glob (v := .str "the opening parenthesis of a list") rfl hL ⟨_, rfl⟩) (nomark _)) (pss_one (ps_expr (pe_meth (pv 0) c_StepOrder h_StepOrder_take_list G_StepOrder_take_list (hr.mono (by omega)) b_StepOrder_take_list .nil (passes_call (takes_of rfl rfl rfl rfl) (fun _ _ _ _ h => h)) (pa_cons (pv 1) (pa_cons (pv 2) pa_nil))))) (pss_one (ps_if (pt_cmpR (op_in_kd DR) (pv 1) (pe_glob (v := .ref aR) rfl hRK rfl) (by rfl)) (pss_cons (ps_expr (pe_meth (pv 0) c_StepOrder h_StepOrder_release G_StepOrder_release (hr.mono (by omega)) b_StepOrder_release .nil pass0 (pa_cons (pe_ix ix_kdict (pe_glob (v := .ref aR) rfl hRK rfl) (pv 1) (fun _ _ => rfl)) pa_nil)))
      (pss_cons (ps_expr (pe_bm PySem.F.plainAttrs_list PySem.F.slot_list_append PySem.F.type_list_append mt_append (pe_fld (pv 0) rfl) (pa_cons (pe_tup (pa_cons (pv 1) (pa_cons (pv 2) (pa_cons pe_int pa_nil)))) pa_nil)))
      (pss_one (ps_fld (pv 0) (pe_glob (v := .str "a factor") rfl hF ⟨_, rfl⟩) rfl)))) (pss_one (ps_expr (pe_meth (pv 0) c_StepOrder h_StepOrder_take_end G_StepOrder_take_end (hr.mono (by omega)) b_StepOrder_take_end .nil (passes_call (takes_of rfl rfl rfl rfl) (fun _ _ _ _ h => h)) (pa_cons (pv 1) (pa_cons (pv 2) pa_nil))))))))))), ?_⟩
    refine ⟨_, rfl, o, C, dx, _, .str (expS m.exp), rfl, so.ob, S.c, S.n3, rfl, rfl, _, rfl, ?_⟩
    rw [(exp_is m.exp).1]
    refine ite2 (fun c => ?_) (fun c => ?_)
    · have h1 := of_decide_eq_true c
      exact ⟨_, rfl, o, dx, _, rfl, so.ob, rfl, _, rfl, _, rfl, o, dx, ps, pw, m, wd, p, rfl, ⟨so, hw, few⟩, h1, q, qe⟩
    have h1 : ¬ m.exp = .factor := fun z => c (decide_eq_true z)
    clear c
    refine ⟨_, rfl, o, C, dx, _, .str (expS m.exp), rfl, so.ob, S.c, S.n3, rfl, rfl, _, rfl, ?_⟩
    rw [(exp_is m.exp).2.1]
    refine ite2 (fun c => ?_) (fun c => ?_)
    · have h2 := of_decide_eq_true c
      exact ⟨_, rfl, o, dx, _, rfl, so.ob, rfl, _, rfl, _, rfl, o, dx, ps, pw, m, wd, p, rfl, ⟨so, hw, few⟩, h2, q, qe⟩
    have h2 : ¬ m.exp = .list := fun z => c (decide_eq_true z)
    clear c
    have hop : m.exp = .operator := by
      cases z : m.exp with
      | factor => exact absurd z h1
      | list => exact absurd z h2
      | operator => rfl
    obtain ⟨rk, hrk, hr0, hr1⟩ := hrank wd hw.1
    refine ⟨_, rfl, SX.S wd, rk, rfl, rfl, hrk, _, rfl, ?_⟩
    by_cases hz : rankW wd = 0
    · rw [hr0 hz]
      refine ite2 (fun c => by cases c) (fun _ => ?_)
      exact ⟨_, rfl, o, dx, _, rfl, so.ob, rfl, _, rfl, _, rfl, o, dx, ps, pw, m, wd, p, rfl, ⟨so, hw, few⟩, hop, hz, q, qe⟩
    · obtain ⟨t, ht⟩ := hr1 hz
      have et : takeW m (wd, p) = .ok ⟨(releaseW (rankW wd) m.wait m.steps).2, (wd, p, 2) :: (releaseW (rankW wd) m.wait m.steps).1, .factor⟩ := by
        unfold takeW
        rw [hop]
        exact if_pos ((rank_words hw.2.2.1.2).mp hz)
      have hitem : KDct K w aR (SX.S wd) (.int (rankW wd : Nat)) := ⟨eR, nR, .int (rankW wd : Nat) t, DR.at_, DR.lit, by rw [hrk, ht], ⟨t, rfl⟩⟩
      rw [ht]
      refine ite2 (fun _ => ?_) (fun c => absurd rfl c)
      refine ⟨_, rfl, o, dx, _, rfl, so.ob, rfl, _, rfl, aR, SX.S wd, .int (rankW wd : Nat), rfl, rfl, hitem, o, dx, ps, pw, m, rankW wd, rfl, so, by omega, fun H1 so1 on1 ts1 => ?_⟩
      obtain ⟨ws, hws, hwall⟩ := so1.wt
      have lws : ws.length < 100000 := by
        have h8 := dps_len hwall
        have h9 := release_len (rankW wd) m.wait m.steps
        rw [List.length_map, List.length_reverse] at h8
        have h8 : (releaseW (rankW wd) m.wait m.steps).1.length = ws.length := h8.symm
        omega
      have few1 : (releaseW (rankW wd) m.wait m.steps).2.length + (releaseW (rankW wd) m.wait m.steps).1.length < 100000 := by
        have h9 := release_len (rankW wd) m.wait m.steps
        omega
      refine ⟨_, rfl, o, C, dx, _, .ref pw, rfl, so1.ob, S.c, S.n2, rfl, .inl ⟨rfl, _, SqL.of hws⟩, _, rfl, _, rfl, (by show 3 ≤ sizeLine; decide), fun pt npt => ?_⟩
      have z := so1.pushW hws hwall npt (t := (wd, p, 2)) hw.1 few1
      refine ⟨pw, ws, _, rfl, rfl, (same_new npt _) _ _ hws, small1e5 (by omega), ?_⟩
      exact ⟨_, rfl, o, C, dx, _, rfl, z.1.ob, S.c, S.n3, (by show 3 < 1000; decide), q _ et _ (z.1.exp .factor) ((on1.trans z.2.1).trans (Only.upd z.1.ob)) ((ts1.trans z.2.2).trans (TS.upd z.1.ob rfl))⟩
theorem ok_finish {C Ce : Addr} (T : Bt mg) (S : SOc K C) (U : Ucs K mg) (Ti : ErrF P w K mg base "FormulaSyntax" "position" Ce) (GR : KnM P w K mg base CX0 C "release" 33 ["self", "rank"] (spRelease K C))
    (D : Dm K C "finish" "StepOrder.finish" s_StepOrder_finish ["self", "length"]) : KnM P w K mg base (L2.CX P w) C "finish" 35 ["self", "length"] (spFinish K C Ce) := by
  obtain ⟨f, fd, F, hm, hb⟩ := D
  obtain ⟨fI, fdI, iC, tI, F1, b1⟩ := Ti.ini
  obtain ⟨f_r, fd_r, G_StepOrder_release, h_StepOrder_release, b_StepOrder_release⟩ := GR
  have c_StepOrder := S.c
  obtain ⟨tp, hP⟩ := U.p
  obtain ⟨tr, hR⟩ := U.r
  refine ⟨f, fd, F.okX sc_StepOrder_finish (fun vs H Q E h => ?_) (fun cdv A outer s H vs Q E hr h => ?_), hm, hb⟩
  · obtain ⟨o, dx, ps, pw, m, n, rfl, _⟩ := h
    rfl
  · obtain ⟨o, dx, ps, pw, m, n, rfl, so, q, qe⟩ := h
    refine ⟨_, (pss_cons (ps_expr (pe_meth (pv 0) c_StepOrder h_StepOrder_release G_StepOrder_release (hr.mono (by omega)) b_StepOrder_release .nil pass0 (pa_cons (pe_glob (v := .int 1) rfl hR ⟨_, rfl⟩) pa_nil)))
      (pss_one (ps_if (PW.pt (pw_or (pt_cmpR op_ne (pe_fld (pv 0) rfl) (pe_glob (v := .str "an operator, a comma, a closing parenthesis or the end") rfl hP ⟨_, rfl⟩) (nomark _)) (pw_or1 (pt_cmpR (op_neD hr.units) (pe_fld (pv 0) rfl) (pe_lst pa_nil) (nomark _))))) (pss_one (ps_raise rfl (takes_of rfl rfl rfl rfl) (pmk_oex Ti.ox iC tI F1 (hr.mono (by omega)) b1 .nil pass0 rfl Ti.gC (pa_cons (pv 1) pa_nil)))) pss_nil))), ?_⟩
    refine ⟨_, rfl, o, dx, _, rfl, so.ob, rfl, o, dx, ps, pw, m, 1, rfl, so, Nat.le_refl _, fun H1 so1 on1 ts1 => ?_⟩
    obtain ⟨W1, S1, eW⟩ : ∃ W1 S1, releaseW 1 m.wait m.steps = (W1, S1) := ⟨_, _, rfl⟩
    have et : endW m n = if m.exp ≠ .operator ∨ W1 ≠ [] then .error n else .ok S1 := by
      unfold endW
      rw [eW]
    rw [eW] at so1
    have so1 : SO K C o dx ps pw ⟨S1, W1, m.exp⟩ H1 := so1
    obtain ⟨ws, hws, hwall⟩ := so1.wt
    have hraise : ∀ H2, Same H1 H2 → endW m n = .error n → tMkO Ce (spErrInit Ce (Str.ofString "position")) [] (tCons (tVar 1) tNil) (L2.start [Str.ofString "self", Str.ofString "length"] [V.ref o, V.int (n : Nat)]) H2 (fun cls d H' => E cls d H') := fun H2 s2 et2 => by
      refine ⟨_, rfl, (by show 1 ≤ 1000; decide), fun ea na => ?_⟩
      refine ⟨ea, _, rfl, upd_same, fun xd hdx nx => ⟨rfl, xd, [("position", .int (n : Nat))], upd_same, ?_, ?_, ?_⟩⟩
      · rw [upd_ne nx, upd_same]
      · rw [upd_ne nx] at hdx
        exact hdx
      · rw [upd_ne nx] at hdx
        exact qe _ et2 xd _ ((on1.trans (Only.of s2)).trans (Only.of (raised_same na hdx nx))) ((ts1.trans (TS.of s2)).trans (TS.of (raised_same na hdx nx))) upd_same
    refine ⟨_, rfl, o, C, dx, _, .str (expS m.exp), rfl, so1.ob, S.c, S.n3, rfl, rfl, _, rfl, ?_⟩
    rw [(exp_is m.exp).2.2]
    refine ite2 (fun c => ?_) (fun c => ?_)
    · have h1 : ¬ m.exp = .operator := fun z => by rw [decide_eq_true z] at c; cases c
      exact hraise H1 (Same.refl _) (et.trans (if_pos (.inl h1)))
    have h1 : m.exp = .operator := by
      cases z : decide (m.exp = .operator) with
      | true => exact of_decide_eq_true z
      | false => exact absurd (by rw [z]; rfl) c
    clear c
    have hwD : Dp K H1 (.ref pw) (.list (W1.reverse.map stD)) := .lst (SqL.of hws) (dps_same (tps_sub H1) _ _ hwall)
    have hfine : SeqAt.shaped (.list (W1.reverse.map stD)) = true := (fine.lst (n := 1) fun d hd => by
      obtain ⟨x, hx, rfl⟩ := List.mem_map.mp hd
      exact fine_st (so1.asc x (List.mem_append_right _ (List.mem_reverse.mp hx)))).shp (by decide)
    refine ⟨_, rfl, o, C, dx, _, .ref pw, rfl, so1.ob, S.c, S.n2, rfl, (by show 0 ≤ sizeLine; decide), fun p1 np1 => ?_⟩
    have s3 := same_new np1 (.lst [])
    refine ⟨.list (W1.reverse.map stD), .list [], dp_same s3 _ _ hwD, .lst (SqL.of upd_same) .nil, hfine, rfl, _, rfl, ?_⟩
    cases W1 with
    | nil =>
      refine ite2 (fun c => ?_) (fun c => ?_)
      · exact absurd c (by decide)
      · have so3 := so1.keep s3
        rw [h1] at so3
        exact q _ (et.trans (if_neg fun z => z.elim (fun y => y h1) fun y => y rfl)) _ so3 (on1.trans (Only.of s3)) (ts1.trans (TS.of s3))
    | cons x Wr =>
      refine ite2 (fun c => ?_) (fun c => ?_)
      · exact hraise _ s3 (et.trans (if_pos (.inr (fun y => nomatch y))))
      · refine absurd ?_ c
        rw [List.reverse_cons, List.map_append]
        show (!PyData.eqv (.list (Wr.reverse.map stD ++ [stD x])) (.list [])) = true
        rw [eqv_snoc]
        rfl
end

end Bs
namespace Bs
open PySem L2

/-! ### sums and products of ratios that are known to be some -/
def spBinR (K : PySem.W.Frag) (f : Int × Int → Int × Int → Int × Int) : Sp := fun vs H Q _ => ∃ (x y : V) (a b : Int × Int) (j k : Nat), vs = [x, y] ∧ Dp K H x (rat a.1 a.2) ∧ Dp K H y (rat b.1 b.2) ∧ Red a ∧ Red b ∧ Sz j a ∧ Sz k b ∧ j + k + 1 ≤ 40000000 ∧
  ∀ p H', Same H H' → H' p = some (.tup [.int (f a b).1, .int (f a b).2]) → Q (.ref p) H'
section
variable {P : Program} {w : World} {K : PySem.W.Frag} {mg : Str → Option Value} {base : Heap}
theorem ok_add_ratios {Cz : Addr} (GR : Kn1 P w K mg base (L2.CX P w) "ratio" 33 ["top", "bottom"] (spRatio Cz)) (D : Df K mg "add_ratios" s_add_ratios ["one", "other"]) :
    Kn P w K mg base CX0 "add_ratios" 34 ["one", "other"] (spBinR K addz) := by
  obtain ⟨f, fd, F, hm, hb⟩ := D
  obtain ⟨f_ratio, fd_ratio, G_ratio, m_ratio, k_ratio, b_ratio, _⟩ := GR
  refine ⟨f, fd, F.ok sc_add_ratios (fun vs H Q E h => ?_) (fun cdv A outer s H vs Q E hr h => ?_), hm, F.kp, hb⟩
  · obtain ⟨x, y, a, b, j, k, rfl, _⟩ := h
    rfl
  · obtain ⟨x, y, a, b, j, k, rfl, hx, hy, ra, rb, sa, sb, hjk, q⟩ := h
    have j0 := sa.pos ra
    have k0 := sb.pos rb
    refine ⟨_, (pss_cons (ps_asg (pv 0) (pg_tup (by rfl) (pgs_cons (pg_name (i := 2) sc_add_ratios.nd rfl (Or.inl rfl)) (pgs_cons (pg_name (i := 3) sc_add_ratios.nd rfl (Or.inl rfl)) pgs_nil))))
      (pss_cons (ps_asg (pv 1) (pg_tup (by rfl) (pgs_cons (pg_name (i := 4) sc_add_ratios.nd rfl (Or.inl rfl)) (pgs_cons (pg_name (i := 5) sc_add_ratios.nd rfl (Or.inl rfl)) pgs_nil))))
      (pss_one (ps_ret (pe_call G_ratio (hr.mono (by omega)) rfl m_ratio k_ratio b_ratio .nil passL (pa_cons (pe_op op_add (pe_op op_mulV (pv 2) (pv 5)) (pe_op op_mulV (pv 4) (pv 3))) (pa_cons (pe_op op_mulV (pv 3) (pv 5)) pa_nil))))))), ?_⟩
    obtain ⟨p1, rfl, hp1⟩ := dp_rat_inv hx
    obtain ⟨p2, rfl, hp2⟩ := dp_rat_inv hy
    refine ⟨_, rfl, p1, _, rfl, hp1, rfl, .int _, _, rfl, .int _, _, rfl, rfl, ?_⟩
    refine ⟨_, rfl, p2, _, rfl, hp2, rfl, .int _, _, rfl, .int _, _, rfl, rfl, ?_⟩
    refine ⟨_, rfl, _, rfl, _, _, rfl, rfl, mulW_of sa.1 sb.2 j0 k0 hjk, _, rfl, _, rfl, _, _, rfl, rfl, mulW_of sb.1 sa.2 k0 j0 (by omega), _, _, rfl, rfl, _, rfl, _, rfl, _, _, rfl, rfl, mulW_of sa.2 sb.2 j0 k0 hjk, ?_⟩
    refine ⟨_, _, rfl, fun _ p H3 s3 h3 => q p H3 s3 h3, fun z => absurd z (mne ra rb)⟩
theorem ok_multiply_ratios {Cz : Addr} (GR : Kn1 P w K mg base (L2.CX P w) "ratio" 33 ["top", "bottom"] (spRatio Cz)) (D : Df K mg "multiply_ratios" s_multiply_ratios ["one", "other"]) :
    Kn P w K mg base CX0 "multiply_ratios" 34 ["one", "other"] (spBinR K mulz) := by
  obtain ⟨f, fd, F, hm, hb⟩ := D
  obtain ⟨f_ratio, fd_ratio, G_ratio, m_ratio, k_ratio, b_ratio, _⟩ := GR
  refine ⟨f, fd, F.ok sc_multiply_ratios (fun vs H Q E h => ?_) (fun cdv A outer s H vs Q E hr h => ?_), hm, F.kp, hb⟩
  · obtain ⟨x, y, a, b, j, k, rfl, _⟩ := h
    rfl
  · obtain ⟨x, y, a, b, j, k, rfl, hx, hy, ra, rb, sa, sb, hjk, q⟩ := h
    have j0 := sa.pos ra
    have k0 := sb.pos rb
    refine ⟨_, (pss_cons (ps_asg (pv 0) (pg_tup (by rfl) (pgs_cons (pg_name (i := 2) sc_multiply_ratios.nd rfl (Or.inl rfl)) (pgs_cons (pg_name (i := 3) sc_multiply_ratios.nd rfl (Or.inl rfl)) pgs_nil))))
      (pss_cons (ps_asg (pv 1) (pg_tup (by rfl) (pgs_cons (pg_name (i := 4) sc_multiply_ratios.nd rfl (Or.inl rfl)) (pgs_cons (pg_name (i := 5) sc_multiply_ratios.nd rfl (Or.inl rfl)) pgs_nil))))
      (pss_one (ps_ret (pe_call G_ratio (hr.mono (by omega)) rfl m_ratio k_ratio b_ratio .nil passL (pa_cons (pe_op op_mulV (pv 2) (pv 4)) (pa_cons (pe_op op_mulV (pv 3) (pv 5)) pa_nil))))))), ?_⟩
    obtain ⟨p1, rfl, hp1⟩ := dp_rat_inv hx
    obtain ⟨p2, rfl, hp2⟩ := dp_rat_inv hy
    refine ⟨_, rfl, p1, _, rfl, hp1, rfl, .int _, _, rfl, .int _, _, rfl, rfl, ?_⟩
    refine ⟨_, rfl, p2, _, rfl, hp2, rfl, .int _, _, rfl, .int _, _, rfl, rfl, ?_⟩
    refine ⟨_, rfl, _, rfl, _, _, rfl, rfl, mulW_of sa.1 sb.1 j0 k0 hjk, _, rfl, _, rfl, _, _, rfl, rfl, mulW_of sa.2 sb.2 j0 k0 hjk, ?_⟩
    refine ⟨_, _, rfl, fun _ p H3 s3 h3 => q p H3 s3 h3, fun z => absurd z (mne ra rb)⟩
end

/-! ### the law's drawn numbers -/
theorem But.new {H H' : Hp} {b g c p : Addr} {n : Nat} {o : HO} (B : Box H b g c n) (np : H p = none) (x : But b g (upd H p o) H') : H' p = some o := by
  obtain ⟨gs, cs, cur, m, B, _⟩ := B
  exact x p o upd_same (fun e => by rw [e, B.hb] at np; cases np) (fun e => by rw [e, B.hg] at np; cases np)
theorem But.after {H H' : Hp} {b g p : Addr} {o : HO} (np : H p = none) (x : But b g (upd H p o) H') : But b g H H' := (But.of (same_new np o)).trans x
theorem at_pick {H : Hp} {p : Addr} {xs : List V} {r k : Int} (_ : H p = some (.lst xs)) (r0 : 0 ≤ r) (r1 : r < k) (hk : (xs.length : Int) = k) : ∃ v, v ∈ xs ∧ atI xs r = some v := at_lt r0 (by omega)
theorem pow8000 (k : Nat) (h : k < 8000) : 2 ^ k < 2 ^ 8000 := Nat.pow_lt_pow_right (by decide) h
theorem pow8000' (j : Int) (k : Nat) (h : k < 8000) (h2 : j.natAbs < 2 ^ k) : j.natAbs < 2 ^ 8000 := Nat.lt_trans h2 (pow8000 k h)
/-- a drawn number: a new tuple in lowest terms -/
def spNumK (sz cost : Nat) : Sp := fun vs H Q _ => ∃ (b g c : Addr) (n : Nat), vs = [.ref b] ∧ Box H b g c n ∧ n + cost < 1000000 ∧
  ∀ (p : Addr) (z : Int × Int) (H' : Hp), Red z → Sz sz z → H' p = some (.tup [.int z.1, .int z.2]) → Box H' b g c (n + cost) → But b g H H' → Q (.ref p) H'
abbrev spNum (cost : Nat) : Sp := spNumK 700 cost
/-- a number as it is passed: the int where the bottom is 1, at times -/
def spGivenD (K : PySem.W.Frag) : Sp := fun vs H Q _ => ∃ (b g c : Addr) (v : V) (n : Nat) (z : Int × Int), vs = [.ref b, v] ∧ Box H b g c n ∧ n + 1 < 1000000 ∧ Dp K (mk b g H) v (rat z.1 z.2) ∧ Red z ∧
  ∀ (u : V) (H' : Hp), Nv K (mk b g H') u z → Box H' b g c (n + 1) → But b g H H' → Q u H'
def spGiven (K : PySem.W.Frag) : Sp := fun vs H Q _ => ∃ (b g c p : Addr) (n : Nat) (z : Int × Int), vs = [.ref b, .ref p] ∧ Box H b g c n ∧ n + 1 < 1000000 ∧ H p = some (.tup [.int z.1, .int z.2]) ∧ Red z ∧
  ∀ (v : V) (H' : Hp), Nv K (mk b g H') v z → Box H' b g c (n + 1) → But b g H H' → Q v H'
theorem red_one (t : Int) : Red (t, 1) := ⟨by show (0 : Int) < 1; decide, Int.gcd_one_right t⟩
theorem sz_of {z : Int × Int} {k : Nat} (h : Sz k z) (l : k ≤ 700) : Sz 700 z := h.mono l
section
variable {P : Program} {w : World} {K : PySem.W.Frag} {mg : Str → Option Value} {base : Heap}
end

theorem alphaS (l : List Nat) : Txt.isalpha (SX.S l) = (decide (0 < l.length) && l.all Unicode.isAlpha) := by
  unfold Txt.isalpha
  simp [SX.S, Str.length]
theorem lowerS (l : List Nat) : Txt.islower (SX.S l) = (l.any Unicode.isLower && !l.any fun c => Unicode.isUpper c || Unicode.isTitle c) := by
  unfold Txt.islower
  simp [SX.S]

/-- what the module holds besides -/
structure Ut4 (K : PySem.W.Frag) (mg : Str → Option Value) : Prop where
  n_str : mg "str" = none
  n_set : mg "set" = none
  n_sorted : mg "sorted" = none
  g_words : ∃ a, mg "FUNCTION_WORDS" = some (.ref a) ∧ ∀ H, SqT K H a [V.str "sum", V.str "average"]
  g_zero : ∃ a, mg "ZERO" = some (.ref a) ∧ ∀ H, SqT K H a [V.int 0, V.int 1]
  g_letters : ∃ t, mg "NAME_LETTERS" = some (.int 8 t)
mutual
/-- short texts, few parts -/
def shortD : PyData → Bool
  | .str x => decide (x.length ≤ 100)
  | .list ds => decide (ds.length ≤ 60) && shortDs ds
  | .tuple ds => decide (ds.length ≤ 60) && shortDs ds
  | _ => true
def shortDs : List PyData → Bool
  | [] => true
  | d :: ds => shortD d && shortDs ds
end
def spDS (K : PySem.W.Frag) (f : PyData → Bool) : Sp := fun vs H Q _ => ∃ (v : V) (d : PyData), vs = [v] ∧ Dp K H v d ∧ shortD d = true ∧ ∀ H', Same H H' → Q (.bl (f d)) H'
def nameD : PyData → Bool | .str x => nameL x.cps.toList | _ => false
theorem nameD_S (l : List Nat) : nameD (.str (SX.S l)) = nameL l := by
  show nameL (SX.S l).cps.toList = _
  simp [SX.S]
theorem eqv_rats (a b c d : Int) : PyData.eqv (rat a b) (rat c d) = decide (a = c ∧ b = d) := by
  unfold rat
  simp [PyData.eqv, PyData.eqvAll]
  rfl
theorem ratOf_red {d : PyData} {z : Int × Int} (h : ratOf d = some z) : Red z := by
  have e := ratOf_is h
  subst e
  have h2 : (if 1 ≤ z.2 ∧ Int.gcd z.1 z.2 = 1 then some (z.1, z.2) else none) = some z := h
  split at h2
  · rename_i w
    exact ⟨by omega, w.2⟩
  · cases h2
theorem zero_rat {z : Int × Int} (h : Red z) : decide (z.1 ≠ 0) = !decide (z.1 = 0 ∧ z.2 = 1) := by
  by_cases c : z.1 = 0
  · have g := h.co
    rw [c, Int.gcd_zero_left] at g
    have p := h.pos
    rw [decide_eq_false (fun y => y c), decide_eq_true (⟨c, by omega⟩ : z.1 = 0 ∧ z.2 = 1)]
    rfl
  · rw [decide_eq_true c, decide_eq_false (fun y => c y.1)]
    rfl
/-- a pair of a name and a ratio other than 0 -/
def termP : List PyData → Bool
  | [n, r] => nameD n && (match ratOf r with | some z => decide (z.1 ≠ 0) | none => false)
  | _ => false
def termD : PyData → Bool | .tuple ds => termP ds | _ => false
theorem words_in (l : List Nat) : inV (tx l) [V.str (Str.ofString "sum"), V.str (Str.ofString "average")] = decide (l = [115, 117, 109] ∨ l = [97, 118, 101, 114, 97, 103, 101]) := by
  show ((Str.ofString "sum" == SX.S l) || ((Str.ofString "average" == SX.S l) || false)) = _
  rw [show Str.ofString "sum" = SX.S [115, 117, 109] by decide +kernel, show Str.ofString "average" = SX.S [97, 118, 101, 114, 97, 103, 101] by decide +kernel, SX.S_beq_eq, SX.S_beq_eq, Bool.or_false]
  rw [Bool.eq_iff_iff, Bool.or_eq_true, decide_eq_true_eq, decide_eq_true_eq, decide_eq_true_eq]
  exact ⟨fun h => h.imp Eq.symm Eq.symm, fun h => h.imp Eq.symm Eq.symm⟩
section
variable {P : Program} {w : World} {K : PySem.W.Frag} {mg : Str → Option Value} {base : Heap}
theorem ok_is_name (T : Bt mg) (Tt : Ut4 K mg) (D : Df K mg "is_name" s_is_name ["value"]) : Kn P w K mg base CX0 "is_name" 33 ["value"] (spDS K nameD) := by
  obtain ⟨t8, hnl⟩ := Tt.g_letters
  obtain ⟨aw, hfw, sfw⟩ := Tt.g_words
  obtain ⟨f, fd, F, hm, hb⟩ := D
  refine ⟨f, fd, F.ok sc_is_name (fun vs H Q E h => ?_) (fun cdv A outer s H vs Q E hr h => ?_), hm, F.kp, hb⟩
  · obtain ⟨v, d, rfl, _⟩ := h
    rfl
  · obtain ⟨v, d, rfl, hd, hsh, q⟩ := h
    have q0 := q H (Same.refl H)
    refine ⟨_, (pss_cons (ps_if (PW.pt (pw_or (pt_not (pt_val (pe_callB (cr_isi (K := K) rfl) (by rfl) T.n_isinstance (by decide +kernel) (pa_cons (pv 0) (pa_cons (pe_bltn (v := .ty "str") (by rfl) Tt.n_str (by decide +kernel) rfl) pa_nil))))) (pw_or (pt_cmpR op_gt (pe_callB call_len_str (by rfl) T.n_len (by decide +kernel) (pa_cons (pv 0) pa_nil)) (pe_glob (v := .int 8) rfl hnl ⟨_, rfl⟩) (nomark _)) (pw_or1 (pt_cmpR op_in_seq (pv 0) (pe_glob (v := .ref aw) rfl hfw rfl) (by rfl)))))) (pss_one (ps_ret pe_bl)) pss_nil)
      (pss_one (ps_ret (pe_and (pe_bm0 PySem.F.plainAttrs_str PySem.F.slot_str_isascii PySem.F.type_str_isascii mt_isascii (pv 0)) (pe_and (pe_bm0 PySem.F.plainAttrs_str PySem.F.slot_str_isalpha PySem.F.type_str_isalpha mt_isalpha (pv 0)) (pe_one (pe_bm0 PySem.F.plainAttrs_str PySem.F.slot_str_islower PySem.F.type_str_islower mt_islower (pv 0)))))))), ?_⟩
    refine ⟨_, rfl, _, _, _, _, _, rfl, .ty _, dp_ty hd, kit_ty (kb_str d), _, rfl, ?_⟩
    refine ite2 (fun c => ?_) (fun c => ?_)
    · have e : nameD d = false := by cases d <;> first | rfl | cases c
      rw [e] at q0
      exact q0
    · obtain ⟨x, rfl⟩ : ∃ x, d = .str x := by cases d <;> first | exact ⟨_, rfl⟩ | exact absurd rfl c
      obtain ⟨l, rfl⟩ : ∃ l, x = SX.S l := ⟨x.cps.toList, (SX.S_tl x).symm⟩
      cases hd
      rw [nameD_S] at q0
      have hlen : l.length ≤ 100 := by
        have z := of_decide_eq_true (show decide ((SX.S l).length ≤ 100) = true from hsh)
        rw [SX.S_len] at z
        exact z
      have hsl : (SX.S l).length ≤ sizeLine := by rw [SX.S_len]; exact Nat.le_trans hlen (by decide)
      refine ⟨_, rfl, _, rfl, hsl, _, _, rfl, rfl, _, rfl, ?_⟩
      refine ite2 (fun c1 => ?_) (fun c1 => ?_)
      · have e : nameL l = false := by
          have z := of_decide_eq_true c1
          rw [SX.S_len] at z
          unfold nameL
          rw [show decide (l.length < 9) = false from decide_eq_false (by omega)]
          simp
        rw [e] at q0
        exact q0
      · refine ⟨_, rfl, aw, _, rfl, .inr (sfw _), rfl, rfl, _, rfl, ?_⟩
        have hw := words_in l
        have hl9 : decide (l.length < 9) = true := by
          have z := of_decide_eq_false (Bool.eq_false_iff.mpr c1)
          rw [SX.S_len] at z
          exact decide_eq_true (by omega)
        refine ite2 (fun c2 => ?_) (fun c2 => ?_)
        · have z := of_decide_eq_true (hw.symm.trans c2)
          have e : nameL l = false := by
            unfold nameL
            rcases z with z | z
            · rw [z]; rfl
            · rw [z]; rfl
          rw [e] at q0
          exact q0
        · have z := of_decide_eq_false (hw.symm.trans (Bool.eq_false_iff.mpr c2))
          have e : nameL l = (decide (l ≠ []) && l.all az) := by
            unfold nameL
            rw [hl9, decide_eq_true (p := l ≠ [115, 117, 109]) (fun y => z (.inl y)), decide_eq_true (p := l ≠ [97, 118, 101, 114, 97, 103, 101]) (fun y => z (.inr y))]
            rw [Bool.and_true, Bool.and_true, Bool.and_true]
          rw [e, ← small_signs] at q0
          refine ⟨_, rfl, rfl, _, rfl, rfl, trivial, _, rfl, ?_⟩
          rw [asciiS]
          refine ite2 (fun k1 => ?_) (fun k1 => ?_)
          · rw [if_pos k1] at q0
            refine ⟨_, rfl, rfl, _, rfl, rfl, trivial, _, rfl, ?_⟩
            rw [alphaS]
            refine ite2 (fun k2 => ?_) (fun k2 => ?_)
            · rw [if_pos k2] at q0
              refine ⟨_, rfl, rfl, _, rfl, rfl, trivial, ?_⟩
              rw [lowerS]
              exact q0
            · rw [if_neg k2] at q0
              exact q0
          · rw [if_neg k1] at q0
            exact q0
end

def fstName : PyData → Str
  | .tuple (.str x :: _) => x
  | _ => Str.empty
def formP : List PyData → Bool
  | [t, c] => (match t with | .tuple ts => isRat c && (ts.all termD && inOrder (ts.map fstName)) | _ => false)
  | _ => false
def formD : PyData → Bool | .tuple ds => formP ds | _ => false
theorem term_shape {d : PyData} (h : termD d = true) : ∃ x r, d = .tuple [.str x, r] ∧ nameL x.cps.toList = true ∧ ∃ z, ratOf r = some z ∧ z.1 ≠ 0 := by
  cases d with
  | tuple ds =>
    match ds, h with
    | [n, r], h =>
      have h2 : (nameD n && (match ratOf r with | some z => decide (z.1 ≠ 0) | none => false)) = true := h
      rw [Bool.and_eq_true] at h2
      obtain ⟨x, rfl⟩ : ∃ x, n = .str x := by
        cases n with
        | str x => exact ⟨x, rfl⟩
        | none => cases h2.1
        | bool _ => cases h2.1
        | int _ => cases h2.1
        | list _ => cases h2.1
        | tuple _ => cases h2.1
        | dict _ => cases h2.1
      refine ⟨x, r, rfl, h2.1, ?_⟩
      have h3 := h2.2
      cases hr : ratOf r with
      | none => rw [hr] at h3; cases h3
      | some z =>
        rw [hr] at h3
        exact ⟨z, rfl, of_decide_eq_true h3⟩
  | none => cases h
  | bool _ => cases h
  | int _ => cases h
  | str _ => cases h
  | list _ => cases h
  | dict _ => cases h

theorem lay_strs : ∀ xs : List Str, (∀ x ∈ xs, PyData.strOk x = true) → PyData.canLayAll0 (xs.map PyData.str) = true
  | [], _ => rfl
  | x :: xs, h => by
    show (PyData.strOk x && PyData.canLayAll0 (xs.map PyData.str)) = true
    rw [h x (List.mem_cons_self ..), lay_strs xs fun y hy => h y (List.mem_cons_of_mem _ hy)]
    rfl
theorem deep_strs : ∀ xs : List Str, PyData.depthAll (xs.map PyData.str) = 0
  | [] => rfl
  | x :: xs => by
    show max 0 (PyData.depthAll (xs.map PyData.str)) = 0
    rw [deep_strs xs]
    rfl
theorem shp_strs {xs : List Str} (h : ∀ x ∈ xs, PyData.strOk x = true) : SeqAt.shaped (strD xs) = true := by
  unfold SeqAt.shaped
  rw [show (strD xs).canLay0 = true from lay_strs xs h, show (strD xs).depth = 1 by show PyData.depthAll (xs.map PyData.str) + 1 = 1; rw [deep_strs]]
  rfl
theorem dps_strs {K : PySem.W.Frag} {H : Hp} : ∀ xs : List Str, DpAll K H (xs.map V.str) (xs.map PyData.str)
  | [] => .nil
  | x :: xs => .cons (.str x) (dps_strs xs)
theorem short_tup {ds : List PyData} (h : shortD (.tuple ds) = true) : ds.length ≤ 60 ∧ ∀ d ∈ ds, shortD d = true := by
  have z := Bool.and_eq_true_iff.mp (show (decide (ds.length ≤ 60) && shortDs ds) = true from h)
  have key : ∀ ds : List PyData, shortDs ds = true → ∀ d ∈ ds, shortD d = true := by
    intro ds
    induction ds with
    | nil => intro _ d hd; cases hd
    | cons x ds ih =>
      intro h d hd
      have y := Bool.and_eq_true_iff.mp (show (shortD x && shortDs ds) = true from h)
      rcases List.mem_cons.mp hd with rfl | hd
      · exact y.1
      · exact ih y.2 d hd
  exact ⟨of_decide_eq_true z.1, key ds z.2⟩

def numD (z : Int × Int) : PyData := rat z.1 z.2
def termN (x : Str) (z : Int × Int) : PyData := .tuple [.str x, numD z]
def formN (ts : List (Str × (Int × Int))) (c : Int × Int) : PyData := .tuple [.tuple (ts.map fun t => termN t.1 t.2), numD c]
/-- a form in the heap: its terms' tuple has no dict of its own -/
def FormAt (K : PySem.W.Frag) (H : Hp) (v : V) (ts : List (Str × (Int × Int))) (c : Int × Int) : Prop := ∃ a p xs vc, v = .ref a ∧ SqT K H a [.ref p, vc] ∧ Dp K H vc (numD c) ∧ NdT H p xs ∧ DpAll K H xs (ts.map fun t => termN t.1 t.2)
theorem FormAt.dp {K : PySem.W.Frag} {H : Hp} {v : V} {ts : List (Str × (Int × Int))} {c : Int × Int} (h : FormAt K H v ts c) : Dp K H v (formN ts c) := by
  obtain ⟨a, p, xs, vc, rfl, h1, h2, h3, h4⟩ := h
  exact .tup h1 (.cons (.tup h3.sq h4) (.cons h2 .nil))
theorem FormAt.same {K : PySem.W.Frag} {H H' : Hp} {v : V} {ts : List (Str × (Int × Int))} {c : Int × Int} (h : FormAt K H v ts c) (s : Same H H') : FormAt K H' v ts c := by
  obtain ⟨a, p, xs, vc, rfl, h1, h2, h3, h4⟩ := h
  exact ⟨a, p, xs, vc, rfl, same_seqT s h1, dp_same s _ _ h2, h3.same s, dps_same s _ _ h4⟩
def spConstF (K : PySem.W.Frag) : Sp := fun vs H Q _ => ∃ (v : V) (z : Int × Int), vs = [v] ∧ Nv K H v z ∧ ∀ r H', Same H H' → FormAt K H' r [] z → Q r H'
section
variable {P : Program} {w : World} {K : PySem.W.Frag} {mg : Str → Option Value} {base : Heap}
theorem ok_constant_form {C : Addr} (GA : Kn P w K mg base (L2.CX P w) "as_ratio" 35 ["value"] (spAsRatio K C)) (D : Df K mg "constant_form" s_constant_form ["number"]) : Kn P w K mg base CX0 "constant_form" 36 ["number"] (spConstF K) := by
  obtain ⟨f, fd, F, hm, hb⟩ := D
  obtain ⟨f_as_ratio, fd_as_ratio, G_as_ratio, m_as_ratio, k_as_ratio, b_as_ratio⟩ := GA
  refine ⟨f, fd, F.ok sc_constant_form (fun vs H Q E h => ?_) (fun cdv A outer s H vs Q E hr h => ?_), hm, F.kp, hb⟩
  · obtain ⟨v, z, rfl, _⟩ := h
    rfl
  · obtain ⟨v, z, rfl, hv, q⟩ := h
    refine ⟨_, (pss_one (ps_ret (pe_tup (pa_cons (pe_tupF pa_nil) (pa_cons (pe_call G_as_ratio (hr.mono (by omega)) rfl m_as_ratio k_as_ratio b_as_ratio .nil passL (pa_cons (pv 0) pa_nil)) pa_nil))))), ?_⟩
    obtain ⟨d1, hd1, e1⟩ := hv
    refine ⟨(by show 0 ≤ sizeLine; decide), fun p o np od => ?_⟩
    have s1 := same_new np (.frz o (.tup []))
    refine ⟨_, rfl, v, d1, rfl, dp_same s1 _ _ hd1, fun t m r H1 e s2 hr1 => ?_, fun e => by rw [e1] at e; cases e⟩
    obtain rfl : z = (t, m) := Option.some.inj (e1.symm.trans e)
    refine ⟨(by show 2 ≤ sizeLine; decide), fun p2 np2 => ?_⟩
    have s3 := same_new np2 (.tup [.ref p, r])
    exact q _ _ (s1.trans (s2.trans s3)) ⟨p2, p, [], r, rfl, SqT.of upd_same, dp_same s3 _ _ hr1, ⟨o, s3 _ _ (s2 _ _ upd_same), od⟩, .nil⟩
end

theorem valV_keys {kvs : List (Key × V)} {ks : List Str} (h : kvs.map (·.1) = ks.map Sum.inr) {y : Str} (n : y ∉ ks) : valV kvs (Sum.inr y) = none := by
  unfold valV
  have : kvs.find? (fun kv => decide (kv.1 = Sum.inr y)) = none := by
    rw [List.find?_eq_none]
    intro kv hkv
    rw [decide_eq_true_eq]
    intro e
    have m : kv.1 ∈ ks.map Sum.inr := by rw [← h]; exact List.mem_map.mpr ⟨kv, hkv, rfl⟩
    rw [e] at m
    obtain ⟨x, hx, ex⟩ := List.mem_map.mp m
    injection ex with ex
    exact n (by rw [← ex]; exact hx)
  rw [this]
  rfl

/-! ### numbers as rationals; forms as sums -/
def qv (z : Int × Int) : Rat := (z.1 : Rat) / (z.2 : Rat)
theorem q_ne {z : Int × Int} (h : Red z) : ((z.2 : Int) : Rat) ≠ 0 := fun e => by
  have p := h.pos
  have e2 : z.2 = 0 := Rat.intCast_inj.mp e
  omega
theorem qv_add {a b : Int × Int} (ha : Red a) (hb : Red b) : qv (addz a b) = qv a + qv b := by
  have h := congrArg (fun i : Int => (i : Rat)) (add_cross ha hb)
  simp only [Rat.intCast_mul, Rat.intCast_add] at h
  have n0 := q_ne (add_red ha hb)
  have n1 := q_ne ha
  have n2 := q_ne hb
  unfold qv
  grind
theorem qv_mul {a b : Int × Int} (ha : Red a) (hb : Red b) : qv (mulz a b) = qv a * qv b := by
  have h := congrArg (fun i : Int => (i : Rat)) (mul_cross ha hb)
  simp only [Rat.intCast_mul] at h
  have n0 := q_ne (mul_red ha hb)
  have n1 := q_ne ha
  have n2 := q_ne hb
  unfold qv
  grind
theorem qv_inj {a b : Int × Int} (ha : Red a) (hb : Red b) (e : qv a = qv b) : a = b := by
  refine red_uniq ha hb (Rat.intCast_inj.mp ?_)
  rw [Rat.intCast_mul, Rat.intCast_mul]
  have n1 := q_ne ha
  have n2 := q_ne hb
  unfold qv at e
  grind
theorem qv_zero : qv (0, 1) = 0 := by decide +kernel
theorem qv_int (i : Int) : qv (i, 1) = (i : Rat) := by
  show (i : Rat) / ((1 : Int) : Rat) = i
  have : ((1 : Int) : Rat) = 1 := rfl
  rw [this]
  grind
theorem qv_top {a : Int × Int} (ha : Red a) : qv a = 0 ↔ a.1 = 0 := by
  have n1 := q_ne ha
  unfold qv
  constructor
  · intro e
    have : ((a.1 : Int) : Rat) = ((0 : Int) : Rat) := by
      have z : ((0 : Int) : Rat) = 0 := rfl
      rw [z]
      grind
    exact Rat.intCast_inj.mp this
  · intro e
    rw [e]
    have z : ((0 : Int) : Rat) = 0 := rfl
    rw [z]
    grind
theorem red_zero : Red ((0, 1) : Int × Int) := red_one 0
theorem top_zero {a : Int × Int} (ha : Red a) : a.1 = 0 ↔ a = (0, 1) := ⟨fun e => qv_inj ha red_zero (by rw [(qv_top ha).mpr e, qv_zero]), fun e => by rw [e]⟩
abbrev Ts := List (Str × (Int × Int))
/-- the factor of a name -/
def cq (ts : Ts) (x : Str) : Rat := ((ts.find? fun t => decide (t.1 = x)).map fun t => qv t.2).getD 0
theorem cq_nil (x : Str) : cq [] x = 0 := rfl
theorem cq_cons (t : Str × (Int × Int)) (ts : Ts) (x : Str) : cq (t :: ts) x = if t.1 = x then qv t.2 else cq ts x := by
  unfold cq
  rw [List.find?_cons]
  by_cases h : t.1 = x
  · rw [decide_eq_true h, if_pos h]
    rfl
  · rw [decide_eq_false h, if_neg h]
theorem cq_off {ts : Ts} {x : Str} (h : x ∉ ts.map (·.1)) : cq ts x = 0 := by
  induction ts with
  | nil => rfl
  | cons t ts ih =>
    rw [List.map_cons, List.mem_cons, not_or] at h
    rw [cq_cons, if_neg (fun e => h.1 e.symm), ih h.2]
theorem cq_mem {ts : Ts} (nd : (ts.map (·.1)).Nodup) {t : Str × (Int × Int)} (h : t ∈ ts) : cq ts t.1 = qv t.2 := by
  induction ts with
  | nil => cases h
  | cons u ts ih =>
    rw [List.map_cons] at nd
    obtain ⟨n1, n2⟩ := List.nodup_cons.mp nd
    rw [cq_cons]
    rcases List.mem_cons.mp h with rfl | h
    · rw [if_pos rfl]
    · rw [if_neg (fun e => n1 (by rw [e]; exact List.mem_map.mpr ⟨t, h, rfl⟩)), ih n2 h]
/-- a form in its one way of writing, over some names, with numbers below 2 ^ k -/
structure FormK (ns : List Str) (k : Nat) (ts : Ts) (c : Int × Int) : Prop where
  names : ∀ t ∈ ts, t.1 ∈ ns
  terms : ∀ t ∈ ts, Red t.2 ∧ t.2.1 ≠ 0 ∧ Sz k t.2
  order : inOrder (ts.map (·.1)) = true
  const : Red c ∧ Sz k c
theorem FormK.nodup {ns : List Str} {k : Nat} {ts : Ts} {c : Int × Int} (f : FormK ns k ts c) : (ts.map (·.1)).Nodup := of_decide_eq_true (Bool.and_eq_true_iff.mp f.order).1
theorem FormK.mono {ns : List Str} {j k : Nat} {ts : Ts} {c : Int × Int} (f : FormK ns j ts c) (h : j ≤ k) : FormK ns k ts c :=
  ⟨f.names, fun t ht => ⟨(f.terms t ht).1, (f.terms t ht).2.1, (f.terms t ht).2.2.mono h⟩, f.order, f.const.1, f.const.2.mono h⟩
theorem sub_len {l m : List Str} (nd : l.Nodup) (h : ∀ x ∈ l, x ∈ m) : l.length ≤ m.length := by
  induction l generalizing m with
  | nil => exact Nat.zero_le _
  | cons x l ih =>
    obtain ⟨n1, n2⟩ := List.nodup_cons.mp nd
    have hx := h x (List.mem_cons_self ..)
    have z := ih (m := m.erase x) n2 fun y hy => (List.mem_erase_of_ne (fun e => n1 (by rw [← e]; exact hy))).mpr (h y (List.mem_cons_of_mem _ hy))
    rw [List.length_erase_of_mem hx] at z
    have : 0 < m.length := List.length_pos_of_mem hx
    rw [List.length_cons]
    omega
theorem FormK.few {ns : List Str} {k : Nat} {ts : Ts} {c : Int × Int} (f : FormK ns k ts c) : ts.length ≤ ns.length := by
  rw [← List.length_map (f := (·.1))]
  exact sub_len f.nodup fun x hx => by
    obtain ⟨t, ht, rfl⟩ := List.mem_map.mp hx
    exact f.names t ht
theorem FormK.not0 {ns : List Str} {k : Nat} {ts : Ts} {c : Int × Int} (f : FormK ns k ts c) (x : Str) : x ∈ ts.map (·.1) ↔ cq ts x ≠ 0 := by
  constructor
  · intro h
    obtain ⟨t, ht, rfl⟩ := List.mem_map.mp h
    rw [cq_mem f.nodup ht]
    exact fun e => (f.terms t ht).2.1 ((qv_top (f.terms t ht).1).mp e)
  · intro h
    by_cases z : x ∈ ts.map (·.1)
    · exact z
    · exact absurd (cq_off z) h
theorem form_ext {ns ms : List Str} {j k : Nat} {ts us : Ts} {c d : Int × Int} (f : FormK ns j ts c) (g : FormK ms k us d) (h : ∀ x, cq ts x = cq us x) : ts = us := by
  have so : ∀ {l : List Str}, inOrder l = true → l.Pairwise leS := fun h => sorted_pw (Bool.and_eq_true_iff.mp h).2
  have en : ts.map (·.1) = us.map (·.1) := pw_uniq (so f.order) (so g.order) f.nodup g.nodup fun x => by rw [f.not0, g.not0, h]
  have el : ts.length = us.length := by
    have z := congrArg List.length en
    rw [List.length_map, List.length_map] at z
    exact z
  refine List.ext_getElem el fun i h1 h2 => ?_
  have e1 : (ts[i]).1 = (us[i]).1 := by
    have z : (ts.map (·.1))[i]? = (us.map (·.1))[i]? := by rw [en]
    rw [List.getElem?_map, List.getElem?_map, List.getElem?_eq_getElem h1, List.getElem?_eq_getElem h2] at z
    exact Option.some.inj z
  have m1 := List.getElem_mem h1
  have m2 := List.getElem_mem h2
  have e2 : (ts[i]).2 = (us[i]).2 := qv_inj (f.terms _ m1).1 (g.terms _ m2).1 (by rw [← cq_mem f.nodup m1, ← cq_mem g.nodup m2, e1, h])
  exact Prod.ext e1 e2
theorem cq_of (zf : Str → Int × Int) (p : Str → Bool) (x : Str) : ∀ ys : List Str, cq ((ys.filter p).map fun k => (k, zf k)) x = if x ∈ ys ∧ p x = true then qv (zf x) else 0
  | [] => by simp [cq_nil]
  | y :: ys => by
    have ih := cq_of zf p x ys
    by_cases hp : p y = true
    · rw [List.filter_cons_of_pos hp, List.map_cons, cq_cons, ih]
      by_cases e : y = x
      · subst e
        simp [hp]
      · have : x ≠ y := fun z => e z.symm
        simp [e, this]
    · rw [List.filter_cons_of_neg hp, ih]
      by_cases e : y = x
      · subst e
        simp [hp]
      · have : x ≠ y := fun z => e z.symm
        simp [this]
theorem order_filter {ys : List Str} (nd : ys.Nodup) (so : PyProof.Rows.sortedS ys = true) (p : Str → Bool) : inOrder (ys.filter p) = true := by
  unfold inOrder
  rw [Bool.and_eq_true, decide_eq_true_eq]
  refine ⟨(List.filter_sublist).nodup nd, PyProof.Rows.sortedS_of_pairwise _ ?_⟩
  refine List.Pairwise.imp ?_ ((sorted_pw so).sublist List.filter_sublist)
  intro x y hxy
  rw [PyProof.Rows.ltCps_eq]
  exact decide_eq_false hxy
/-- the form that a table of factors makes -/
theorem form_of {ns ys : List Str} {k : Nat} {zf : Str → Int × Int} {c : Int × Int} {p : Str → Bool} (nd : ys.Nodup) (so : PyProof.Rows.sortedS ys = true) (sub : ∀ y ∈ ys, y ∈ ns) (hz : ∀ y ∈ ys, Red (zf y) ∧ Sz k (zf y)) (hp : ∀ y ∈ ys, (p y = true ↔ (zf y).1 ≠ 0)) (hc : Red c ∧ Sz k c) :
    FormK ns k ((ys.filter p).map fun y => (y, zf y)) c ∧ ∀ x, cq ((ys.filter p).map fun y => (y, zf y)) x = if x ∈ ys then qv (zf x) else 0 := by
  refine ⟨⟨fun t ht => ?_, fun t ht => ?_, ?_, hc⟩, fun x => ?_⟩
  · obtain ⟨y, hy, rfl⟩ := List.mem_map.mp ht
    exact sub y (List.mem_filter.mp hy).1
  · obtain ⟨y, hy, rfl⟩ := List.mem_map.mp ht
    obtain ⟨h1, h2⟩ := List.mem_filter.mp hy
    exact ⟨(hz y h1).1, (hp y h1).mp h2, (hz y h1).2⟩
  · rw [List.map_map]
    have e : ((fun t : Str × (Int × Int) => t.1) ∘ fun y => (y, zf y)) = id := rfl
    rw [e, List.map_id]
    exact order_filter nd so p
  · rw [cq_of]
    by_cases hx : x ∈ ys
    · rw [if_pos hx]
      by_cases h : p x = true
      · rw [if_pos ⟨hx, h⟩]
      · rw [if_neg (fun w => h w.2)]
        have z : (zf x).1 = 0 := Classical.byContradiction fun z => h ((hp x hx).mpr z)
        exact ((qv_top (hz x hx).1).mpr z).symm
    · rw [if_neg hx, if_neg (fun w => hx w.1)]
/-- the worth of a form -/
def worthz (val : Str → Int × Int) : Ts → Int × Int → Int × Int
  | [], c => c
  | t :: ts, c => worthz val ts (addz c (mulz t.2 (val t.1)))
theorem worth_snoc (val : Str → Int × Int) : ∀ (ts : Ts) (t : Str × (Int × Int)) (c : Int × Int), worthz val (ts ++ [t]) c = addz (worthz val ts c) (mulz t.2 (val t.1))
  | [], _, _ => rfl
  | u :: ts, t, c => worth_snoc val ts t _
theorem worth_red {val : Str → Int × Int} : ∀ {ts : Ts} {c : Int × Int}, Red c → (∀ t ∈ ts, Red t.2 ∧ Red (val t.1)) → Red (worthz val ts c) ∧ qv (worthz val ts c) = qv c + (ts.map fun t => qv t.2 * qv (val t.1)).sum
  | [], c, hc, _ => ⟨hc, by show qv c = qv c + 0; grind⟩
  | t :: ts, c, hc, h => by
    obtain ⟨h1, h2⟩ := h t (List.mem_cons_self ..)
    have hm := mul_red h1 h2
    obtain ⟨r, e⟩ := worth_red (ts := ts) (add_red hc hm) fun u hu => h u (List.mem_cons_of_mem _ hu)
    refine ⟨r, ?_⟩
    show qv (worthz val ts (addz c (mulz t.2 (val t.1)))) = _
    rw [e, qv_add hc hm, qv_mul h1 h2, List.map_cons, List.sum_cons]
    grind
theorem worth_sz {val : Str → Int × Int} {k m : Nat} : ∀ {ts : Ts} {c : Int × Int} {j : Nat}, Sz j c → (∀ t ∈ ts, Sz k t.2 ∧ Sz m (val t.1)) → Sz (j + ts.length * (k + m + 1)) (worthz val ts c)
  | [], c, j, hc, _ => by rw [List.length_nil, Nat.zero_mul, Nat.add_zero]; exact hc
  | t :: ts, c, j, hc, h => by
    obtain ⟨h1, h2⟩ := h t (List.mem_cons_self ..)
    have z := worth_sz (ts := ts) (add_sz hc (mul_sz h1 h2)) fun u hu => h u (List.mem_cons_of_mem _ hu)
    have e : j + (t :: ts).length * (k + m + 1) = j + (k + m) + 1 + ts.length * (k + m + 1) := by
      rw [List.length_cons, Nat.succ_mul]
      omega
    rw [e]
    exact z
theorem sum_at {ns : List Str} (nd : ns.Nodup) {x : Str} (hx : x ∈ ns) (v : Rat) (g : Str → Rat) : (ns.map fun y => if x = y then v else g y).sum = v + (ns.map fun y => if x = y then 0 else g y).sum := by
  induction ns with
  | nil => cases hx
  | cons n ns ih =>
    obtain ⟨n1, n2⟩ := List.nodup_cons.mp nd
    rw [List.map_cons, List.map_cons, List.sum_cons, List.sum_cons]
    by_cases e : x = n
    · subst e
      rw [if_pos rfl, if_pos rfl]
      have same : (ns.map fun y => if x = y then v else g y) = ns.map fun y => if x = y then 0 else g y := List.map_congr_left fun y hy => by
        have : x ≠ y := fun e => n1 (by rw [e]; exact hy)
        rw [if_neg this, if_neg this]
      rw [same]
      grind
    · rw [if_neg e, if_neg e, ih n2 ((List.mem_cons.mp hx).resolve_left e)]
      grind
theorem sum_terms {ns : List Str} (nd : ns.Nodup) (g : Str → Rat) : ∀ {ts : Ts}, (ts.map (·.1)).Nodup → (∀ t ∈ ts, t.1 ∈ ns) → (ts.map fun t => qv t.2 * g t.1).sum = (ns.map fun x => cq ts x * g x).sum
  | [], _, _ => by
    have : ∀ l : List Str, (l.map fun x => cq [] x * g x).sum = 0 := by
      intro l
      induction l with
      | nil => rfl
      | cons y l ih => rw [List.map_cons, List.sum_cons, ih, cq_nil]; grind
    rw [this]
    rfl
  | t :: ts, h, m => by
    rw [List.map_cons] at h
    obtain ⟨n1, n2⟩ := List.nodup_cons.mp h
    have ih := sum_terms nd g n2 fun u hu => m u (List.mem_cons_of_mem _ hu)
    rw [List.map_cons, List.sum_cons, ih]
    have hx := m t (List.mem_cons_self ..)
    have e1 : (ns.map fun x => cq (t :: ts) x * g x) = ns.map fun y => if t.1 = y then qv t.2 * g t.1 else cq ts y * g y := List.map_congr_left fun y _ => by
      rw [cq_cons]
      by_cases e : t.1 = y
      · rw [if_pos e, if_pos e, e]
      · rw [if_neg e, if_neg e]
    have e2 : (ns.map fun y => if t.1 = y then 0 else cq ts y * g y) = ns.map fun x => cq ts x * g x := List.map_congr_left fun y _ => by
      by_cases e : t.1 = y
      · rw [if_pos e, ← e, cq_off n1]
        grind
      · rw [if_neg e]
    rw [e1, sum_at nd hx, e2]
theorem FormK.worth {ns : List Str} {k : Nat} {ts : Ts} {c : Int × Int} {val : Str → Int × Int} (f : FormK ns k ts c) (nd : ns.Nodup) (hv : ∀ x ∈ ns, Red (val x)) : Red (worthz val ts c) ∧ qv (worthz val ts c) = qv c + (ns.map fun x => cq ts x * qv (val x)).sum := by
  obtain ⟨r, e⟩ := worth_red (val := val) (ts := ts) f.const.1 fun t ht => ⟨(f.terms t ht).1, hv _ (f.names t ht)⟩
  exact ⟨r, by rw [e, sum_terms nd (fun x => qv (val x)) f.nodup f.names]⟩
theorem sum_add (ns : List Str) (f g : Str → Rat) : (ns.map fun x => f x + g x).sum = (ns.map f).sum + (ns.map g).sum := by
  induction ns with
  | nil => show (0 : Rat) = 0 + 0; grind
  | cons n ns ih => rw [List.map_cons, List.map_cons, List.map_cons, List.sum_cons, List.sum_cons, List.sum_cons, ih]; grind
theorem sum_mul (ns : List Str) (a : Rat) (f : Str → Rat) : (ns.map fun x => a * f x).sum = a * (ns.map f).sum := by
  induction ns with
  | nil => show (0 : Rat) = a * 0; grind
  | cons n ns ih => rw [List.map_cons, List.map_cons, List.sum_cons, List.sum_cons, ih]; grind

/-! ### dicts from names to numbers -/
theorem putK_old (kvs : List (Key × V)) (k : Key) (v : V) (m : k ∈ kvs.map (·.1)) : (putK kvs k v).map (·.1) = kvs.map (·.1) := by
  cases h : valV kvs k with
  | none => exact absurd m (valV_not h)
  | some w =>
    unfold putK
    have a : (kvs.any fun kv => decide (kv.1 = k)) = true := by rw [valV_any, h]; rfl
    rw [if_pos a, List.map_map]
    refine List.map_congr_left fun kv _ => ?_
    show (if kv.1 = k then (kv.1, v) else kv).1 = kv.1
    split <;> rfl
theorem putK_more (kvs : List (Key × V)) (k : Key) (v : V) (m : k ∉ kvs.map (·.1)) : (putK kvs k v).map (·.1) = kvs.map (·.1) ++ [k] := by
  cases h : valV kvs k with
  | none => rw [putK_new v h, List.map_append]; rfl
  | some w => exact absurd (valV_in h) m
theorem mem_inr {ks : List Str} {x : Str} : (Sum.inr x : Key) ∈ ks.map Sum.inr ↔ x ∈ ks := by
  rw [List.mem_map]
  constructor
  · rintro ⟨y, hy, e⟩
    injection e with e
    rw [← e]
    exact hy
  · intro h
    exact ⟨x, h, rfl⟩
/-- at d a dict of numbers by names, without more -/
structure DZ (K : PySem.W.Frag) (H : Hp) (d : Addr) (ks : List Str) (zf : Str → Int × Int) : Prop where
  nd : ks.Nodup
  off : ∀ x, x ∉ ks → zf x = (0, 1)
  at_ : ∃ kvs, H d = some (.dK kvs) ∧ kvs.map (·.1) = ks.map Sum.inr ∧ ∀ x ∈ ks, ∃ v, valV kvs (Sum.inr x) = some v ∧ Dp K (hide d H) v (numD (zf x))
theorem DZ.keep {K : PySem.W.Frag} {H H' : Hp} {d : Addr} {ks : List Str} {zf : Str → Int × Int} (D : DZ K H d ks zf) (s : Same H H') : DZ K H' d ks zf := by
  obtain ⟨kvs, h1, h2, h3⟩ := D.at_
  refine ⟨D.nd, D.off, kvs, s _ _ h1, h2, fun x hx => ?_⟩
  obtain ⟨v, e, hv⟩ := h3 x hx
  exact ⟨v, e, dp_same (hide_mono s) _ _ hv⟩
theorem DZ.keepd {K : PySem.W.Frag} {H H' : Hp} {d : Addr} {ks : List Str} {zf : Str → Int × Int} (D : DZ K H d ks zf) (e : H' d = H d) (s : Same (hide d H) (hide d H')) : DZ K H' d ks zf := by
  obtain ⟨kvs, h1, h2, h3⟩ := D.at_
  refine ⟨D.nd, D.off, kvs, by rw [e]; exact h1, h2, fun x hx => ?_⟩
  obtain ⟨v, e, hv⟩ := h3 x hx
  exact ⟨v, e, dp_same s _ _ hv⟩
/-- reading it, with a zero -/
theorem DZ.get {K : PySem.W.Frag} {H : Hp} {d : Addr} {ks : List Str} {zf : Str → Int × Int} (D : DZ K H d ks zf) (x : Str) : ∃ o, DGet H d (.str x) o ∧ (∀ zv, Dp K H zv (rat 0 1) → Dp K H (o.getD zv) (numD (zf x))) ∧ (x ∈ ks → ∃ v, o = some v ∧ Dp K H v (numD (zf x))) := by
  obtain ⟨kvs, h1, h2, h3⟩ := D.at_
  refine ⟨valV kvs (Sum.inr x), .inl ⟨kvs, Sum.inr x, .inl h1, rfl, rfl⟩, fun zv hz => ?_, fun hx => ?_⟩
  · by_cases hx : x ∈ ks
    · obtain ⟨v, e, hv⟩ := h3 x hx
      rw [e]
      exact dp_same (hide_sub d H) _ _ hv
    · rw [valV_keys h2 hx, D.off x hx]
      exact hz
  · obtain ⟨v, e, hv⟩ := h3 x hx
    exact ⟨v, e, dp_same (hide_sub d H) _ _ hv⟩
theorem DZ.len {K : PySem.W.Frag} {H : Hp} {d : Addr} {ks : List Str} {zf : Str → Int × Int} (D : DZ K H d ks zf) {kvs : List (Key × V)} (h : H d = some (.dK kvs)) : kvs.length = ks.length := by
  obtain ⟨kvs2, h1, h2, _⟩ := D.at_
  rw [h] at h1
  cases h1
  have z := congrArg List.length h2
  rw [List.length_map, List.length_map] at z
  exact z
/-- the names behind a store -/
def addN (ks : List Str) (x : Str) : List Str := if x ∈ ks then ks else ks ++ [x]
theorem mem_addN {ks : List Str} {x y : Str} : y ∈ addN ks x ↔ y ∈ ks ∨ y = x := by
  unfold addN
  split
  · rename_i h
    exact ⟨.inl, fun z => z.elim id fun e => by rw [e]; exact h⟩
  · rw [List.mem_append, List.mem_singleton]
theorem nd_addN {ks : List Str} {x : Str} (h : ks.Nodup) : (addN ks x).Nodup := by
  unfold addN
  split
  · exact h
  · rename_i n
    rw [List.nodup_append]
    exact ⟨h, List.pairwise_singleton _ _, fun u hu v hv e => n (by rw [← List.mem_singleton.mp hv, ← e]; exact hu)⟩
theorem DZ.put {K : PySem.W.Frag} {H : Hp} {d : Addr} {ks : List Str} {zf : Str → Int × Int} {kvs : List (Key × V)} (D : DZ K H d ks zf) (h : H d = some (.dK kvs)) {x : Str} {v : V} {z : Int × Int} (hv : Dp K (hide d H) v (numD z)) :
    DZ K (upd H d (.dK (putK kvs (Sum.inr x) v))) d (addN ks x) fun y => if y = x then z else zf y := by
  obtain ⟨kvs2, h1, h2, h3⟩ := D.at_
  rw [h] at h1
  cases h1
  refine ⟨nd_addN D.nd, fun y hy => ?_, _, upd_same, ?_, fun y hy => ?_⟩
  · rw [mem_addN, not_or] at hy
    show (if y = x then z else zf y) = _
    rw [if_neg hy.2]
    exact D.off y hy.1
  · unfold addN
    by_cases hx : x ∈ ks
    · rw [if_pos hx, putK_old _ _ _ (by rw [h2]; exact mem_inr.mpr hx), h2]
    · rw [if_neg hx, putK_more _ _ _ (by rw [h2]; exact fun w => hx (mem_inr.mp w)), h2, List.map_append]
      rfl
  · rw [hide_upd, valV_put]
    by_cases e : y = x
    · subst e
      refine ⟨v, if_pos rfl, ?_⟩
      rw [if_pos rfl]
      exact hv
    · obtain ⟨w, e1, hw⟩ := h3 y ((mem_addN.mp hy).resolve_right e)
      refine ⟨w, ?_, ?_⟩
      · rw [if_neg (fun q => e (by injection q))]
        exact e1
      · rw [if_neg e]
        exact hw
/-- the pairs of a form's terms -/
theorem pairs_at {K : PySem.W.Frag} {H : Hp} : ∀ {ts : Ts} {xs : List V}, DpAll K H xs (ts.map fun t => termN t.1 t.2) →
    ∃ (ps : List Addr) (kvs : List (Key × V)), xs = ps.map V.ref ∧ Paired (fun p kv => SqT K H p [kV kv.1, kv.2]) ps kvs ∧ kvs.map (·.1) = (ts.map (·.1)).map Sum.inr ∧ ∀ (i : Nat) (t : Str × (Int × Int)), ts[i]? = some t → ∃ v, kvs[i]? = some (Sum.inr t.1, v) ∧ Dp K H v (numD t.2)
  | [], _, .nil => ⟨[], [], rfl, .nil, rfl, fun i t h => by simp at h⟩
  | t :: ts, _, .cons (v := x) hx hr => by
    obtain ⟨ps, kvs, rfl, h1, h2, h3⟩ := pairs_at hr
    have hx : Dp K H x (.tuple [.str t.1, numD t.2]) := hx
    cases hx with
    | @tup p zs _ hs ha =>
      cases ha with
      | @cons n _ _ _ hn ha =>
        cases ha with
        | @cons z _ _ _ hz ha =>
          cases ha
          cases hn
          refine ⟨p :: ps, (Sum.inr t.1, z) :: kvs, rfl, .cons hs h1, by rw [List.map_cons, h2]; rfl, fun i u hu => ?_⟩
          cases i with
          | zero =>
            cases Option.some.inj hu
            exact ⟨z, rfl, hz⟩
          | succ i => exact h3 i u hu
theorem merge_new : ∀ {more kvs : List (Key × V)}, ((kvs ++ more).map (·.1)).Nodup → mergeK kvs more = kvs ++ more
  | [], kvs, _ => (List.append_nil kvs).symm
  | p :: more, kvs, h => by
    have hn : valV kvs p.1 = none := by
      cases e : valV kvs p.1 with
      | none => rfl
      | some v =>
        have m := valV_in e
        rw [List.map_append, List.map_cons, List.nodup_append] at h
        exact absurd rfl (h.2.2 p.1 m p.1 (List.mem_cons_self ..))
    show mergeK (putK kvs p.1 p.2) more = _
    rw [putK_new p.2 hn]
    have e : kvs ++ p :: more = (kvs ++ [(p.1, p.2)]) ++ more := by rw [List.append_assoc]; rfl
    rw [e] at h ⊢
    exact merge_new h
/-- the factor of a name, as a pair -/
def cz (ts : Ts) (x : Str) : Int × Int := ((ts.find? fun t => decide (t.1 = x)).map (·.2)).getD (0, 1)
theorem cz_off {ts : Ts} {x : Str} (h : x ∉ ts.map (·.1)) : cz ts x = (0, 1) := by
  unfold cz
  have : ts.find? (fun t => decide (t.1 = x)) = none := by
    rw [List.find?_eq_none]
    intro t ht
    rw [decide_eq_true_eq]
    intro e
    exact h (List.mem_map.mpr ⟨t, ht, e⟩)
  rw [this]
  rfl
theorem cz_mem {ts : Ts} (nd : (ts.map (·.1)).Nodup) {t : Str × (Int × Int)} (h : t ∈ ts) : cz ts t.1 = t.2 := by
  unfold cz
  induction ts with
  | nil => cases h
  | cons u ts ih =>
    rw [List.map_cons] at nd
    obtain ⟨n1, n2⟩ := List.nodup_cons.mp nd
    rw [List.find?_cons]
    rcases List.mem_cons.mp h with rfl | h
    · rw [decide_eq_true rfl]
      rfl
    · rw [decide_eq_false (fun e => n1 (by rw [e]; exact List.mem_map.mpr ⟨t, h, rfl⟩))]
      exact ih n2 h
theorem qv_cz (ts : Ts) (x : Str) : qv (cz ts x) = cq ts x := by
  unfold cz cq
  cases ts.find? (fun t => decide (t.1 = x)) with
  | none => exact qv_zero
  | some t => rfl
theorem FormK.cz_ok {ns : List Str} {k : Nat} {ts : Ts} {c : Int × Int} (f : FormK ns k ts c) (h : 1 ≤ k) (x : Str) : Red (cz ts x) ∧ Sz k (cz ts x) := by
  by_cases m : x ∈ ts.map (·.1)
  · obtain ⟨t, ht, rfl⟩ := List.mem_map.mp m
    rw [cz_mem f.nodup ht]
    exact ⟨(f.terms t ht).1, (f.terms t ht).2.2⟩
  · rw [cz_off m]
    have p : 1 < 2 ^ k := Nat.lt_of_lt_of_le (by decide : 1 < 2 ^ 1) (Nat.pow_le_pow_right (by decide) h)
    exact ⟨red_zero, by show (0 : Int).natAbs < _; omega, by show (1 : Int).natAbs < _; omega⟩
/-- dict(terms) -/
theorem DZ.make {K : PySem.W.Frag} {H : Hp} {d : Addr} {ts : Ts} {kvs : List (Key × V)} (nd : (ts.map (·.1)).Nodup) (hd : H d = none) (h2 : kvs.map (·.1) = (ts.map (·.1)).map Sum.inr)
    (h3 : ∀ (i : Nat) (t : Str × (Int × Int)), ts[i]? = some t → ∃ v, kvs[i]? = some (Sum.inr t.1, v) ∧ Dp K H v (numD t.2)) : DZ K (upd H d (.dK (mergeK [] kvs))) d (ts.map (·.1)) (cz ts) := by
  have nk : (kvs.map (·.1)).Nodup := by
    rw [h2]
    exact List.Pairwise.map _ (fun a b h e => h (by injection e)) nd
  rw [merge_new (kvs := []) nk, List.nil_append]
  refine ⟨nd, fun x hx => cz_off hx, kvs, upd_same, h2, fun x hx => ?_⟩
  obtain ⟨t, ht, rfl⟩ := List.mem_map.mp hx
  obtain ⟨i, hi⟩ := List.getElem?_of_mem ht
  obtain ⟨v, e, hv⟩ := h3 i t hi
  refine ⟨v, ?_, ?_⟩
  · exact val_nodup nk _ (List.mem_of_getElem? e)
  · rw [hide_upd, cz_mem nd ht]
    exact dp_same (fun a o h => hide_at h (ne_of_none h hd)) _ _ hv

end Bs
namespace Bs
open PySem L2
theorem op_neDK {X : Cx} {K : PySem.W.Frag} (h : X.K = K) (hu : X.A.units + 64 < cLine) : OpR X (compareOp .NotEq) (rNeD K) := by
  subst h
  exact op_neD hu
theorem cq_app_off {ts : Ts} {t : Str × (Int × Int)} {x : Str} (h : t.1 ≠ x) : cq (ts ++ [t]) x = cq ts x := by
  induction ts with
  | nil => rw [List.nil_append, cq_cons, if_neg h]
  | cons u ts ih => rw [List.cons_append, cq_cons, cq_cons, ih]
def spAddF (K : PySem.W.Frag) : Sp := fun vs H Q _ => ∃ (v u : V) (ns : List Str) (j k : Nat) (ts us : Ts) (c e : Int × Int), vs = [v, u] ∧ FormAt K H v ts c ∧ FormAt K H u us e ∧ FormK ns j ts c ∧ FormK ns k us e ∧ ns.length ≤ 60 ∧ 1 ≤ j ∧ 1 ≤ k ∧ j + k + 1 ≤ 40000000 ∧
  ∀ r H' ws, Same H H' → FormAt K H' r ws (addz c e) → FormK ns (j + k + 1) ws (addz c e) → (∀ x, cq ws x = cq ts x + cq us x) → Q r H'
theorem zero_eqv {z : Int × Int} (h : Red z) : (!PyData.eqv (numD z) (rat 0 1)) = decide (z.1 ≠ 0) := by
  show (!PyData.eqv (rat z.1 z.2) (rat 0 1)) = _
  rw [eqv_rats, zero_rat h]
section
variable {P : Program} {w : World} {K : PySem.W.Frag} {mg : Str → Option Value} {base : Heap}
theorem ok_add_forms (T : Bt mg) (Tt : Ut4 K mg) (Td : mg "dict" = none) (GA : Kn P w K mg base CX0 "add_ratios" 34 ["one", "other"] (spBinR K addz)) (D : Df K mg "add_forms" s_add_forms ["one", "other"]) :
    Kn P w K mg base CX0 "add_forms" 35 ["one", "other"] (spAddF K) := by
  obtain ⟨az, hz, saz⟩ := Tt.g_zero
  obtain ⟨f, fd, F, hm, hb⟩ := D
  obtain ⟨f_add_ratios, fd_add_ratios, G_add_ratios, m_add_ratios, k_add_ratios, b_add_ratios⟩ := GA
  refine ⟨f, fd, F.ok sc_add_forms (fun vs H Q E h => ?_) (fun cdv A outer s H vs Q E hr h => ?_), hm, F.kp, hb⟩
  · obtain ⟨v, u, ns, j, k, ts, us, c, e, rfl, _⟩ := h
    rfl
  · obtain ⟨v, u, ns, j, k, ts, us, c, e, rfl, fv, fu, gt, gu, hns, j1, k1, hjk, q⟩ := h
    refine ⟨_, (pss_cons (ps_asg (pv 0) (pg_tup (by rfl) (pgs_cons (pg_name (i := 2) sc_add_forms.nd rfl (Or.inl rfl)) (pgs_cons (pg_name (i := 3) sc_add_forms.nd rfl (Or.inl rfl)) pgs_nil))))
      (pss_cons (ps_asg (pv 1) (pg_tup (by rfl) (pgs_cons (pg_name (i := 4) sc_add_forms.nd rfl (Or.inl rfl)) (pgs_cons (pg_name (i := 5) sc_add_forms.nd rfl (Or.inl rfl)) pgs_nil))))
      (pss_cons (ps_set (i := 6) sc_add_forms.nd rfl (Or.inr rfl) (pe_callTy (call_dictT (K := K) rfl rfl) (by rfl) Td (by decide +kernel) (pa_cons (pv 2) pa_nil)))
      (pss_cons (ps_for PassesOwn.never rfl (pi_tup (pv 4)) (pg_tup (by rfl) (pgs_cons (pg_name (i := 7) sc_add_forms.nd rfl (Or.inl rfl)) (pgs_cons (pg_name (i := 8) sc_add_forms.nd rfl (Or.inl rfl)) pgs_nil)))
        (pss_one (ps_asg (pe_call G_add_ratios (hr.mono (by omega)) rfl m_add_ratios k_add_ratios b_add_ratios .nil pass0 (pa_cons (pe_dget2 (hu_of hr) (pv 6) (pv 7) (pe_glob (v := .ref az) rfl hz rfl) ⟨rfl, by rfl, by rfl, by rfl⟩) (pa_cons (pv 8) pa_nil))) (pg_sub (pv 6) (pv 7) (set_dict (hu_of hr))))))
      (pss_cons (ps_setLc (i := 9) (own := [("name", 7)]) rfl sc_add_forms.nd rfl rfl (sw_true rfl rfl rfl (by decide +kernel)) (pi_list (pe_callB (call_sortedD (by rfl)) (by rfl) Tt.n_sorted (by decide +kernel) (pa_cons (pv 6) pa_nil))) (blkOk_by (N := ["one", "other", "one_terms", "one_constant", "other_terms", "other_constant", "factors", "name", "factor", "terms"]) (sc := defScope s_add_forms) (by decide +kernel)) (fun _ _ _ _ _ => (pg_name (i := 7) sc_add_forms.nd rfl (Or.inl rfl))) (fun _ _ _ _ _ => (pts_one (pt_cmpR (op_neDK (K := K) rfl hr.units) (pe_dget (hu_of hr) (pv 6) (pv 7) (fun _ _ => rfl)) (pe_glob (v := .ref az) rfl hz rfl) (nomark _)))) (fun _ _ _ _ _ => (pe_tup (pa_cons (pv 7) (pa_cons (pe_dget (hu_of hr) (pv 6) (pv 7) (fun _ _ => rfl)) pa_nil)))))
      (pss_one (ps_ret (pe_tup (pa_cons (pe_callTy (call_tupF (K := K) rfl) (by rfl) T.n_tuple (by decide +kernel) (pa_cons (pv 9) pa_nil)) (pa_cons (pe_call G_add_ratios (hr.mono (by omega)) rfl m_add_ratios k_add_ratios b_add_ratios .nil pass0 (pa_cons (pv 3) (pa_cons (pv 5) pa_nil))) pa_nil)))))))))), ?_⟩
    obtain ⟨a1, p1, xs1, c1, rfl, h1, hc1, n1, t1⟩ := fv
    obtain ⟨a2, p2, xs2, c2, rfl, h2, hc2, n2, t2⟩ := fu
    refine ⟨_, rfl, a1, _, rfl, h1, rfl, .ref p1, _, rfl, c1, _, rfl, rfl, ?_⟩
    refine ⟨_, rfl, a2, _, rfl, h2, rfl, .ref p2, _, rfl, c2, _, rfl, rfl, ?_⟩
    obtain ⟨ps, kvs, rfl, hpair, hk, hat⟩ := pairs_at t1
    refine ⟨_, rfl, p1, ps, kvs, rfl, n1, hpair, fun d hd => ?_⟩
    have D0 := DZ.make (K := K) gt.nodup hd hk hat
    have s0 := same_new hd (.dK (mergeK [] kvs))
    have lt2 := dps_len t2
    rw [List.length_map] at lt2
    have fewu := gu.few
    refine ⟨_, rfl, p2, rfl, ⟨_, (n2.same s0).sq⟩, ?_⟩
    refine for_tup (K := K) (a := p2) (xs := xs2) (fun i σ H' => ∃ ks zf o7 o8, σ = [some (.ref a1), some (.ref a2), some (.ref p1), some c1, some (.ref p2), some c2, some (.ref d), o7, o8, none] ∧ DZ K H' d ks zf ∧ Same H (hide d H') ∧ (∀ x ∈ ks, x ∈ ns) ∧
      (∀ x, Red (zf x) ∧ Sz (j + k + 1) (zf x)) ∧ (∀ x, qv (zf x) = cq ts x + cq (us.take i) x) ∧ ∀ x, x ∉ (us.take i).map (·.1) → zf x = cz ts x)
      ⟨_, _, none, none, rfl, D0, hide_same s0 hd, (fun x hx => by obtain ⟨t, ht, rfl⟩ := List.mem_map.mp hx; exact gt.names t ht), (fun x => ⟨(gt.cz_ok j1 x).1, (gt.cz_ok j1 x).2.mono (by omega)⟩), (fun x => by rw [qv_cz]; show _ = _ + (0 : Rat); grind), fun x _ => rfl⟩
      (fun i σ H' _ h => by obtain ⟨_, _, _, _, _, _, h, _⟩ := h; exact (n2.same (h.trans (hide_sub d H'))).sq) ?_ ?_
    · rintro i x σ H1 hx ⟨ks, zf, o7, o8, rfl, D1, s1, sub, rz, hq, hold⟩
      obtain ⟨dt, hdt, hdx⟩ := dps_get t2 hx
      rw [List.getElem?_map] at hdt
      obtain ⟨t, ht, rfl⟩ : ∃ t, us[i]? = some t ∧ termN t.1 t.2 = dt := by
        cases z : us[i]? with
        | none => rw [z] at hdt; cases hdt
        | some t => rw [z] at hdt; exact ⟨t, rfl, Option.some.inj hdt⟩
      have s1' := s1.trans (hide_sub d H1)
      have hdx1 : Dp K H1 x (.tuple [.str t.1, numD t.2]) := dp_same s1' _ _ hdx
      have htm := List.mem_of_getElem? ht
      have fresh : t.1 ∉ (us.take i).map (·.1) := fun m => by
        have nd := gu.nodup
        have e : us = us.take (i + 1) ++ us.drop (i + 1) := (List.take_append_drop _ _).symm
        rw [e, take_more ht, List.map_append, List.map_append] at nd
        exact (List.nodup_append.mp (List.nodup_append.mp nd).1).2.2 _ m _ (List.mem_singleton.mpr rfl) rfl
      cases hdx1 with
      | @tup at_ zs _ hsz haz =>
        cases haz with
        | @cons n1_ _ _ _ hn haz =>
          cases haz with
          | @cons r1 _ _ _ hr1 haz =>
            cases haz
            cases hn
            refine ⟨_, _, rfl, hsz, rfl, _, _, rfl, _, _, rfl, rfl, ?_⟩
            obtain ⟨o, hget, hzero, _⟩ := D1.get t.1
            obtain ⟨kvs1, hd1, hk1, _⟩ := D1.at_
            refine ⟨_, rfl, d, rfl, .inl ⟨kvs1, .inl hd1⟩, _, rfl, o, hget, _, rfl, ?_⟩
            have z0 : Dp K H1 (V.ref az) (rat 0 1) := .tup (saz _) (.cons (.int 0) (.cons (.int 1) .nil))
            have ez := hold _ fresh
            have cok := gt.cz_ok j1 t.1
            obtain ⟨rt, _, st⟩ := gu.terms t htm
            have hzf := hzero _ z0
            rw [ez] at hzf
            refine ⟨_, _, cz ts t.1, t.2, j, k, rfl, hzf, hr1, cok.1, rt, cok.2, st, hjk, fun p H2 s2 hp2 => ?_⟩
            have D2 := D1.keep s2
            have hd2 := s2 _ _ hd1
            have pd : p ≠ d := fun e => by rw [e, hd2] at hp2; cases hp2
            have lk : kvs1.length ≤ 60 := by
              rw [D1.len hd1]
              exact Nat.le_trans (sub_len D1.nd sub) hns
            refine ⟨_, rfl, _, rfl, d, _, rfl, .inl ⟨kvs1, Sum.inr t.1, hd2, rfl, small1000 (by omega), rfl⟩, ?_⟩
            have D3 := D2.put hd2 (x := t.1) (v := .ref p) (z := addz (cz ts t.1) t.2) (dp_rat (hide_at hp2 pd))
            refine ⟨_, _, _, _, rfl, D3, ?_, ?_, ?_, ?_, ?_⟩
            · rw [hide_upd]
              exact s1.trans (hide_mono s2)
            · intro y hy
              rcases mem_addN.mp hy with hy | rfl
              · exact sub y hy
              · exact gu.names t htm
            · intro y
              by_cases e : y = t.1
              · rw [if_pos e]
                exact ⟨add_red cok.1 rt, add_sz cok.2 st⟩
              · rw [if_neg e]
                exact rz y
            · intro y
              rw [take_more ht]
              by_cases e : y = t.1
              · subst e
                rw [if_pos rfl, qv_add cok.1 rt, qv_cz]
                have : cq (us.take i ++ [t]) t.1 = qv t.2 := by
                  refine cq_mem (ts := us.take i ++ [t]) ?_ (List.mem_append_right _ (List.mem_singleton.mpr rfl))
                  rw [← take_more ht]
                  exact (List.map_take (f := (·.1)) (l := us) (i := i + 1) ▸ (List.take_sublist _ _).nodup gu.nodup)
                rw [this]
              · rw [if_neg e, hq, cq_app_off (fun w => e w.symm)]
            · intro y hy
              rw [take_more ht, List.map_append, List.mem_append, not_or] at hy
              rw [if_neg (fun e => hy.2 (List.mem_singleton.mpr e))]
              exact hold y hy.1
    · rintro σ H1 ⟨ks, zf, o7, o8, rfl, D1, s1, sub, rz, hq, _⟩
      rw [lt2, List.take_length] at hq
      obtain ⟨kvs1, hd1, hk1, hval⟩ := D1.at_
      have lks : ks.length ≤ 60 := Nat.le_trans (sub_len D1.nd sub) hns
      have s1' := s1.trans (hide_sub d H1)
      refine ⟨_, rfl, d, kvs1, ks, rfl, .inl hd1, hk1, by omega, fun ys p pm so np => ?_⟩
      have s2 := same_new np (.lst (ys.map V.str))
      have D2 := D1.keep s2
      refine ⟨p, rfl, ⟨_, SqL.of upd_same⟩, fun D hD => ?_⟩
      have ly : ys.length ≤ 60 := by rw [pm.length_eq]; exact lks
      have pz : ∀ y, (!PyData.eqv (numD (zf y)) (rat 0 1)) = decide ((zf y).1 ≠ 0) := fun y => zero_eqv (rz y).1
      refine lc_list (K := K) (a := p) (xs := ys.map V.str) (fun i H' => Same (upd H1 p (.lst (ys.map V.str))) H' ∧ ∃ rs : List V, rs.length ≤ i ∧ H' D = some (.lst rs) ∧ DpAll K (hide D H') rs (((ys.take i).filter fun k => decide ((zf k).1 ≠ 0)).map fun k => termN k (zf k))) ⟨same_new hD _, [], Nat.le_refl _, upd_same, .nil⟩ (fun i H' _ h => SqL.of (h.1 _ _ upd_same)) ?_ ?_
      · rintro i x H3 hx ⟨s3, rs, lr, hrs, hall⟩
        rw [List.getElem?_map] at hx
        obtain ⟨y, hy, rfl⟩ : ∃ y, ys[i]? = some y ∧ V.str y = x := by
          cases z : ys[i]? with
          | none => rw [z] at hx; cases hx
          | some y => rw [z] at hx; exact ⟨y, rfl, Option.some.inj hx⟩
        have hlt := get_lt hy
        have hyk := pm.mem_iff.mp (List.mem_of_getElem? hy)
        have D3 := D2.keep s3
        obtain ⟨o, hget, _, hin⟩ := D3.get y
        obtain ⟨v, rfl, hv⟩ := hin hyk
        obtain ⟨pr, rfl, hpr⟩ := dp_rat_inv hv
        refine ⟨rfl, _, rfl, _, rfl, d, .ref pr, rfl, hget, _, _, hv, .tup (saz _) (.cons (.int 0) (.cons (.int 1) .nil)), rfl, rfl, _, rfl, ?_⟩
        refine ite2 (fun m => ?_) (fun m => ?_)
        · have m2 := (pz y).symm.trans m
          have dg : ∀ H', Same H3 H' → DGet H' d (.str y) (some (.ref pr)) := fun H' sx => by
            rcases hget with ⟨kv, k', rd, e1, e2⟩ | ⟨kv, k', b', rd, e1, e2⟩
            · exact .inl ⟨kv, k', rd.imp (sx _ _) (fun ⟨ob, h⟩ => ⟨ob, sx _ _ h⟩), e1, e2⟩
            · cases e1
          refine ⟨_, rfl, _, rfl, _, rfl, d, .ref pr, rfl, dg _ (Same.refl _), (by show 2 ≤ sizeLine; decide), fun p8 np8 => ?_⟩
          have s8 := same_new np8 (.tup [.str y, .ref pr])
          refine ⟨rs, s8 _ _ hrs, small1000 (by omega), same_upd (s3.trans s8) hD, rs ++ [.ref p8], by rw [List.length_append]; show rs.length + 1 ≤ i + 1; omega, upd_same, ?_⟩
          rw [take_more hy, List.filter_append, List.filter_cons_of_pos (by exact m2), List.filter_nil, List.map_append, hide_upd]
          obtain ⟨_, e2, hv2⟩ := hval y hyk
          have hD1 : H1 D = none := s2.free hD
          refine dps_snoc (dps_same (hide_mono s8) _ _ hall) (.tup (SqT.of (hide_at upd_same fun e => ?_)) (.cons (.str y) (.cons ?_ .nil)))
          · rw [e, hrs] at np8
            cases np8
          · rcases hget with ⟨kv, k', rd, e1, e2'⟩ | ⟨kv, k', b', rd, e1, e2'⟩
            · have hd3 := s3 _ _ (s2 _ _ hd1)
              have e3 : k' = Sum.inr y := by
                cases k' with
                | inl z => cases e1
                | inr z => injection e1 with e1; rw [e1]
              subst e3
              have ekv : kv = kvs1 := by
                rcases rd with rd | ⟨ob, rd⟩
                · rw [hd3] at rd
                  cases rd
                  rfl
                · rw [hd3] at rd
                  cases rd
              rw [ekv, e2] at e2'
              cases e2'
              exact dp_same (hide_same (s2.trans (s3.trans s8)) hD1) _ _ (dp_same (hide_sub d H1) _ _ hv2)
            · cases e1
        · have m2 := (pz y).symm.trans (Bool.eq_false_iff.mpr m)
          refine ⟨s3, rs, by omega, hrs, ?_⟩
          rw [take_more hy, List.filter_append, List.filter_cons_of_neg (by rw [m2]; exact Bool.false_ne_true), List.filter_nil, List.append_nil]
          exact hall
      · rintro H3 ⟨s3, rs, lr, hrs, hall⟩
        have ll : (ys.map V.str).length = ys.length := List.length_map _
        rw [ll, List.take_length] at hall
        have s13 := s1'.trans (s2.trans s3)
        refine ⟨_, rfl, D, rs, rfl, SqL.of hrs, fun p4 o4 np4 od4 => ?_⟩
        have s4 := same_new np4 (.frz o4 (.tup rs))
        have rc := gt.const
        have re := gu.const
        refine ⟨_, rfl, _, rfl, c1, c2, c, e, j, k, rfl, dp_same (s13.trans s4) _ _ hc1, dp_same (s13.trans s4) _ _ hc2, rc.1, re.1, rc.2, re.2, hjk, fun pc H5 s5 hpc => ⟨(by show 2 ≤ sizeLine; decide), fun p6 np6 => ?_⟩⟩
        have s6 := same_new np6 (.tup [.ref p4, .ref pc])
        obtain ⟨gw, hw⟩ := form_of (ns := ns) (k := j + k + 1) (zf := zf) (c := addz c e) (p := fun k => decide ((zf k).1 ≠ 0)) (pm.nodup_iff.mpr D1.nd) so (fun y hy => sub y (pm.mem_iff.mp hy)) (fun y _ => rz y) (fun y _ => decide_eq_true_iff) ⟨add_red rc.1 re.1, add_sz rc.2 re.2⟩
        refine q _ _ _ (s13.trans (s4.trans (s5.trans s6))) ⟨p6, p4, rs, .ref pc, rfl, SqT.of upd_same, dp_rat (s6 _ _ hpc), ⟨o4, s6 _ _ (s5 _ _ upd_same), od4⟩, ?_⟩ gw fun x => ?_
        · rw [List.map_map]
          exact dps_same ((hide_sub D H3).trans (s4.trans (s5.trans s6))) _ _ hall
        · rw [hw, ← hq]
          by_cases hx : x ∈ ys
          · rw [if_pos hx]
          · rw [if_neg hx, D1.off x (fun z => hx (pm.mem_iff.mpr z)), qv_zero]
end

def spScaleF (K : PySem.W.Frag) : Sp := fun vs H Q _ => ∃ (x v : V) (ns : List Str) (j k : Nat) (s : Int × Int) (ts : Ts) (c : Int × Int), vs = [x, v] ∧ Nv K H x s ∧ Sz j s ∧ FormAt K H v ts c ∧ FormK ns k ts c ∧ ns.length ≤ 60 ∧ 1 ≤ k ∧ j + k + 1 ≤ 40000000 ∧
  ∀ r H' ws, Same H H' → FormAt K H' r ws (mulz s c) → FormK ns (j + k) ws (mulz s c) → (∀ y, cq ws y = qv s * cq ts y) → Q r H'
theorem cq_scale (s : Int × Int) (hs : Red s) : ∀ {ts : Ts}, (∀ t ∈ ts, Red t.2) → ∀ x, cq (ts.map fun t => (t.1, mulz s t.2)) x = qv s * cq ts x
  | [], _, x => by show (0 : Rat) = qv s * 0; grind
  | t :: ts, h, x => by
    rw [List.map_cons, cq_cons, cq_cons, cq_scale s hs (fun u hu => h u (List.mem_cons_of_mem _ hu)) x]
    by_cases e : t.1 = x
    · rw [if_pos e, if_pos e, qv_mul hs (h t (List.mem_cons_self ..))]
    · rw [if_neg e, if_neg e]
theorem mul_top {a b : Int × Int} (ha : Red a) (hb : Red b) (h1 : a.1 ≠ 0) (h2 : b.1 ≠ 0) : (mulz a b).1 ≠ 0 := fun e => by
  have z := (qv_top (mul_red ha hb)).mpr e
  rw [qv_mul ha hb] at z
  have n1 : qv a ≠ 0 := fun w => h1 ((qv_top ha).mp w)
  have n2 : qv b ≠ 0 := fun w => h2 ((qv_top hb).mp w)
  grind
theorem mul_zero' {c : Int × Int} (h : Red c) : mulz (0, 1) c = (0, 1) := qv_inj (mul_red red_zero h) red_zero (by rw [qv_mul red_zero h, qv_zero]; grind)
theorem zero_sz {k : Nat} (h : 1 ≤ k) : Sz k ((0, 1) : Int × Int) := by
  have p : 1 < 2 ^ k := Nat.lt_of_lt_of_le (by decide : 1 < 2 ^ 1) (Nat.pow_le_pow_right (by decide) h)
  exact ⟨by show (0 : Int).natAbs < _; omega, by show (1 : Int).natAbs < _; omega⟩
theorem FormK.scale {ns : List Str} {j k : Nat} {ts : Ts} {c s : Int × Int} (f : FormK ns k ts c) (hs : Red s) (h0 : s.1 ≠ 0) (zs : Sz j s) : FormK ns (j + k) (ts.map fun t => (t.1, mulz s t.2)) (mulz s c) where
  names := fun t ht => by
    obtain ⟨u, hu, rfl⟩ := List.mem_map.mp ht
    exact f.names u hu
  terms := fun t ht => by
    obtain ⟨u, hu, rfl⟩ := List.mem_map.mp ht
    obtain ⟨h1, h2, h3⟩ := f.terms u hu
    exact ⟨mul_red hs h1, mul_top hs h1 h0 h2, mul_sz zs h3⟩
  order := by
    rw [List.map_map]
    exact f.order
  const := ⟨mul_red hs f.const.1, mul_sz zs f.const.2⟩
theorem FormK.nil {ns : List Str} {k : Nat} {c : Int × Int} (h : Red c) (z : Sz k c) : FormK ns k [] c := ⟨fun t ht => (by cases ht), fun t ht => (by cases ht), rfl, h, z⟩
section
variable {P : Program} {w : World} {K : PySem.W.Frag} {mg : Str → Option Value} {base : Heap}
theorem ok_scale_form {C : Addr} (T : Bt mg) (Tt : Ut4 K mg) (GA : Kn P w K mg base (L2.CX P w) "as_ratio" 35 ["value"] (spAsRatio K C)) (GC : Kn P w K mg base CX0 "constant_form" 36 ["number"] (spConstF K)) (GM : Kn P w K mg base CX0 "multiply_ratios" 34 ["one", "other"] (spBinR K mulz))
    (D : Df K mg "scale_form" s_scale_form ["number", "form"]) : Kn P w K mg base CX0 "scale_form" 37 ["number", "form"] (spScaleF K) := by
  obtain ⟨az, hz, saz⟩ := Tt.g_zero
  obtain ⟨f, fd, F, hm, hb⟩ := D
  obtain ⟨f_as_ratio, fd_as_ratio, G_as_ratio, m_as_ratio, k_as_ratio, b_as_ratio⟩ := GA
  obtain ⟨f_constant_form, fd_constant_form, G_constant_form, m_constant_form, k_constant_form, b_constant_form⟩ := GC
  obtain ⟨f_multiply_ratios, fd_multiply_ratios, G_multiply_ratios, m_multiply_ratios, k_multiply_ratios, b_multiply_ratios⟩ := GM
  refine ⟨f, fd, F.ok sc_scale_form (fun vs H Q E h => ?_) (fun cdv A outer s H vs Q E hr h => ?_), hm, F.kp, hb⟩
  · obtain ⟨x, v, ns, j, k, s, ts, c, rfl, _⟩ := h
    rfl
  · obtain ⟨x, v, ns, j, k, sc, ts, c, rfl, hx, zs, fv, gt, hns, k1, hjk, q⟩ := h
    refine ⟨_, (pss_cons (ps_set (i := 2) sc_scale_form.nd rfl (Or.inr rfl) (pe_call G_as_ratio (hr.mono (by omega)) rfl m_as_ratio k_as_ratio b_as_ratio .nil passL (pa_cons (pv 0) pa_nil)))
      (pss_cons (ps_if (pt_cmpR (op_eqD hr.units) (pv 2) (pe_glob (v := .ref az) rfl hz rfl) (nomark _)) (pss_one (ps_ret (pe_call G_constant_form (hr.mono (by omega)) rfl m_constant_form k_constant_form b_constant_form .nil pass0 (pa_cons (pe_glob (v := .ref az) rfl hz rfl) pa_nil)))) pss_nil)
      (pss_cons (ps_asg (pv 1) (pg_tup (by rfl) (pgs_cons (pg_name (i := 3) sc_scale_form.nd rfl (Or.inl rfl)) (pgs_cons (pg_name (i := 4) sc_scale_form.nd rfl (Or.inl rfl)) pgs_nil))))
      (pss_cons (ps_setLc (i := 5) (own := [("name", 6), ("factor", 7)]) rfl sc_scale_form.nd rfl rfl (sw_true rfl rfl rfl (by decide +kernel)) (pi_tup (pv 3)) (blkOk_by (N := ["number", "form", "scale", "terms", "constant", "scaled", "name", "factor"]) (sc := defScope s_scale_form) (by decide +kernel)) (fun _ _ _ _ _ => (pg_tupK (K := K) (n := 2) rfl (by rfl) (pgs_cons (pg_name (i := 6) sc_scale_form.nd rfl (Or.inl rfl)) (pgs_cons (pg_name (i := 7) sc_scale_form.nd rfl (Or.inl rfl)) pgs_nil)) (by rfl) (by rfl))) (fun _ _ _ _ _ => pts_nil) (fun _ _ _ _ _ => (pe_tup (pa_cons (pv 6) (pa_cons (pe_call G_multiply_ratios (hr.mono (by omega)) rfl m_multiply_ratios k_multiply_ratios b_multiply_ratios .nil pass0 (pa_cons (pv 2) (pa_cons (pv 7) pa_nil))) pa_nil)))))
      (pss_one (ps_ret (pe_tup (pa_cons (pe_callTy (call_tupF (K := K) rfl) (by rfl) T.n_tuple (by decide +kernel) (pa_cons (pv 5) pa_nil)) (pa_cons (pe_call G_multiply_ratios (hr.mono (by omega)) rfl m_multiply_ratios k_multiply_ratios b_multiply_ratios .nil pass0 (pa_cons (pv 2) (pa_cons (pv 4) pa_nil))) pa_nil))))))))), ?_⟩
    have rs := hx.red
    obtain ⟨d1, hd1, e1⟩ := hx
    refine ⟨_, rfl, x, d1, rfl, hd1, fun t m r H1 e s1 hr1 => ?_, fun e => by rw [e1] at e; cases e⟩
    obtain rfl : sc = (t, m) := Option.some.inj (e1.symm.trans e)
    refine ⟨_, rfl, _, _, hr1, .tup (saz _) (.cons (.int 0) (.cons (.int 1) .nil)), rfl, rfl, _, rfl, ?_⟩
    have ez : PyData.eqv (rat t m) (rat 0 1) = !decide (t ≠ 0) := by
      have z := zero_eqv rs
      rw [← z, Bool.not_not]
      rfl
    refine ite2 (fun c0 => ?_) (fun c0 => ?_)
    · have e0 : t = 0 := by
        have z := ez.symm.trans c0
        rw [Bool.not_eq_true', decide_eq_false_iff_not, Classical.not_not] at z
        exact z
      have es : ((t, m) : Int × Int) = (0, 1) := (top_zero rs).mp e0
      rw [es] at q
      refine ⟨_, (0, 1), rfl, ⟨rat 0 1, .tup (saz _) (.cons (.int 0) (.cons (.int 1) .nil)), numOf_rat red_zero⟩, fun r2 H2 s2 hf => ?_⟩
      have ec : mulz (0, 1) c = (0, 1) := mul_zero' gt.const.1
      rw [ec] at q
      exact q r2 H2 [] (s1.trans s2) hf (.nil red_zero (zero_sz (by omega))) fun y => by rw [qv_zero, cq_nil]; grind
    · have e0 : t ≠ 0 := by
        have z := ez.symm.trans (Bool.eq_false_iff.mpr c0)
        rw [Bool.not_eq_false', decide_eq_true_eq] at z
        exact z
      obtain ⟨a1, p1, xs1, c1, rfl, h1, hc1, n1, t1⟩ := fv
      refine ⟨_, rfl, a1, _, rfl, same_seqT s1 h1, rfl, .ref p1, _, rfl, c1, _, rfl, rfl, ?_⟩
      have lt1 := dps_len t1
      rw [List.length_map] at lt1
      have few := gt.few
      refine ⟨_, rfl, p1, rfl, ⟨_, (n1.same s1).sq⟩, fun D hD => ?_⟩
      refine lc_tup (K := K) (a := p1) (xs := xs1) (fun i H' => Same H1 H' ∧ ∃ ls : List V, ls.length = i ∧ H' D = some (.lst ls) ∧ DpAll K (hide D H') ls ((ts.take i).map fun u => termN u.1 (mulz (t, m) u.2))) ⟨same_new hD _, [], rfl, upd_same, .nil⟩ (fun i H' _ h => (n1.same (s1.trans h.1)).sq) ?_ ?_
      · rintro i x H2 hx ⟨s2, ls, hl, hls, hall⟩
        obtain ⟨dt, hdt, hdx⟩ := dps_get t1 hx
        rw [List.getElem?_map] at hdt
        obtain ⟨u, hu, rfl⟩ : ∃ u, ts[i]? = some u ∧ termN u.1 u.2 = dt := by
          cases z : ts[i]? with
          | none => rw [z] at hdt; cases hdt
          | some u => rw [z] at hdt; exact ⟨u, rfl, Option.some.inj hdt⟩
        have hum := List.mem_of_getElem? hu
        have hi := get_lt hu
        obtain ⟨ru, _, zu⟩ := gt.terms u hum
        have hdx2 : Dp K H2 x (.tuple [.str u.1, numD u.2]) := dp_same (s1.trans s2) _ _ hdx
        cases hdx2 with
        | @tup at_ zs_ _ hsz haz =>
          cases haz with
          | @cons n1_ _ _ _ hn haz =>
            cases haz with
            | @cons r1 _ _ _ hr2 haz =>
              cases haz
              cases hn
              refine ⟨_, _, rfl, hsz, rfl, _, _, rfl, _, _, rfl, rfl, rfl, _, rfl, _, rfl, _, rfl, r, r1, (t, m), u.2, j, k, rfl, dp_same s2 _ _ hr1, hr2, rs, ru, zs, zu, hjk, fun p H3 s3 hp3 => ⟨(by show 2 ≤ sizeLine; decide), fun p4 np4 => ?_⟩⟩
              have s4 := same_new np4 (.tup [.str u.1, .ref p])
              refine ⟨ls, s4 _ _ (s3 _ _ hls), small1000 (by omega), same_upd (s2.trans (s3.trans s4)) hD, ls ++ [.ref p4], by rw [List.length_append, hl]; rfl, upd_same, ?_⟩
              rw [take_more hu, List.map_append, hide_upd]
              refine dps_snoc (dps_same (hide_mono (s3.trans s4)) _ _ hall) (.tup (SqT.of (hide_at upd_same fun e => ?_)) (.cons (.str _) (.cons (dp_rat (hide_at (s4 _ _ hp3) fun e => ?_)) .nil)))
              · rw [e, s3 _ _ hls] at np4
                cases np4
              · rw [e, s3 _ _ hls] at hp3
                cases hp3
      · rintro H2 ⟨s2, ls, hl, hls, hall⟩
        rw [lt1, List.take_length] at hall
        refine ⟨_, rfl, D, ls, rfl, SqL.of hls, fun p4 o4 np4 od4 => ?_⟩
        have s4 := same_new np4 (.frz o4 (.tup ls))
        have s14 := s1.trans (s2.trans s4)
        have rc := gt.const
        refine ⟨_, rfl, _, rfl, r, c1, (t, m), c, j, k, rfl, dp_same (s2.trans s4) _ _ hr1, dp_same s14 _ _ hc1, rs, rc.1, zs, rc.2, hjk, fun pc H5 s5 hpc => ⟨(by show 2 ≤ sizeLine; decide), fun p6 np6 => ?_⟩⟩
        have s6 := same_new np6 (.tup [.ref p4, .ref pc])
        refine q _ _ _ (s14.trans (s5.trans s6)) ⟨p6, p4, ls, .ref pc, rfl, SqT.of upd_same, dp_rat (s6 _ _ hpc), ⟨o4, s6 _ _ (s5 _ _ upd_same), od4⟩, ?_⟩ (gt.scale rs e0 zs) fun y => cq_scale (t, m) rs (fun u hu => (gt.terms u hu).1) y
        rw [List.map_map]
        exact dps_same ((hide_sub D H2).trans (s4.trans (s5.trans s6))) _ _ hall
end

end Bs
namespace Bs
open PySem L2
theorem ok_divide {C Cz : Addr} (GA : Kn P w K mg base (L2.CX P w) "as_ratio" 35 ["value"] (spAsRatio K C)) (GR : Kn1 P w K mg base (L2.CX P w) "ratio" 33 ["top", "bottom"] (spRatio Cz)) (D : Df K mg "divide" s_divide ["one", "other"]) :
    Kn P w K mg base (L2.CX P w) "divide" 36 ["one", "other"] (spDiv K Cz) := by
  obtain ⟨f, fd, F, hm, hb⟩ := D
  obtain ⟨f_as_ratio, fd_as_ratio, G_as_ratio, m_as_ratio, k_as_ratio, b_as_ratio⟩ := GA
  obtain ⟨f_ratio, fd_ratio, G_ratio, m_ratio, k_ratio, b_ratio, _⟩ := GR
  refine ⟨f, fd, F.okX sc_divide (fun vs H Q E h => ?_) (fun cdv A outer s H vs Q E hr h => ?_), hm, F.kp, hb⟩
  · obtain ⟨x, y, a, b, j, k, rfl, _⟩ := h
    rfl
  · obtain ⟨x, y, a, b, j, k, rfl, hx, hy, sa, sb, hjk, q1, q2⟩ := h
    have ra := hx.red
    have rb := hy.red
    have j0 := sa.pos ra
    have k0 := sb.pos rb
    refine ⟨_, (pss_cons (ps_asg (pe_call G_as_ratio (hr.mono (by omega)) rfl m_as_ratio k_as_ratio b_as_ratio .nil passL (pa_cons (pv 0) pa_nil)) (pg_tup (by rfl) (pgs_cons (pg_name (i := 2) sc_divide.nd rfl (Or.inl rfl)) (pgs_cons (pg_name (i := 3) sc_divide.nd rfl (Or.inl rfl)) pgs_nil))))
      (pss_cons (ps_asg (pe_call G_as_ratio (hr.mono (by omega)) rfl m_as_ratio k_as_ratio b_as_ratio .nil passL (pa_cons (pv 1) pa_nil)) (pg_tup (by rfl) (pgs_cons (pg_name (i := 4) sc_divide.nd rfl (Or.inl rfl)) (pgs_cons (pg_name (i := 5) sc_divide.nd rfl (Or.inl rfl)) pgs_nil))))
      (pss_one (ps_ret (pe_call G_ratio (hr.mono (by omega)) rfl m_ratio k_ratio b_ratio .nil (passes_call (takes_of rfl rfl rfl rfl) (fun _ _ _ _ h => h)) (pa_cons (pe_op op_mulV (pv 2) (pv 5)) (pa_cons (pe_op op_mulV (pv 3) (pv 4)) pa_nil))))))), ?_⟩
    obtain ⟨d1, hd1, e1⟩ := hx
    obtain ⟨d2, hd2, e2⟩ := hy
    refine ⟨_, rfl, x, d1, rfl, hd1, fun t m r H1 e s1 hr1 => ?_, fun e => by rw [e1] at e; cases e⟩
    obtain rfl : a = (t, m) := Option.some.inj (e1.symm.trans e)
    obtain ⟨p1, rfl, hp1⟩ := dp_rat_inv hr1
    refine ⟨p1, _, rfl, hp1, rfl, .int t, _, rfl, .int m, _, rfl, rfl, ?_⟩
    refine ⟨_, rfl, y, d2, rfl, dp_same s1 _ _ hd2, fun t2 m2 r H2 e s2 hr2 => ?_, fun e => by rw [e2] at e; cases e⟩
    obtain rfl : b = (t2, m2) := Option.some.inj (e2.symm.trans e)
    obtain ⟨p2, rfl, hp2⟩ := dp_rat_inv hr2
    refine ⟨p2, _, rfl, hp2, rfl, .int t2, _, rfl, .int m2, _, rfl, rfl, ?_⟩
    refine ⟨_, rfl, _, rfl, _, _, rfl, rfl, mulW_of sa.1 sb.2 j0 k0 hjk, _, rfl, _, rfl, _, _, rfl, rfl, mulW_of sa.2 sb.1 j0 k0 hjk, ?_⟩
    have pm : m ≠ 0 := by
      have := ra.pos
      omega
    refine ⟨_, _, rfl, fun h0 p H3 s3 h3 => q1 (fun z => h0 (by show m * t2 = 0; rw [show t2 = 0 from z, Int.mul_zero])) p H3 (s1.trans (s2.trans s3)) h3, fun z => q2 ?_ _ (s1.trans s2)⟩
    rcases Int.mul_eq_zero.mp z with y1 | y1
    · exact absurd y1 pm
    · exact y1

/-! ### forms as functions -/
inductive All2 {α β : Type} (R : α → β → Prop) : List α → List β → Prop
  | nil : All2 R [] []
  | cons {a : α} {b : β} {as : List α} {bs : List β} : R a b → All2 R as bs → All2 R (a :: as) (b :: bs)
theorem All2.len {α β : Type} {R : α → β → Prop} {as : List α} {bs : List β} (h : All2 R as bs) : as.length = bs.length := by
  induction h with
  | nil => rfl
  | cons _ _ ih => rw [List.length_cons, List.length_cons, ih]
theorem All2.get {α β : Type} {R : α → β → Prop} {as : List α} {bs : List β} (h : All2 R as bs) : ∀ {i : Nat} {a : α}, as[i]? = some a → ∃ b, bs[i]? = some b ∧ R a b := by
  induction h with
  | nil => intro i a e; cases e
  | @cons a b as bs r _ ih =>
    intro i x e
    cases i with
    | zero => cases e; exact ⟨b, rfl, r⟩
    | succ i => exact ih e
theorem All2.imp {α β : Type} {R S : α → β → Prop} {as : List α} {bs : List β} (h : All2 R as bs) (f : ∀ a b, R a b → S a b) : All2 S as bs := by
  induction h with
  | nil => exact .nil
  | cons r _ ih => exact .cons (f _ _ r) ih
abbrev Fq := (Str → Rat) × Rat
def addQ (a b : Fq) : Fq := (fun x => a.1 x + b.1 x, a.2 + b.2)
def sclQ (r : Rat) (a : Fq) : Fq := (fun x => r * a.1 x, r * a.2)
def conQ (r : Rat) : Fq := (fun _ => 0, r)
def celQ (x : Str) : Fq := (fun y => if x = y then 1 else 0, 0)
def isC (a : Fq) : Prop := ∀ x, a.1 x = 0
def FmA (K : PySem.W.Frag) (ns : List Str) (H : Hp) (v : V) (g : Fq) (k : Nat) : Prop := ∃ ts c, FormAt K H v ts c ∧ FormK ns k ts c ∧ (∀ x, cq ts x = g.1 x) ∧ qv c = g.2 ∧ 1 ≤ k
theorem FmA.same {K : PySem.W.Frag} {ns : List Str} {H H' : Hp} {v : V} {g : Fq} {k : Nat} (h : FmA K ns H v g k) (s : Same H H') : FmA K ns H' v g k := by
  obtain ⟨ts, c, h1, h2, h3⟩ := h
  exact ⟨ts, c, h1.same s, h2, h3⟩
theorem FmA.mono {K : PySem.W.Frag} {ns : List Str} {H : Hp} {v : V} {g : Fq} {j k : Nat} (h : FmA K ns H v g j) (l : j ≤ k) : FmA K ns H v g k := by
  obtain ⟨ts, c, h1, h2, h3, h4, h5⟩ := h
  exact ⟨ts, c, h1, h2.mono l, h3, h4, by omega⟩
def spSubF (K : PySem.W.Frag) : Sp := fun vs H Q _ => ∃ (v u : V) (ns : List Str) (a b : Fq) (j k : Nat), vs = [v, u] ∧ FmA K ns H v a j ∧ FmA K ns H u b k ∧ ns.length ≤ 60 ∧ j + k + 2 ≤ 40000000 ∧
  ∀ r H', Same H H' → FmA K ns H' r (addQ a (sclQ (-1) b)) (j + k + 2) → Q r H'
def spTotal (K : PySem.W.Frag) : Sp := fun vs H Q _ => ∃ (p : Addr) (xs : List V) (ns : List Str) (gs : List (Fq × Nat)), vs = [.ref p] ∧ H p = some (.lst xs) ∧ All2 (fun v (g : Fq × Nat) => FmA K ns H v g.1 g.2) xs gs ∧ ns.length ≤ 60 ∧ gs.length ≤ 100000 ∧ (gs.map fun g => g.2 + 1).sum + 1 ≤ 40000000 ∧
  ∀ r H', Same H H' → FmA K ns H' r ((gs.map (·.1)).foldl addQ (conQ 0)) ((gs.map fun g => g.2 + 1).sum + 1) → Q r H'
def spProd (K : PySem.W.Frag) (Cl : Addr) : Sp := fun vs H Q E => ∃ (v u : V) (p : Nat) (ns : List Str) (a b : Fq) (j k : Nat), vs = [v, u, .int (p : Nat)] ∧ FmA K ns H v a j ∧ FmA K ns H u b k ∧ (∀ x ∈ ns, PyData.strOk x = true) ∧ ns.length ≤ 60 ∧ j + k + 1 ≤ 40000000 ∧
  (isC a → ∀ r H', Same H H' → FmA K ns H' r (sclQ a.2 b) (j + k) → Q r H') ∧ (¬ isC a → isC b → ∀ r H', Same H H' → FmA K ns H' r (sclQ b.2 a) (j + k) → Q r H') ∧
  (¬ isC a → ¬ isC b → ∀ dx H', Same H H' → H' dx = some (.xd [("position", .int (p : Nat))]) → E (.ref Cl) (some dx) H')
def spCell (K : PySem.W.Frag) : Sp := fun vs H Q _ => ∃ (x : Str) (ns : List Str), vs = [.str x] ∧ x ∈ ns ∧ ∀ r H', Same H H' → FmA K ns H' r (celQ x) 1 → Q r H'
def spQuot (K : PySem.W.Frag) (Cl Cd : Addr) : Sp := fun vs H Q E => ∃ (v u : V) (p : Nat) (ns : List Str) (a b : Fq) (j k : Nat), vs = [v, u, .int (p : Nat)] ∧ FmA K ns H v a j ∧ FmA K ns H u b k ∧ (∀ x ∈ ns, PyData.strOk x = true) ∧ ns.length ≤ 60 ∧ j + k + 2 ≤ 40000000 ∧
  (isC b → b.2 ≠ 0 → ∀ r H', Same H H' → FmA K ns H' r (sclQ (1 / b.2) a) (j + k + 1) → Q r H') ∧
  (¬ isC b → ∀ dx H', Same H H' → H' dx = some (.xd [("position", .int (p : Nat))]) → E (.ref Cl) (some dx) H') ∧
  (isC b → b.2 = 0 → ∀ dx H', Same H H' → H' dx = some (.xd [("position", .int (p : Nat))]) → E (.ref Cd) (some dx) H')
theorem div_ne {a b : Int × Int} (ha : Red a) (h : b.1 ≠ 0) : a.2 * b.1 ≠ 0 := fun e => by
  have p := ha.pos
  rcases Int.mul_eq_zero.mp e with z | z
  · omega
  · exact h z
theorem div_red {a b : Int × Int} (ha : Red a) (h : b.1 ≠ 0) : Red (divz a b) := nrm_red (div_ne ha h)
theorem div_sz {a b : Int × Int} {j k : Nat} (ha : Sz j a) (hb : Sz k b) : Sz (j + k) (divz a b) := sz_nrm (lt_mul ha.1 hb.2) (lt_mul ha.2 hb.1)
theorem qv_div {a b : Int × Int} (ha : Red a) (hb : Red b) (h : b.1 ≠ 0) : qv (divz a b) = qv a / qv b := by
  have e := congrArg (fun i : Int => (i : Rat)) (show (divz a b).1 * (a.2 * b.1) = (a.1 * b.2) * (divz a b).2 from nrm_cross (div_ne ha h))
  simp only [Rat.intCast_mul] at e
  have n0 := q_ne (div_red ha h)
  have n1 := q_ne ha
  have n2 := q_ne hb
  have n3 : ((b.1 : Int) : Rat) ≠ 0 := fun z => h (Rat.intCast_inj.mp z)
  unfold qv
  grind
theorem isC_nil {ns : List Str} {k : Nat} {ts : Ts} {c : Int × Int} {g : Fq} (f : FormK ns k ts c) (h : ∀ x, cq ts x = g.1 x) : isC g ↔ ts = [] := by
  constructor
  · intro z
    cases ts with
    | nil => rfl
    | cons t ts =>
      have n := (f.not0 t.1).mp (List.mem_cons_self ..)
      rw [h, z] at n
      exact absurd rfl n
  · rintro rfl x
    rw [← h]
    rfl
theorem terms_shp {ns : List Str} {k : Nat} {ts : Ts} {c : Int × Int} (f : FormK ns k ts c) (hn : ∀ x ∈ ns, PyData.strOk x = true) : SeqAt.shaped (.tuple (ts.map fun t => termN t.1 t.2)) = true :=
  (fine.tup (n := 2) fun d hd => by
    obtain ⟨t, ht, rfl⟩ := List.mem_map.mp hd
    refine fine.tup (n := 1) fun e he => ?_
    simp only [List.mem_cons, List.not_mem_nil, or_false] at he
    rcases he with rfl | rfl
    · exact (fine_str (hn _ (f.names t ht))).mono (by decide)
    · exact fine_rat _ _).shp (by decide)
theorem qv_one : qv ((1, 1) : Int × Int) = 1 := by decide +kernel
theorem qv_neg1 : qv ((-1, 1) : Int × Int) = -1 := by decide +kernel
theorem terms_nil (ts : Ts) : PyData.eqv (.tuple (ts.map fun t => termN t.1 t.2)) (.tuple []) = decide (ts = []) := by
  cases ts <;> rfl
section
variable {P : Program} {w : World} {K : PySem.W.Frag} {mg : Str → Option Value} {base : Heap}
theorem ok_subtract_forms (GA : Kn P w K mg base CX0 "add_forms" 35 ["one", "other"] (spAddF K)) (GS : Kn P w K mg base CX0 "scale_form" 37 ["number", "form"] (spScaleF K)) (D : Df K mg "subtract_forms" s_subtract_forms ["one", "other"]) :
    Kn P w K mg base CX0 "subtract_forms" 38 ["one", "other"] (spSubF K) := by
  obtain ⟨f, fd, F, hm, hb⟩ := D
  obtain ⟨f_add_forms, fd_add_forms, G_add_forms, m_add_forms, k_add_forms, b_add_forms⟩ := GA
  obtain ⟨f_scale_form, fd_scale_form, G_scale_form, m_scale_form, k_scale_form, b_scale_form⟩ := GS
  refine ⟨f, fd, F.ok sc_subtract_forms (fun vs H Q E h => ?_) (fun cdv A outer s H vs Q E hr h => ?_), hm, F.kp, hb⟩
  · obtain ⟨v, u, ns, a, b, j, k, rfl, _⟩ := h
    rfl
  · obtain ⟨v, u, ns, a, b, j, k, rfl, ⟨ts, c, fv, gt, eg, ec, j1⟩, ⟨us, d, fu, gu, eh, ed, k1⟩, hns, hjk, q⟩ := h
    refine ⟨_, (pss_one (ps_ret (pe_call G_add_forms (hr.mono (by omega)) rfl m_add_forms k_add_forms b_add_forms .nil pass0 (pa_cons (pv 0) (pa_cons (pe_call G_scale_form (hr.mono (by omega)) rfl m_scale_form k_scale_form b_scale_form .nil pass0 (pa_cons (pe_un un_neg pe_int) (pa_cons (pv 1) pa_nil))) pa_nil))))), ?_⟩
    have rm : Red ((-1, 1) : Int × Int) := red_one _
    refine ⟨_, rfl, 1, rfl, _, rfl, _, _, ns, 1, k, (-1, 1), us, d, rfl, ⟨.int (-1), .int _, rfl⟩, ⟨by decide, by decide⟩, fu, gu, hns, k1, by omega, fun r1 H1 ws s1 f1 g1 e1 => ?_⟩
    refine ⟨_, r1, ns, j, 1 + k, ts, ws, c, _, rfl, fv.same s1, f1, gt, g1, hns, j1, by omega, by omega, fun r2 H2 zs s2 f2 g2 e2 => ?_⟩
    refine q r2 H2 (s1.trans s2) ⟨zs, _, f2, g2.mono (by omega), fun x => ?_, ?_, by omega⟩
    · rw [e2, e1, eg, eh, qv_neg1]
      rfl
    · rw [qv_add gt.const.1 g1.const.1, qv_mul rm gu.const.1, ec, ed, qv_neg1]
      rfl
theorem ok_product_form {Cl : Addr} (Ti : ErrF P w K mg base "NotLinear" "position" Cl) (GS : Kn P w K mg base CX0 "scale_form" 37 ["number", "form"] (spScaleF K)) (D : Df K mg "product_form" s_product_form ["one", "other", "position"]) :
    Kn P w K mg base (L2.CX P w) "product_form" 39 ["one", "other", "position"] (spProd K Cl) := by
  obtain ⟨f, fd, F, hm, hb⟩ := D
  obtain ⟨fI, fdI, iC, tI, F1, b1⟩ := Ti.ini
  obtain ⟨f_scale_form, fd_scale_form, G_scale_form, m_scale_form, k_scale_form, b_scale_form⟩ := GS
  refine ⟨f, fd, F.okX sc_product_form (fun vs H Q E h => ?_) (fun cdv A outer s H vs Q E hr h => ?_), hm, F.kp, hb⟩
  · obtain ⟨v, u, p, ns, a, b, j, k, rfl, _⟩ := h
    rfl
  · obtain ⟨v, u, p, ns, a, b, j, k, rfl, ⟨ts, c, fv, gt, eg, ec, j1⟩, ⟨us, d, fu, gu, eh, ed, k1⟩, hn, hns, hjk, q1, q2, qe⟩ := h
    refine ⟨_, (pss_cons (ps_asg (pv 0) (pg_tup (by rfl) (pgs_cons (pg_name (i := 3) sc_product_form.nd rfl (Or.inl rfl)) (pgs_cons (pg_name (i := 4) sc_product_form.nd rfl (Or.inl rfl)) pgs_nil))))
      (pss_cons (ps_asg (pv 1) (pg_tup (by rfl) (pgs_cons (pg_name (i := 5) sc_product_form.nd rfl (Or.inl rfl)) (pgs_cons (pg_name (i := 6) sc_product_form.nd rfl (Or.inl rfl)) pgs_nil))))
      (pss_cons (ps_if (pt_cmpR (op_eqD hr.units) (pv 3) (pe_tup pa_nil) (nomark _)) (pss_one (ps_ret (pe_call G_scale_form (hr.mono (by omega)) rfl m_scale_form k_scale_form b_scale_form .nil pass0 (pa_cons (pv 4) (pa_cons (pv 1) pa_nil))))) pss_nil)
      (pss_cons (ps_if (pt_cmpR (op_eqD hr.units) (pv 5) (pe_tup pa_nil) (nomark _)) (pss_one (ps_ret (pe_call G_scale_form (hr.mono (by omega)) rfl m_scale_form k_scale_form b_scale_form .nil pass0 (pa_cons (pv 6) (pa_cons (pv 0) pa_nil))))) pss_nil)
      (pss_one (ps_raise rfl (takes_of rfl rfl rfl rfl) (pmk_oex Ti.ox iC tI F1 (hr.mono (by omega)) b1 .nil pass0 rfl Ti.gC (pa_cons (pv 2) pa_nil)))))))), ?_⟩
    have fv0 := fv
    have fu0 := fu
    obtain ⟨a1, p1, xs1, c1, rfl, h1, hc1, n1, t1⟩ := fv
    obtain ⟨a2, p2, xs2, c2, rfl, h2, hc2, n2, t2⟩ := fu
    refine ⟨_, rfl, a1, _, rfl, h1, rfl, .ref p1, _, rfl, c1, _, rfl, rfl, ?_⟩
    refine ⟨_, rfl, a2, _, rfl, h2, rfl, .ref p2, _, rfl, c2, _, rfl, rfl, ?_⟩
    refine ⟨_, rfl, (by show 0 ≤ sizeLine; decide), fun p3 np3 => ?_⟩
    have s3 := same_new np3 (.tup [])
    have ht1 : Dp K H (.ref p1) (.tuple (ts.map fun t => termN t.1 t.2)) := .tup n1.sq t1
    have ht2 : Dp K H (.ref p2) (.tuple (us.map fun t => termN t.1 t.2)) := .tup n2.sq t2
    refine ⟨_, .tuple [], dp_same s3 _ _ ht1, .tup (SqT.of upd_same) .nil, terms_shp gt hn, rfl, _, rfl, ?_⟩
    rw [terms_nil]
    refine ite2 (fun c => ?_) (fun c => ?_)
    · obtain rfl := of_decide_eq_true c
      refine ⟨_, rfl, _, rfl, _, _, ns, j, k, _, us, d, rfl, ⟨_, dp_same s3 _ _ hc1, numOf_rat gt.const.1⟩, gt.const.2, fu0.same s3, gu, hns, k1, hjk, fun r H1 ws s1 f1 g1 e1 => ?_⟩
      refine q1 ((isC_nil gt eg).mpr rfl) r H1 (s3.trans s1) ⟨ws, _, f1, g1, fun x => ?_, ?_, by omega⟩
      · rw [e1, eh, ec]
        rfl
      · rw [qv_mul gt.const.1 gu.const.1, ec, ed]
        rfl
    have nC1 : ¬ isC a := fun z => c (decide_eq_true ((isC_nil gt eg).mp z))
    refine ⟨_, rfl, (by show 0 ≤ sizeLine; decide), fun p4 np4 => ?_⟩
    have s4 := s3.trans (same_new np4 (.tup []))
    refine ⟨_, .tuple [], dp_same s4 _ _ ht2, .tup (SqT.of upd_same) .nil, terms_shp gu hn, rfl, _, rfl, ?_⟩
    rw [terms_nil]
    refine ite2 (fun c => ?_) (fun c => ?_)
    · obtain rfl := of_decide_eq_true c
      refine ⟨_, rfl, _, rfl, _, _, ns, k, j, _, ts, _, rfl, ⟨_, dp_same s4 _ _ hc2, numOf_rat gu.const.1⟩, gu.const.2, fv0.same s4, gt, hns, j1, by omega, fun r H1 ws s1 f1 g1 e1 => ?_⟩
      refine q2 nC1 ((isC_nil gu eh).mpr rfl) r H1 (s4.trans s1) ⟨ws, _, f1, g1.mono (by omega), fun x => ?_, ?_, by omega⟩
      · rw [e1, eg, ed]
        rfl
      · rw [qv_mul gu.const.1 gt.const.1, ec, ed]
        rfl
    have nC2 : ¬ isC b := fun z => c (decide_eq_true ((isC_nil gu eh).mp z))
    refine ⟨_, rfl, (by show 1 ≤ 1000; decide), fun ea na => ?_⟩
    refine ⟨ea, _, rfl, upd_same, fun xd hdx nx => ⟨rfl, xd, [("position", .int (p : Nat))], upd_same, ?_, ?_, ?_⟩⟩
    · rw [upd_ne nx, upd_same]
    · rw [upd_ne nx] at hdx
      exact hdx
    · rw [upd_ne nx] at hdx
      exact qe nC1 nC2 xd _ (s4.trans (raised_same na hdx nx)) upd_same
theorem ok_cell_form (Tt : Ut4 K mg) (To : ∃ a, mg "ONE" = some (.ref a) ∧ ∀ H, SqT K H a [V.int 1, V.int 1]) (D : Df K mg "cell_form" s_cell_form ["name"]) :
    Kn P w K mg base CX0 "cell_form" 33 ["name"] (spCell K) := by
  obtain ⟨az, hz, saz⟩ := Tt.g_zero
  obtain ⟨ao, ho, sao⟩ := To
  obtain ⟨f, fd, F, hm, hb⟩ := D
  refine ⟨f, fd, F.ok sc_cell_form (fun vs H Q E h => ?_) (fun cdv A outer s H vs Q E hr h => ?_), hm, F.kp, hb⟩
  · obtain ⟨x, ns, rfl, _⟩ := h
    rfl
  · obtain ⟨x, ns, rfl, hx, q⟩ := h
    refine ⟨_, (pss_one (ps_ret (pe_tup (pa_cons (pe_tupF (pa_cons (pe_tup (pa_cons (pv 0) (pa_cons (pe_glob (v := .ref ao) rfl ho rfl) pa_nil))) pa_nil)) (pa_cons (pe_glob (v := .ref az) rfl hz rfl) pa_nil))))), ?_⟩
    refine ⟨_, rfl, (by show 2 ≤ sizeLine; decide), fun p1 np1 => ⟨(by show 1 ≤ sizeLine; decide), fun p2 o2 np2 od2 => ⟨(by show 2 ≤ sizeLine; decide), fun p3 np3 => ?_⟩⟩⟩
    have s1 := same_new np1 (.tup [.str x, .ref ao])
    have s2 := same_new np2 (.frz o2 (.tup [.ref p1]))
    have s3 := same_new np3 (.tup [.ref p2, .ref az])
    have rz : ∀ H : Hp, Dp K H (.ref az) (numD (0, 1)) := fun H => .tup (saz _) (.cons (.int 0) (.cons (.int 1) .nil))
    have ro : ∀ H : Hp, Dp K H (.ref ao) (numD (1, 1)) := fun H => .tup (sao _) (.cons (.int 1) (.cons (.int 1) .nil))
    refine q _ _ (s1.trans (s2.trans s3)) ⟨[(x, (1, 1))], (0, 1), ⟨p3, p2, [.ref p1], .ref az, rfl, SqT.of upd_same, rz _, ⟨o2, s3 _ _ upd_same, od2⟩, .cons (.tup (SqT.of (s3 _ _ (s2 _ _ upd_same))) (.cons (.str x) (.cons (ro _) .nil))) .nil⟩, ?_, fun y => ?_, qv_zero, Nat.le_refl _⟩
    · refine ⟨fun t ht => ?_, fun t ht => ?_, rfl, red_zero, ⟨by decide, by decide⟩⟩
      · obtain rfl := List.mem_singleton.mp ht
        exact hx
      · obtain rfl := List.mem_singleton.mp ht
        exact ⟨red_one 1, (by decide : (1 : Int) ≠ 0), ⟨(by decide : (1 : Int).natAbs < 2 ^ 1), (by decide : (1 : Int).natAbs < 2 ^ 1)⟩⟩
    · rw [cq_cons, qv_one]
      rfl
theorem ok_total_form (Tt : Ut4 K mg) (GA : Kn P w K mg base CX0 "add_forms" 35 ["one", "other"] (spAddF K)) (GC : Kn P w K mg base CX0 "constant_form" 36 ["number"] (spConstF K)) (D : Df K mg "total_form" s_total_form ["parts"]) :
    Kn P w K mg base CX0 "total_form" 37 ["parts"] (spTotal K) := by
  obtain ⟨az, hz, saz⟩ := Tt.g_zero
  obtain ⟨f, fd, F, hm, hb⟩ := D
  obtain ⟨f_add_forms, fd_add_forms, G_add_forms, m_add_forms, k_add_forms, b_add_forms⟩ := GA
  obtain ⟨f_constant_form, fd_constant_form, G_constant_form, m_constant_form, k_constant_form, b_constant_form⟩ := GC
  refine ⟨f, fd, F.ok sc_total_form (fun vs H Q E h => ?_) (fun cdv A outer s H vs Q E hr h => ?_), hm, F.kp, hb⟩
  · obtain ⟨p, xs, ns, gs, rfl, _⟩ := h
    rfl
  · obtain ⟨p, xs, ns, gs, rfl, hp, hall, hns, lgs, bits, q⟩ := h
    refine ⟨_, (pss_cons (ps_set (i := 1) sc_total_form.nd rfl (Or.inl rfl) (pe_call G_constant_form (hr.mono (by omega)) rfl m_constant_form k_constant_form b_constant_form .nil pass0 (pa_cons (pe_glob (v := .ref az) rfl hz rfl) pa_nil)))
      (pss_cons (ps_for PassesOwn.never rfl (pi_list (pv 0)) (pg_name (i := 2) sc_total_form.nd rfl (Or.inl rfl))
        (pss_one (ps_set (i := 1) sc_total_form.nd rfl (Or.inl rfl) (pe_call G_add_forms (hr.mono (by omega)) rfl m_add_forms k_add_forms b_add_forms .nil pass0 (pa_cons (pv 1) (pa_cons (pv 2) pa_nil))))))
      (pss_one (ps_ret (pv 1))))), ?_⟩
    have rz : ∀ H : Hp, Dp K H (.ref az) (numD (0, 1)) := fun H => .tup (saz _) (.cons (.int 0) (.cons (.int 1) .nil))
    refine ⟨.ref az, (0, 1), rfl, ⟨_, rz _, rfl⟩, fun r1 H1 s1 f1 => ?_⟩
    have lx := hall.len
    refine ⟨_, rfl, p, rfl, ⟨_, SqL.of (s1 _ _ hp)⟩, ?_⟩
    refine for_list (K := K) (a := p) (xs := xs) (fun i σ H' => ∃ vt o2, σ = [some (.ref p), some vt, o2] ∧ Same H H' ∧ FmA K ns H' vt (((gs.take i).map (·.1)).foldl addQ (conQ 0)) (((gs.take i).map fun g => g.2 + 1).sum + 1))
      ⟨r1, none, rfl, s1, [], (0, 1), f1, FormK.nil red_zero (zero_sz (by omega)), fun x => rfl, qv_zero, Nat.le_refl _⟩ (fun i σ H' _ h => by obtain ⟨_, _, _, h, _⟩ := h; exact SqL.of (h _ _ hp)) ?_ ?_
    · rintro i x σ H2 hx ⟨vt, o2, rfl, s2, ts, c, ft, gt, eg, ec, j1⟩
      obtain ⟨g, hg, fx⟩ := hall.get hx
      obtain ⟨us, d, fu, gu, eh, ed, k1⟩ := fx.same s2
      have hsum : ((gs.take (i + 1)).map fun g => g.2 + 1).sum = ((gs.take i).map fun g => g.2 + 1).sum + (g.2 + 1) := by
        rw [take_more hg, List.map_append, List.sum_append]
        rfl
      have hle : ((gs.take (i + 1)).map fun g => g.2 + 1).sum ≤ (gs.map fun g => g.2 + 1).sum := by
        conv => rhs; rw [← List.take_append_drop (i + 1) gs, List.map_append, List.sum_append]
        omega
      refine ⟨_, rfl, _, rfl, vt, x, ns, _, _, ts, us, c, d, rfl, ft, fu, gt, gu, hns, j1, k1, by omega, fun r H3 ws s3 f3 g3 e3 => ?_⟩
      refine ⟨r, some x, rfl, s2.trans s3, ws, _, f3, g3.mono (by omega), fun y => ?_, ?_, by omega⟩
      · rw [e3, eg, eh, take_more hg, List.map_append, List.foldl_append]
        rfl
      · rw [qv_add gt.const.1 gu.const.1, ec, ed, take_more hg, List.map_append, List.foldl_append]
        rfl
    · rintro σ H2 ⟨vt, o2, rfl, s2, fm⟩
      rw [lx, List.take_length] at fm
      exact ⟨_, rfl, q _ _ s2 fm⟩
theorem ok_quotient_form {Cl Cd Cz : Addr} (Tt : Ut4 K mg) (Ti : ErrF P w K mg base "NotLinear" "position" Cl) (Tz : ErrF P w K mg base "ZeroDivisor" "position" Cd) (GD : Kn P w K mg base (L2.CX P w) "divide" 36 ["one", "other"] (spDiv K Cz))
    (GS : Kn P w K mg base CX0 "scale_form" 37 ["number", "form"] (spScaleF K)) (D : Df K mg "quotient_form" s_quotient_form ["one", "other", "position"]) :
    Kn P w K mg base (L2.CX P w) "quotient_form" 39 ["one", "other", "position"] (spQuot K Cl Cd) := by
  obtain ⟨az, hz, saz⟩ := Tt.g_zero
  obtain ⟨f, fd, F, hm, hb⟩ := D
  obtain ⟨fI, fdI, iC, tI, F1, b1⟩ := Ti.ini
  obtain ⟨fI2, fdI2, iC2, tI2, F2, b2⟩ := Tz.ini
  obtain ⟨f_scale_form, fd_scale_form, G_scale_form, m_scale_form, k_scale_form, b_scale_form⟩ := GS
  obtain ⟨f_divide, fd_divide, G_divide, m_divide, k_divide, b_divide⟩ := GD
  refine ⟨f, fd, F.okX sc_quotient_form (fun vs H Q E h => ?_) (fun cdv A outer s H vs Q E hr h => ?_), hm, F.kp, hb⟩
  · obtain ⟨v, u, p, ns, a, b, j, k, rfl, _⟩ := h
    rfl
  · obtain ⟨v, u, p, ns, a, b, j, k, rfl, fa, ⟨us, d, fu, gu, eh, ed, k1⟩, hn, hns, hjk, q, qe, qz⟩ := h
    refine ⟨_, (pss_cons (ps_asg (pv 1) (pg_tup (by rfl) (pgs_cons (pg_name (i := 3) sc_quotient_form.nd rfl (Or.inl rfl)) (pgs_cons (pg_name (i := 4) sc_quotient_form.nd rfl (Or.inl rfl)) pgs_nil))))
      (pss_cons (ps_if (pt_cmpR (op_neD hr.units) (pv 3) (pe_tup pa_nil) (nomark _)) (pss_one (ps_raise rfl (takes_of rfl rfl rfl rfl) (pmk_oex Ti.ox iC tI F1 (hr.mono (by omega)) b1 .nil pass0 rfl Ti.gC (pa_cons (pv 2) pa_nil)))) pss_nil)
      (pss_cons (ps_if (pt_cmpR (op_eqD hr.units) (pv 4) (pe_glob (v := .ref az) rfl hz rfl) (nomark _)) (pss_one (ps_raise rfl (takes_of rfl rfl rfl rfl) (pmk_oex Tz.ox iC2 tI2 F2 (hr.mono (by omega)) b2 .nil pass0 rfl Tz.gC (pa_cons (pv 2) pa_nil)))) pss_nil)
      (pss_one (ps_ret (pe_call G_scale_form (hr.mono (by omega)) rfl m_scale_form k_scale_form b_scale_form .nil pass0 (pa_cons (pe_call G_divide (hr.mono (by omega)) rfl m_divide k_divide b_divide .nil passL (pa_cons pe_int (pa_cons (pv 4) pa_nil))) (pa_cons (pv 0) pa_nil)))))))), ?_⟩
    obtain ⟨a2, p2, xs2, c2, rfl, h2, hc2, n2, t2⟩ := fu
    have rz : ∀ H : Hp, Dp K H (.ref az) (rat 0 1) := fun H => .tup (saz _) (.cons (.int 0) (.cons (.int 1) .nil))
    have ht2 : Dp K H (.ref p2) (.tuple (us.map fun t => termN t.1 t.2)) := .tup n2.sq t2
    refine ⟨_, rfl, a2, _, rfl, h2, rfl, .ref p2, _, rfl, c2, _, rfl, rfl, ?_⟩
    refine ⟨_, rfl, (by show 0 ≤ sizeLine; decide), fun p3 np3 => ?_⟩
    have s3 := same_new np3 (.tup [])
    refine ⟨_, .tuple [], dp_same s3 _ _ ht2, .tup (SqT.of upd_same) .nil, terms_shp gu hn, rfl, _, rfl, ?_⟩
    rw [terms_nil]
    refine ite2 (fun c => ?_) (fun c => ?_)
    · have nC : ¬ isC b := fun z => by rw [decide_eq_true ((isC_nil gu eh).mp z)] at c; cases c
      refine ⟨_, rfl, (by show 1 ≤ 1000; decide), fun ea na => ?_⟩
      refine ⟨ea, _, rfl, upd_same, fun xd hdx nx => ⟨rfl, xd, [("position", .int (p : Nat))], upd_same, ?_, ?_, ?_⟩⟩
      · rw [upd_ne nx, upd_same]
      · rw [upd_ne nx] at hdx
        exact hdx
      · rw [upd_ne nx] at hdx
        exact qe nC xd _ (s3.trans (raised_same na hdx nx)) upd_same
    have hC : isC b := by
      refine (isC_nil gu eh).mpr ?_
      cases z : decide (us = []) with
      | true => exact of_decide_eq_true z
      | false => exact absurd (by rw [z]; rfl) c
    refine ⟨_, rfl, _, _, dp_same s3 _ _ hc2, rz _, rfl, rfl, _, rfl, ?_⟩
    have ez : PyData.eqv (numD d) (rat 0 1) = !decide (d.1 ≠ 0) := by
      have z := zero_eqv gu.const.1
      cases h1 : PyData.eqv (numD d) (rat 0 1) <;> rw [h1] at z <;> rw [← z] <;> rfl
    rw [ez]
    refine ite2 (fun c => ?_) (fun c => ?_)
    · have h0 : d.1 = 0 := by
        rcases Decidable.em (d.1 = 0) with z | z
        · exact z
        · rw [decide_eq_true z] at c
          cases c
      refine ⟨_, rfl, (by show 1 ≤ 1000; decide), fun ea na => ?_⟩
      refine ⟨ea, _, rfl, upd_same, fun xd hdx nx => ⟨rfl, xd, [("position", .int (p : Nat))], upd_same, ?_, ?_, ?_⟩⟩
      · rw [upd_ne nx, upd_same]
      · rw [upd_ne nx] at hdx
        exact hdx
      · rw [upd_ne nx] at hdx
        exact qz hC (ed.symm.trans ((qv_top gu.const.1).mpr h0)) xd _ (s3.trans (raised_same na hdx nx)) upd_same
    have h0 : d.1 ≠ 0 := fun z => c (by rw [decide_eq_false (fun y : d.1 ≠ 0 => y z)]; rfl)
    obtain ⟨ts, e, fv, gt, eg, ec, j1⟩ := fa
    have r1 : Red ((1, 1) : Int × Int) := red_one 1
    have nb : b.2 ≠ 0 := fun z => h0 ((qv_top gu.const.1).mp (ed.trans z))
    have eq1 : qv (divz (1, 1) d) = 1 / b.2 := by rw [qv_div r1 gu.const.1 h0, qv_one, ed]
    refine ⟨_, rfl, .int 1, c2, (1, 1), d, 1, k, rfl, ⟨.int 1, .int 1, rfl⟩, ⟨_, dp_same s3 _ _ hc2, numOf_rat gu.const.1⟩, ⟨by decide, by decide⟩, gu.const.2, by omega, fun _ p1 H1 s1 hp1 => ?_, fun z => absurd z h0⟩
    refine ⟨_, rfl, .ref p1, _, ns, 1 + k, j, divz (1, 1) d, ts, e, rfl, ⟨_, dp_rat hp1, numOf_rat (div_red r1 h0)⟩, div_sz ⟨by decide, by decide⟩ gu.const.2, fv.same (s3.trans s1), gt, hns, j1, by omega, fun r H2 ws s2 f2 g2 e2 => ?_⟩
    refine q hC nb r H2 (s3.trans (s1.trans s2)) ⟨ws, _, f2, g2.mono (by omega), fun x => ?_, ?_, by omega⟩
    · rw [e2, eg, eq1]
      rfl
    · rw [qv_mul (div_red r1 h0) gt.const.1, ec, eq1]
      rfl
end

end Bs
namespace Bs
open PySem L2
/-! ### a text read as a number -/
def isD (c : Nat) : Bool := decide (48 ≤ c) && decide (c ≤ 57)
def digB (l : List Nat) : Bool := decide (l ≠ []) && allDig l
def unsg : List Nat → List Nat | 45 :: r => r | l => l
def neg1 (l : List Nat) : Bool := decide (l.head? = some 45)
def sgnd (l : List Nat) (n : Nat) : Int := if neg1 l = true then -(n : Int) else (n : Int)
def markOf (l a b : List Nat) (c : Nat) : Option (Int × Int) :=
  if c = 46 then some (nrm (sgnd l (NumText.digitsVal (a ++ b))) ((10 ^ b.length : Nat) : Int))
  else if c = 47 then (if NumText.digitsVal b = 0 then none else some (nrm (sgnd l (NumText.digitsVal a)) (NumText.digitsVal b : Nat))) else none
def readU (l u : List Nat) : Option (Int × Int) :=
  if digB u = true then some (nrm (sgnd l (NumText.digitsVal u)) 1) else
    match u.dropWhile isD with
    | c :: b => if digB (u.takeWhile isD) = true ∧ digB b = true then markOf l (u.takeWhile isD) b c else none
    | [] => none
def readL (l : List Nat) : Option (Int × Int) := readU l (unsg l)
theorem digs_iff {l : List Nat} : digB l = true ↔ l ≠ [] ∧ NumText.AllDigits l := by
  unfold digB
  rw [Bool.and_eq_true, decide_eq_true_eq, allDig_iff]
theorem isD_iff {c : Nat} : isD c = true ↔ 48 ≤ c ∧ c ≤ 57 := by
  unfold isD
  rw [Bool.and_eq_true, decide_eq_true_eq, decide_eq_true_eq]
theorem ad_isD {l : List Nat} (h : NumText.AllDigits l) {c : Nat} (hc : c ∈ l) : isD c = true := isD_iff.mpr (h c hc)
theorem tw_app : ∀ {a : List Nat} {c : Nat} {b : List Nat}, NumText.AllDigits a → isD c = false → (a ++ c :: b).takeWhile isD = a ∧ (a ++ c :: b).dropWhile isD = c :: b
  | [], c, b, _, hc => by
    rw [List.nil_append, List.takeWhile_cons, List.dropWhile_cons, hc]
    exact ⟨rfl, rfl⟩
  | x :: a, c, b, h, hc => by
    have i := tw_app (b := b) (NumText.AllDigits.tail h) hc
    have hx : isD x = true := ad_isD h (List.mem_cons_self ..)
    rw [List.cons_append, List.takeWhile_cons, List.dropWhile_cons, hx]
    exact ⟨congrArg (x :: ·) i.1, i.2⟩
theorem not_digs_mem {u : List Nat} {c : Nat} (hc : c ∈ u) (hn : isD c = false) : digB u = false := by
  rw [Bool.eq_false_iff]
  intro h
  have := ad_isD (digs_iff.mp h).2 hc
  rw [hn] at this
  cases this
theorem readU_digs {l u : List Nat} (h : digB u = true) : readU l u = some (nrm (sgnd l (NumText.digitsVal u)) 1) := by
  unfold readU
  rw [if_pos h]
theorem readU_mark {l u a b : List Nat} {c : Nat} (e : u = a ++ c :: b) (ha : NumText.AllDigits a) (hc : isD c = false) : readU l u = if digB a = true ∧ digB b = true then markOf l a b c else none := by
  have hm : c ∈ u := by rw [e]; exact List.mem_append_right _ (List.mem_cons_self ..)
  unfold readU
  rw [if_neg (by rw [not_digs_mem hm hc]; exact Bool.false_ne_true)]
  have t := tw_app (b := b) ha hc
  rw [e, t.1, t.2]
theorem span_eq : ∀ u : List Nat, u = u.takeWhile isD ++ u.dropWhile isD := fun u => List.takeWhile_append_dropWhile.symm
theorem tw_digits (u : List Nat) : NumText.AllDigits (u.takeWhile isD) := fun c hc => by
  have := List.all_takeWhile (p := isD) (l := u)
  rw [List.all_eq_true] at this
  exact isD_iff.mp (this c hc)
theorem readU_some {l u : List Nat} {z : Int × Int} (h : readU l u = some z) : digB u = true ∨ ∃ a b c, u = a ++ c :: b ∧ digB a = true ∧ digB b = true ∧ (c = 46 ∨ c = 47) := by
  unfold readU at h
  split at h
  · rename_i w
    exact .inl w
  · split at h
    · rename_i c b e
      split at h
      · rename_i w
        refine .inr ⟨u.takeWhile isD, b, c, ?_, w.1, w.2, ?_⟩
        · rw [← e]
          exact span_eq u
        · unfold markOf at h
          split at h
          · rename_i w1; exact .inl w1
          · split at h
            · rename_i w1; exact .inr w1
            · cases h
      · cases h
    · cases h
theorem split_uniq {c : Nat} : ∀ {a a' b b' : List Nat}, a ++ c :: b = a' ++ c :: b' → c ∉ a → c ∉ a' → a = a' ∧ b = b'
  | [], [], b, b', h, _, _ => ⟨rfl, (List.cons.inj h).2⟩
  | [], x :: a', b, b', h, _, h2 => absurd (by rw [(List.cons.inj h).1]; exact List.mem_cons_self ..) h2
  | x :: a, [], b, b', h, h1, _ => absurd (by rw [← (List.cons.inj h).1]; exact List.mem_cons_self ..) h1
  | x :: a, y :: a', b, b', h, h1, h2 => by
    obtain ⟨e1, e2⟩ := List.cons.inj h
    obtain ⟨r1, r2⟩ := split_uniq e2 (fun z => h1 (List.mem_cons_of_mem _ z)) (fun z => h2 (List.mem_cons_of_mem _ z))
    exact ⟨by rw [e1, r1], r2⟩
theorem not_mem_digs {a : List Nat} {c : Nat} (h : digB a = true) (hc : isD c = false) : c ∉ a := fun z => by
  have := ad_isD (digs_iff.mp h).2 z
  rw [hc] at this
  cases this
/-- another split by a mark: no reading -/
theorem readU_bad {l u a b : List Nat} {c : Nat} (e : u = a ++ c :: b) (hca : c ∉ a) (hc : c = 46 ∨ c = 47) (hb : ¬ (digB a = true ∧ digB b = true)) : readU l u = none := by
  have hcd : isD c = false := by rcases hc with rfl | rfl <;> rfl
  cases h : readU l u with
  | none => rfl
  | some z =>
    have hm : c ∈ u := by rw [e]; exact List.mem_append_right _ (List.mem_cons_self ..)
    rcases readU_some h with w | ⟨a', b', c', e', ha', hb', hc'⟩
    · rw [not_digs_mem hm hcd] at w
      cases w
    · have hcc : c = c' := by
        rw [e'] at hm
        rcases List.mem_append.mp hm with m | m
        · exact absurd m (not_mem_digs ha' hcd)
        · rcases List.mem_cons.mp m with m | m
          · exact m
          · exact absurd m (not_mem_digs hb' hcd)
      subst hcc
      obtain ⟨r1, r2⟩ := split_uniq (e.symm.trans e') hca (not_mem_digs ha' hcd)
      subst r1
      subst r2
      exact absurd ⟨ha', hb'⟩ hb
theorem readU_nomark {l u : List Nat} (h46 : 46 ∉ u) (h47 : 47 ∉ u) (hd : digB u = false) : readU l u = none := by
  cases h : readU l u with
  | none => rfl
  | some z =>
    rcases readU_some h with w | ⟨a', b', c', e', ha', hb', hc'⟩
    · rw [hd] at w
      cases w
    · have hm : c' ∈ u := by rw [e']; exact List.mem_append_right _ (List.mem_cons_self ..)
      rcases hc' with rfl | rfl
      · exact absurd hm h46
      · exact absurd hm h47
theorem startsS (l : List Nat) : Txt.startswith (SX.S l) (Str.ofString "-") = neg1 l := by
  rw [show Str.ofString "-" = SX.S [45] by decide +kernel]
  cases l with
  | nil => rfl
  | cons c r =>
    unfold Txt.startswith neg1 Builtin.Str.subAt
    rw [SX.S_len, SX.S_len]
    simp [SX.S]
    rfl
theorem prefixS (l : List Nat) : Txt.removeprefix (SX.S l) (Str.ofString "-") = SX.S (unsg l) := by
  rw [show Str.ofString "-" = SX.S [45] by decide +kernel, StrLaws.removeprefix_eq]
  cases l with
  | nil => rfl
  | cons c r =>
    have e : (decide (0 + (SX.S [45]).length ≤ (SX.S (c :: r)).length) && Builtin.Str.subAt (SX.S (c :: r)) (SX.S [45]) 0) = decide (c = 45) := by
      unfold Builtin.Str.subAt
      rw [SX.S_len, SX.S_len]
      simp [SX.S]
      rfl
    rw [e]
    by_cases h : c = 45
    · rw [if_pos (decide_eq_true h), h]
      show _ = SX.S r
      rw [SX.S_len, SX.S_len]
      simp [SX.S]
    · rw [if_neg (by simpa using h)]
      have : unsg (c :: r) = c :: r := by
        unfold unsg
        split
        · rename_i w
          exact absurd (List.cons.inj w).1 h
        · rfl
      rw [this]

structure Ut (mg : Str → Option Value) : Prop where
  n_divmod : mg "divmod" = none
  n_str : mg "str" = none
  g_unit : ∃ t, mg "GROUP_UNIT" = some (.int (10 ^ 64) t)
  g_digits : ∃ t, mg "GROUP_DIGITS" = some (.int 64 t)
/-- the decimal text of an integer -/
def intL (n : Int) : List Nat := if n < 0 then 45 :: TL.numL n.natAbs else TL.numL n.natAbs
def spIntText : Sp := fun vs H Q _ => ∃ n : Int, vs = [.int n] ∧ n.natAbs < 10 ^ 5000 ∧ ∀ H', Same H H' → Q (tx (intL n)) H'
def spAreDigits : Sp := fun vs H Q _ => ∃ l : List Nat, vs = [tx l] ∧ Q (.bl (decide (l ≠ []) && allDig l)) H
def spReadDigits : Sp := fun vs H Q _ => ∃ l : List Nat, vs = [tx l] ∧ NumText.AllDigits l ∧ l.length ≤ 5000 ∧ Q (.int (NumText.digitsVal l : Nat)) H
theorem numL_len5000 {n : Nat} (h : n < 10 ^ 5000) : (TL.numL n).length ≤ 5000 := TL.numL_len (by decide) h
theorem pow5000 : (10 : Nat) ^ 5000 < 2 ^ 17000 := by decide +kernel
/-- the groups that are written so far, the last one first -/
theorem join_nil : ∀ ys : List (List Nat), TL.joinL [] ys = ys.flatten
  | [] => rfl
  | [y] => by show y = y ++ []; rw [List.append_nil]
  | y :: z :: r => by
    show y ++ ([] ++ TL.joinL [] (z :: r)) = y ++ (z :: r).flatten
    rw [join_nil (z :: r), List.nil_append]
theorem str_neg {n : Int} (h : n < 0) : Str.ofString "-" ++ SX.S (TL.numL n.natAbs) = SX.S (intL n) := by
  rw [show Str.ofString "-" = SX.S [45] by decide +kernel, SX.S_cat]
  unfold intL
  rw [if_pos h]
  rfl
theorem str_pos {n : Int} (h : ¬ n < 0) : Str.ofString "" ++ SX.S (TL.numL n.natAbs) = SX.S (intL n) := by
  rw [show Str.ofString "" = SX.S [] by decide +kernel, SX.S_cat]
  unfold intL
  rw [if_neg h]
  rfl
theorem log_group {n : Nat} (h : n < 10 ^ 64) : ((n : Nat) : Int).natAbs.log2 < 1920 :=
  PySem.Flt.log2_lt_of (by decide) (show ((n : Nat) : Int).natAbs < 2 ^ 1920 from by rw [Int.natAbs_natCast]; exact Nat.lt_trans h (by decide +kernel))
theorem intL_len {n : Int} (h : n.natAbs < 10 ^ 5000) : (intL n).length ≤ 5001 := by
  have := numL_len5000 h
  unfold intL
  split
  · rw [List.length_cons]
    omega
  · omega
theorem zero_S : (Str.ofString "0") = SX.S [48] := by decide +kernel
theorem rgc64 {first n : Nat} (h : first + 64 * n ≤ 5000) : RgC (first : Int) ((first + 64 * n : Nat) : Int) 64 n := by
  have e : Builtin.Range.rangeSize (first : Int) ((first + 64 * n : Nat) : Int) 64 = (n : Int) := by
    unfold Builtin.Range.rangeSize
    rw [if_pos (by decide)]
    split <;> omega
  refine ⟨by decide, by decide, ?_, e⟩
  unfold Builtin.Range.small
  rw [e]
  have f : ∀ z : Int, 0 ≤ z → z ≤ 6000 → Builtin.Range.rangeFitsLong z = true := fun z h1 h2 => by
    unfold Builtin.Range.rangeFitsLong
    rw [Bool.and_eq_true, decide_eq_true_eq, decide_eq_true_eq]
    have : (6000 : Int) < 2 ^ 63 := by decide
    omega
  rw [f _ (by omega) (by omega), f _ (by omega) (by omega), f 64 (by decide) (by decide), f n (by omega) (by omega)]
  rw [if_pos (show (64 : Int) > 0 by decide)]
  rw [f _ (by omega) (by omega)]
  simp
section
variable {P : Program} {w : World} {K : PySem.W.Frag} {mg : Str → Option Value} {base : Heap}
theorem ok_are_digits (D : Df K mg "are_digits" s_are_digits ["text"]) : Kn P w K mg base CX0 "are_digits" 33 ["text"] spAreDigits := by
  obtain ⟨f, fd, F, hm, hb⟩ := D
  refine ⟨f, fd, F.ok sc_are_digits (fun vs H Q E h => ?_) (fun cdv A outer s H vs Q E hr h => ?_), hm, F.kp, hb⟩
  · obtain ⟨l, rfl, _⟩ := h
    rfl
  · obtain ⟨l, rfl, q⟩ := h
    refine ⟨_, (pss_one (ps_ret (pe_and (pe_bm0 PySem.F.plainAttrs_str PySem.F.slot_str_isascii PySem.F.type_str_isascii mt_isascii (pv 0)) (pe_one (pe_bm0 PySem.F.plainAttrs_str PySem.F.slot_str_isdigit PySem.F.type_str_isdigit mt_isdigit (pv 0)))))), ?_⟩
    rw [← both_dig] at q
    refine ⟨_, rfl, rfl, _, rfl, rfl, trivial, _, rfl, ?_⟩
    rw [asciiS]
    refine ite2 (fun c => ?_) (fun c => ?_)
    · rw [if_pos c] at q
      refine ⟨_, rfl, rfl, _, rfl, rfl, trivial, ?_⟩
      rw [digitS]
      exact q
    · rw [if_neg c] at q
      exact q
theorem ok_read_digits (T : Bt mg) (Tt : Ut mg) (D : Df K mg "read_digits" s_read_digits ["digits"]) : Kn P w K mg base CX0 "read_digits" 33 ["digits"] spReadDigits := by
  obtain ⟨t1, hunit⟩ := Tt.g_unit
  obtain ⟨t2, hdig⟩ := Tt.g_digits
  obtain ⟨f, fd, F, hm, hb⟩ := D
  refine ⟨f, fd, F.ok sc_read_digits (fun vs H Q E h => ?_) (fun cdv A outer s H vs Q E hr h => ?_), hm, F.kp, hb⟩
  · obtain ⟨l, rfl, _⟩ := h
    rfl
  · obtain ⟨l, rfl, had, hlen, q⟩ := h
    refine ⟨_, (pss_cons (ps_set (i := 1) sc_read_digits.nd rfl (Or.inl rfl) (pe_op op_mod (pe_callB call_len_str (by rfl) T.n_len (by decide +kernel) (pa_cons (pv 0) pa_nil)) (pe_glob (v := .int 64) rfl hdig ⟨_, rfl⟩)))
      (pss_cons (ps_set (i := 2) sc_read_digits.nd rfl (Or.inl rfl) (pe_callTy call_int_str (by rfl) T.n_int (by decide +kernel) (pa_cons (pe_op op_add_str pe_str (pe_slice C8.sl_txt (pv 0) po_none (po_some (pv 1)))) pa_nil)))
      (pss_cons (ps_for PassesOwn.never rfl (pi_range3 rfl T.n_range (pa_cons (pv 1) (pa_cons (pe_callB call_len_str (by rfl) T.n_len (by decide +kernel) (pa_cons (pv 0) pa_nil)) (pa_cons (pe_glob (v := .int 64) rfl hdig ⟨_, rfl⟩) pa_nil)))) (pg_name (i := 3) sc_read_digits.nd rfl (Or.inl rfl))
        (pss_one (ps_set (i := 2) sc_read_digits.nd rfl (Or.inl rfl) (pe_op op_add (pe_op op_mulW (pv 2) (pe_glob (v := .int (10 ^ 64)) rfl hunit ⟨_, rfl⟩)) (pe_callTy call_int_str (by rfl) T.n_int (by decide +kernel) (pa_cons (pe_slice C8.sl_txt (pv 0) (po_some (pv 3)) (po_some (pe_op op_add (pv 3) (pe_glob (v := .int 64) rfl hdig ⟨_, rfl⟩)))) pa_nil))))))
      (pss_one (ps_ret (pv 2)))))), ?_⟩
    have hsl : (SX.S l).length ≤ sizeLine := by rw [SX.S_len]; exact Nat.le_trans hlen (by decide)
    refine ⟨_, rfl, _, rfl, hsl, _, _, rfl, rfl, (show (0 : Int) < 64 by decide), ?_⟩
    have e0 : ∀ first : Nat, l.length % 64 = first → ((SX.S l).length : Int) % 64 = (first : Int) := fun first h => by rw [SX.S_len]; omega
    obtain ⟨first, hf⟩ : ∃ first, l.length % 64 = first := ⟨_, rfl⟩
    have e00 := e0 first hf
    have hf64 : first < 64 := by rw [← hf]; exact Nat.mod_lt _ (by decide)
    have hfl : first ≤ l.length := by rw [← hf]; exact Nat.mod_le _ _
    -- number = int('0' + digits[:first])
    have e1 : Txt.slice (SX.S l) none (some (((SX.S l).length : Int) % 64)) = SX.S (l.take first) := by rw [e00, SX.slice_to (by omega)]; rfl
    have hz : (Str.ofString "0" ++ Txt.slice (SX.S l) none (some (((SX.S l).length : Int) % 64))) = SX.S (48 :: l.take first) := by
      rw [e1, zero_S]
      exact SX.S_cat _ _
    have htl : (l.take first).length = first := by rw [List.length_take]; omega
    have hl1 : (Str.ofString "0").length + (Txt.slice (SX.S l) none (some (((SX.S l).length : Int) % 64))).length ≤ sizeLine := by
      rw [e1, zero_S, SX.S_len, SX.S_len, htl]
      exact Nat.le_trans (show [48].length + first ≤ 1000 by show 1 + first ≤ 1000; omega) (by decide)
    have had1 : NumText.AllDigits (48 :: l.take first) := fun c hc => by
      rcases List.mem_cons.mp hc with rfl | hc
      · decide
      · exact ad_take first had c hc
    have hv1 : NumText.digitsVal (48 :: l.take first) = NumText.digitsVal (l.take first) := by
      have e := dv_app [48] (l.take first)
      rw [List.singleton_append] at e
      rw [e, dv_one, Nat.sub_self, Nat.zero_mul, Nat.zero_add]
    refine ⟨_, rfl, _, rfl, _, rfl, _, rfl, hsl, _, _, rfl, rfl, hl1, _, (NumText.digitsVal (l.take first) : Int), rfl,
      (by rw [hz, intS had1 (List.cons_ne_nil _ _) (by rw [List.length_cons, htl]; omega), hv1]), (by rw [hz, SX.S_len, List.length_cons, htl]; omega), ?_⟩
    -- the groups
    obtain ⟨n, hn⟩ : ∃ n, l.length = first + 64 * n := ⟨l.length / 64, by omega⟩
    refine ⟨_, rfl, _, rfl, _, rfl, hsl, _, _, _, n, rfl, (by rw [e00, SX.S_len, hn]; exact rgc64 (by omega)), ?_⟩
    refine for_rangeC (lo := ((SX.S l).length : Int) % 64) (c := 64) (n := n) (fun i σ H' => H' = H ∧ ∃ x y, σ = [some (tx l), some x, some (.int (NumText.digitsVal (l.take (first + 64 * i)) : Nat)), y]) ⟨rfl, _, _, rfl⟩ ?_ ?_
    · rintro i σ H' hi ⟨rfl, x, y, rfl⟩
      have hi2 : first + 64 * i + 64 ≤ l.length := by omega
      have eat : ((SX.S l).length : Int) % 64 + (i : Nat) * 64 = ((first + 64 * i : Nat) : Int) := by rw [e00]; omega
      have eat2 : ((SX.S l).length : Int) % 64 + (i : Nat) * 64 + 64 = ((first + 64 * i + 64 : Nat) : Int) := by rw [eat]; omega
      have es : Txt.slice (SX.S l) (some (((SX.S l).length : Int) % 64 + (i : Nat) * 64)) (some (((SX.S l).length : Int) % 64 + (i : Nat) * 64 + 64)) = SX.S ((l.drop (first + 64 * i)).take 64) := by
        rw [eat2, eat, sliceFromTo (by omega) hi2, Nat.add_sub_cancel_left]
      have hgl : ((l.drop (first + 64 * i)).take 64).length = 64 := by
        rw [List.length_take, List.length_drop]
        omega
      have hgd : NumText.AllDigits ((l.drop (first + 64 * i)).take 64) := ad_take 64 (ad_drop _ had)
      have hne : (l.drop (first + 64 * i)).take 64 ≠ [] := fun z => by
        rw [z] at hgl
        cases hgl
      have hnow : NumText.digitsVal (l.take (first + 64 * i)) < 10 ^ 5000 := by
        refine Nat.lt_of_lt_of_le (dv_lt _ (ad_take _ had)) (Nat.pow_le_pow_right (by decide) ?_)
        rw [List.length_take]
        omega
      refine ⟨_, rfl, _, _, rfl, rfl, wide_mul (a := 17000) (b := 220) (by rw [Int.natAbs_natCast]; exact Nat.lt_trans hnow pow5000) (by decide) (by decide) (by decide) (by decide), ?_⟩
      refine ⟨_, rfl, _, rfl, _, rfl, _, rfl, _, _, rfl, rfl, _, rfl, _, rfl, hsl, _, (NumText.digitsVal ((l.drop (first + 64 * i)).take 64) : Int), rfl, (by rw [es]; exact intS hgd hne (by rw [hgl]; decide)), (by rw [es, SX.S_len, hgl]; decide), _, _, rfl, rfl, rfl, ?_⟩
      refine ⟨_, _, congrArg (fun z => [some (tx l), some _, some (V.int z), some _]) ?_⟩
      have et : l.take (first + 64 * (i + 1)) = l.take (first + 64 * i) ++ (l.drop (first + 64 * i)).take 64 := by
        rw [show first + 64 * (i + 1) = (first + 64 * i) + 64 by omega, List.take_add]
      rw [et, dv_app, hgl]
      rw [Int.natCast_add, Int.natCast_mul]
      rfl
    · rintro σ H' ⟨rfl, x, y, rfl⟩
      refine ⟨_, rfl, ?_⟩
      rw [← hn, List.take_length]
      exact q

end

def repL (n : Nat) (a : List Nat) : List Nat := (List.replicate n a).flatten
theorem fold_cat : ∀ (n : Nat) (a : List Nat) (z : Array Nat), ((List.replicate n (SX.S a).cps).foldl (· ++ ·) z).toList = z.toList ++ repL n a
  | 0, a, z => by
    show z.toList = z.toList ++ []
    rw [List.append_nil]
  | n + 1, a, z => by
    show ((List.replicate n (SX.S a).cps).foldl (· ++ ·) (z ++ (SX.S a).cps)).toList = _
    rw [fold_cat n a, Array.toList_append]
    show z.toList ++ a ++ repL n a = z.toList ++ (a ++ repL n a)
    rw [List.append_assoc]
theorem mulS (a : List Nat) (n : Nat) : Txt.mul (SX.S a) (n : Int) = SX.S (repL n a) := by
  unfold Txt.mul
  split
  · rename_i h
    have : n = 0 := by omega
    subst this
    rfl
  · split
    · rename_i h h2
      rw [Bool.or_eq_true, beq_iff_eq, beq_iff_eq, SX.S_len] at h2
      rcases h2 with h2 | h2
      · have : n = 1 := by omega
        subst this
        show SX.S a = SX.S (a ++ [])
        rw [List.append_nil]
      · have : a = [] := List.length_eq_zero_iff.mp h2
        subst this
        have : repL n [] = [] := by
          unfold repL
          induction n with
          | zero => rfl
          | succ n ih =>
            rw [List.replicate_succ, List.flatten_cons, List.nil_append]
            cases n with
            | zero => rfl
            | succ n => exact ih (by omega)
        rw [this]
    · apply TL.ext_tl
      show ((List.replicate ((n : Int)).toNat (SX.S a).cps).foldl (· ++ ·) #[]).toList = repL n a
      rw [Int.toNat_natCast, fold_cat]
      rfl
theorem op_mul_strI {X : Cx} : OpR X (binaryOp .Mult) (fun x y H Q => ∃ (a : List Nat) (n : Nat), x = tx a ∧ y = .int (n : Int) ∧ n ≤ 10000 ∧ a.length ≤ 1000 ∧ Q (tx (repL n a)) H) := by
  intro pins s σ H x y v u Q I rx ry h
  obtain ⟨a, n, rfl, rfl, h1, h2, q⟩ := h
  obtain ⟨t, rfl⟩ := rx
  obtain ⟨t', rfl⟩ := ry
  have p63 : (2 : Int) ^ 63 = 9223372036854775808 := by decide
  refine PySem.SB.mul ⟨?_, fun h3 _ => ?_, fun _ _ => ?_⟩ fun t' k => ?_
  · rw [p63, decide_eq_false (by omega), decide_eq_false (by omega)]
    rfl
  · rw [SX.S_len, p63]
    have h4 : (9223372036854775808 - 1) / (n : Int) ≥ 922337203685477 := by
      rw [ge_iff_le, Int.le_ediv_iff_mul_le (by omega)]
      omega
    omega
  · rw [SX.S_len, Int.toNat_natCast]
    unfold Builtin.Str.tooLong
    rw [decide_eq_false]
    have : a.length * n ≤ 1000 * 10000 := Nat.mul_le_mul h2 h1
    exact Nat.not_lt.mpr (Nat.le_trans this (by decide))
  · rw [mulS]
    exact ⟨.str _, H, I.tok _, ⟨_, rfl⟩, q⟩
theorem rep_zero (n : Nat) (c : Nat) : repL n [c] = List.replicate n c := by
  unfold repL
  induction n with
  | zero => rfl
  | succ n ih => rw [List.replicate_succ, List.flatten_cons, ih, List.replicate_succ]; rfl
theorem dv_zeros : ∀ n : Nat, NumText.digitsVal (List.replicate n 48) = 0
  | 0 => rfl
  | n + 1 => by
    have e := dv_app [48] (List.replicate n 48)
    rw [List.singleton_append] at e
    rw [List.replicate_succ, e, dv_zeros n, dv_one]
    simp
theorem dv_pow (n : Nat) : NumText.digitsVal (49 :: repL n [48]) = 10 ^ n := by
  have e := dv_app [49] (repL n [48])
  rw [List.singleton_append] at e
  rw [e, dv_one, rep_zero, dv_zeros, List.length_replicate]
  omega
theorem pow10_2000 {k : Nat} (h : k ≤ 2000) : 10 ^ k < 2 ^ 8000 := Nat.lt_of_le_of_lt (Nat.pow_le_pow_right (by decide) h) (by decide +kernel)
theorem log_gcd {t m : Nat} (h : m ≠ 0) (hB : m < 2 ^ 8000) : (Nat.gcd t m).log2 < 9000 := by
  have h1 : Nat.gcd t m ≤ m := Nat.le_of_dvd (by omega) (Nat.gcd_dvd_right t m)
  have h2 := PySem.Flt.log2_lt_of (n := Nat.gcd t m) (by decide) (show Nat.gcd t m < 2 ^ 8000 from Nat.lt_of_le_of_lt h1 hB)
  exact Nat.lt_trans h2 (by decide)
/-- a product, a quotient that needs no common divisor -/
theorem nt_one {t m : Int} (h : 0 < m) (g : Int.gcd t m = 1) : nt t m = t := by
  unfold nt
  rw [if_neg (by omega), g]
  exact Int.ediv_one t
theorem nb_one {t m : Int} (h : 0 < m) (g : Int.gcd t m = 1) : nb t m = m := by
  unfold nb
  rw [g]
  show (m.natAbs : Int) / 1 = m
  rw [Int.ediv_one]
  omega
def ratL (z : Int × Int) : List Nat := if z.2 = 1 then intL z.1 else intL z.1 ++ 47 :: intL z.2
def spRatText (K : PySem.W.Frag) : Sp := fun vs H Q _ => ∃ (x : V) (z : Int × Int), vs = [x] ∧ Nv K H x z ∧ z.1.natAbs < 10 ^ 5000 ∧ z.2.natAbs < 10 ^ 5000 ∧ ∀ H', Same H H' → Q (tx (ratL z)) H'
/-- what is asked of a text, so that its number is read: few digits, or no great common divisor -/
def Rok (l : List Nat) : Prop := l.length ≤ 4990
def spReadRat (C : Addr) : Sp := fun vs H Q E => ∃ l : List Nat, vs = [tx l] ∧ Rok l ∧ (∀ z p H', readL l = some z → Same H H' → H' p = some (.tup [.int z.1, .int z.2]) → Q (.ref p) H') ∧
  (readL l = none → ∀ dx H', Same H H' → H' dx = some (.xd [("text", tx l)]) → E (.ref C) (some dx) H')
section
variable {P : Program} {w : World} {K : PySem.W.Frag} {mg : Str → Option Value} {base : Heap}
theorem ok_errinitT {x : Str} {C f : Addr} {fd : FuncData} (F : Fun K "__init__" x s_InvalidText_init f fd) (ox : OexC K C) (no : PySem.W.findIn K (.ref C) "text" = some none) : FnOk P w K mg base CX0 1 f fd ["self", "text"] (spErrInit C "text") := by
  refine F.ok sc_InvalidText_init (fun vs H Q E h => ?_) (fun cdv A outer s H vs Q E hr h => ?_)
  · obtain ⟨e, v, rfl, _⟩ := h
    rfl
  · obtain ⟨e, v, rfl, he, q⟩ := h
    refine ⟨_, pss_one (ps_ost (pv 0) (pv 1)), ?_⟩
    exact ⟨_, rfl, _, rfl, e, C, rfl, ox, no, .inl ⟨he, fun dx h1 h2 => q dx h1 h2⟩⟩
theorem ok_read_ratio {C Cz : Addr} (T : Bt mg) (Ti : ErrF P w K mg base "InvalidText" "text" C) (GD : Kn P w K mg base CX0 "are_digits" 33 ["text"] spAreDigits) (GN : Kn P w K mg base CX0 "read_digits" 33 ["digits"] spReadDigits)
    (GR : Kn1 P w K mg base (L2.CX P w) "ratio" 33 ["top", "bottom"] (spRatio Cz)) (D : Df K mg "read_ratio" s_read_ratio ["text"]) :
    Kn P w K mg base (L2.CX P w) "read_ratio" 35 ["text"] (spReadRat C) := by
  obtain ⟨f, fd, F, hm, hb⟩ := D
  obtain ⟨f_are_digits, fd_are_digits, G_are_digits, m_are_digits, k_are_digits, b_are_digits⟩ := GD
  obtain ⟨f_read_digits, fd_read_digits, G_read_digits, m_read_digits, k_read_digits, b_read_digits⟩ := GN
  obtain ⟨f_ratio, fd_ratio, G_ratio, m_ratio, k_ratio, b_ratio, _⟩ := GR
  obtain ⟨fI, fdI, iC, tI, F1, b1⟩ := Ti.ini
  refine ⟨f, fd, F.okX sc_read_ratio (fun vs H Q E h => ?_) (fun cdv A outer s H vs Q E hr h => ?_), hm, F.kp, hb⟩
  · obtain ⟨l, rfl, _⟩ := h
    rfl
  · obtain ⟨l, rfl, hlen, q, qe⟩ := h
    have hlen : l.length ≤ 4990 := hlen
    refine ⟨_, (pss_cons (ps_set (i := 1) sc_read_ratio.nd rfl (Or.inl rfl) (pe_bm PySem.F.plainAttrs_str PySem.F.slot_str_removeprefix PySem.F.type_str_removeprefix mt_removeprefix (pv 0) (pa_cons pe_str pa_nil)))
      (C8.pss_cut (ps_set (i := 2) sc_read_ratio.nd rfl (Or.inl rfl) (pe_ifExp (pt_cmpR op_in_str pe_str (pv 1) (by rfl)) pe_str pe_str))
      (pss_cons (ps_asg (pe_bm PySem.F.plainAttrs_str PySem.F.slot_str_partition PySem.F.type_str_partition mt_partition (pv 1) (pa_cons (pv 2) pa_nil)) (pg_tup (by rfl) (pgs_cons (pg_name (i := 3) sc_read_ratio.nd rfl (Or.inl rfl)) (pgs_cons (pg_name (i := 4) sc_read_ratio.nd rfl (Or.inl rfl)) (pgs_cons (pg_name (i := 5) sc_read_ratio.nd rfl (Or.inl rfl)) pgs_nil)))))
      (pss_cons (ps_if (PW.pt (pw_or (pt_not (pt_val (pe_call G_are_digits (hr.mono (by omega)) rfl m_are_digits k_are_digits b_are_digits .nil pass0 (pa_cons (pv 3) pa_nil)))) (pw_or1 (PW.pt (pw_and (pt_cmpR op_ne (pv 4) pe_str (nomark _)) (pw_and1 (pt_not (pt_val (pe_call G_are_digits (hr.mono (by omega)) rfl m_are_digits k_are_digits b_are_digits .nil pass0 (pa_cons (pv 5) pa_nil)))))))))) (pss_one (ps_raise rfl (takes_of rfl rfl rfl rfl) (pmk_oex Ti.ox iC tI F1 (hr.mono (by omega)) b1 .nil pass0 rfl Ti.gC (pa_cons (pv 0) pa_nil)))) pss_nil)
      (C8.pss_cut (ps_if (pt_cmpR op_eq (pv 4) pe_str (nomark _)) (pss_one (ps_par (i := 6) (j := 7) (by rfl) sc_read_ratio.nd rfl rfl (by decide) rfl rfl (pa_cons (pe_call G_read_digits (hr.mono (by omega)) rfl m_read_digits k_read_digits b_read_digits .nil pass0 (pa_cons (pv 3) pa_nil)) (pa_cons (pe_call G_read_digits (hr.mono (by omega)) rfl m_read_digits k_read_digits b_read_digits .nil pass0 (pa_cons (pv 5) pa_nil)) pa_nil)) (by rfl))) (pss_one (ps_par (i := 6) (j := 7) (by rfl) sc_read_ratio.nd rfl rfl (by decide) rfl rfl (pa_cons (pe_call G_read_digits (hr.mono (by omega)) rfl m_read_digits k_read_digits b_read_digits .nil pass0 (pa_cons (pe_op op_add_str (pv 3) (pv 5)) pa_nil)) (pa_cons (pe_call G_read_digits (hr.mono (by omega)) rfl m_read_digits k_read_digits b_read_digits .nil pass0 (pa_cons (pe_op op_add_str pe_str (pe_op op_mul_strI pe_str (pe_callB call_len_str (by rfl) T.n_len (by decide +kernel) (pa_cons (pv 5) pa_nil)))) pa_nil)) pa_nil)) (by rfl))))
      (pss_cons (ps_if (pt_cmpR op_eq (pv 7) pe_int (nomark _)) (pss_one (ps_raise rfl (takes_of rfl rfl rfl rfl) (pmk_oex Ti.ox iC tI F1 (hr.mono (by omega)) b1 .nil pass0 rfl Ti.gC (pa_cons (pv 0) pa_nil)))) pss_nil)
      (pss_one (ps_ret (pe_call G_ratio (hr.mono (by omega)) rfl m_ratio k_ratio b_ratio .nil (passes_call (takes_of rfl rfl rfl rfl) (fun _ _ _ _ h => h)) (pa_cons (pe_ifExp (pt_val (pe_bm PySem.F.plainAttrs_str PySem.F.slot_str_startswith PySem.F.type_str_startswith mt_startswith (pv 0) (pa_cons pe_str pa_nil))) (pe_un un_neg (pv 6)) (pv 6)) (pa_cons (pv 7) pa_nil))))))))))), ?_⟩
    have hul : (unsg l).length ≤ l.length := by
      unfold unsg
      split
      · exact Nat.le_succ _
      · exact Nat.le_refl _
    have fit : ∀ {n : Nat}, n ≤ 5000 → n ≤ sizeLine := fun h => Nat.le_trans h (by decide)
    refine ⟨_, rfl, rfl, _, _, rfl, rfl, (by rw [SX.S_len]; exact fit (by omega)), ?_⟩
    have slash : Str.ofString "/" = SX.S [47] := by decide +kernel
    have dot : Str.ofString "." = SX.S [46] := by decide +kernel
    have emp : Str.ofString "" = SX.S [] := by decide +kernel
    obtain ⟨u, hu⟩ : ∃ u, unsg l = u := ⟨_, rfl⟩
    have hpre : Txt.removeprefix (SX.S l) (Str.ofString "-") = SX.S u := by rw [← hu]; exact prefixS l
    rw [hu] at hul
    have hread : readL l = readU l u := by unfold readL; rw [hu]
    refine ⟨fun σ H2 => H = H2 ∧ ∃ (us ms : Str) (c : Nat), σ = [some (tx l), some (.str us), some (.str ms), none, none, none, none, none] ∧ us = SX.S u ∧ ms = SX.S [c] ∧ ((c = 47 ∧ 47 ∈ u) ∨ (c = 46 ∧ 47 ∉ u)), ?_, ?_⟩
    · refine ⟨_, rfl, _, _, rfl, rfl, _, rfl, ?_⟩
      have ein : (!(Builtin.Str.occurrences (Txt.removeprefix (SX.S l) (Str.ofString "-")) (Str.ofString "/") 0 (Txt.removeprefix (SX.S l) (Str.ofString "-")).length 1).isEmpty) = decide (47 ∈ u) := by
        rw [hpre, slash]
        exact SX.in_one u 47
      refine ite2 (fun c => ?_) (fun c => ?_)
      · have c1 := ein.symm.trans c
        exact ⟨rfl, _, _, 47, rfl, hpre, slash, .inl ⟨rfl, of_decide_eq_true c1⟩⟩
      · have c1 := ein.symm.trans (Bool.eq_false_iff.mpr c)
        exact ⟨rfl, _, _, 46, rfl, hpre, dot, .inr ⟨rfl, of_decide_eq_false c1⟩⟩
    · rintro σ H2 ⟨rfl, us, ms, c, rfl, rfl, rfl, hc⟩
      have c46 : c = 46 ∨ c = 47 := by rcases hc with h | h; exact .inr h.1; exact .inl h.1
      have cD : isD c = false := by rcases c46 with rfl | rfl <;> rfl
      have hpart : ∃ a fo b, Txt.partition (SX.S u) (SX.S [c]) = (SX.S a, SX.S fo, SX.S b) ∧ ((fo = [c] ∧ u = a ++ c :: b ∧ c ∉ a) ∨ (fo = [] ∧ a = u ∧ b = [] ∧ c ∉ u)) := by
        by_cases hm : c ∈ u
        · obtain ⟨a, b, e, hn⟩ := List.eq_append_cons_of_mem hm
          refine ⟨a, [c], b, SX.partition_some (List.cons_ne_nil _ _) ?_, .inl ⟨rfl, e, hn⟩⟩
          rw [e]
          exact SX.par_head (sep := []) b hn
        · exact ⟨u, [], [], SX.partition_none (List.cons_ne_nil _ _) (SX.par_head_none (sep := []) hm), .inr ⟨rfl, rfl, rfl, hm⟩⟩
      obtain ⟨a, fo, b, hP, hcase⟩ := hpart
      refine ⟨_, rfl, rfl, _, rfl, _, _, rfl, rfl, (by rw [SX.S_len]; rfl), (by rw [SX.S_len]; exact fit (by omega)), ?_⟩
      rw [hP]
      intro p np
      have s1 := same_new np (.tup [V.str (SX.S a), V.str (SX.S fo), V.str (SX.S b)])
      refine ⟨_, _, rfl, SqT.of upd_same, rfl, ?_⟩
      refine ⟨_, _, rfl, _, _, rfl, _, _, rfl, rfl, ?_⟩
      refine ⟨_, rfl, a, rfl, _, rfl, ?_⟩
      have hal : a.length ≤ u.length := by
        rcases hcase with ⟨_, e, _⟩ | ⟨_, e, _⟩
        · rw [e, List.length_append]; omega
        · rw [e]; exact Nat.le_refl _
      have hbl : a.length + b.length ≤ u.length := by
        rcases hcase with ⟨_, e, _⟩ | ⟨_, e, e2, _⟩
        · rw [e, List.length_append, List.length_cons]; omega
        · rw [e, e2]; exact Nat.le_refl _
      refine ite2 (fun c1 => ?_) (fun c1 => ?_)
      · have hna : digB a = false := by
          have z : (!digB a) = true := c1
          rw [Bool.not_eq_true'] at z
          exact z
        have hno : readL l = none := by
          rw [hread]
          rcases hcase with ⟨_, e, hn⟩ | ⟨_, e, _, hn⟩
          · exact readU_bad e hn c46 (fun z => by rw [hna] at z; exact absurd z.1 Bool.false_ne_true)
          · rw [e] at hna
            have h47 : 47 ∉ u := by rcases hc with h | h; rw [h.1] at hn; exact hn; exact h.2
            have h46 : 46 ∉ u := by rcases hc with h | h; rw [h.1] at hn; exact absurd h.2 hn; rw [h.1] at hn; exact hn
            exact readU_nomark h46 h47 hna
        refine ⟨_, rfl, (by show 1 ≤ 1000; decide), fun ea na => ?_⟩
        refine ⟨ea, _, rfl, upd_same, fun dx hdx nx => ⟨rfl, dx, [("text", tx l)], upd_same, ?_, ?_, ?_⟩⟩
        · rw [upd_ne nx, upd_same]
        · rw [upd_ne nx] at hdx
          exact hdx
        · rw [upd_ne nx] at hdx
          refine qe hno dx _ (s1.trans fun b o hbo => ?_) upd_same
          have n1 : b ≠ ea := ne_of_none hbo na
          have n2 : b ≠ dx := ne_of_none hbo hdx
          rw [upd_ne n2, del_ne n1, upd_ne n1, upd_ne n2, upd_ne n1]
          exact hbo
      · have hda : digB a = true := by
          cases z : digB a with
          | true => rfl
          | false => exact absurd (show (!digB a) = true by rw [z]; rfl) c1
        have ada := (digs_iff.mp hda).2
        have one : Str.ofString "1" = SX.S [49] := by decide +kernel
        have la : a.length ≤ 5000 := by omega
        have lb : b.length ≤ 5000 := by omega
        have elseP : ∀ (db : NumText.AllDigits b) (lb2 : (a ++ b).length ≤ 4990), NumText.AllDigits (a ++ b) ∧ (a ++ b).length ≤ 5000 ∧ NumText.AllDigits (49 :: repL b.length [48]) ∧ (49 :: repL b.length [48]).length ≤ 5000 := fun db lb2 => by
          refine ⟨ad_app.mpr ⟨ada, db⟩, by omega, ?_, ?_⟩
          · intro x hx
            rcases List.mem_cons.mp hx with rfl | hx
            · decide
            · rw [rep_zero] at hx
              rw [(List.mem_replicate.mp hx).2]
              decide
          · rw [List.length_append] at lb2
            rw [List.length_cons, rep_zero, List.length_replicate]
            omega
        rcases hcase with ⟨rfl, e, hn⟩ | ⟨rfl, e, rfl, hn⟩
        · refine ⟨_, rfl, rfl, _, rfl, ?_⟩
          refine ite2 (fun c2 => ?_) (fun c2 => ?_)
          · refine ⟨_, rfl, b, rfl, _, rfl, ?_⟩
            refine ite2 (fun c3 => ?_) (fun c3 => ?_)
            · have hnb : digB b = false := by
                have z : (!digB b) = true := c3
                rw [Bool.not_eq_true'] at z
                exact z
              have hno : readL l = none := by
                rw [hread]
                exact readU_bad e hn c46 (fun z => by rw [hnb] at z; exact absurd z.2 Bool.false_ne_true)
              refine ⟨_, rfl, (by show 1 ≤ 1000; decide), fun ea na => ?_⟩
              refine ⟨ea, _, rfl, upd_same, fun dx hdx nx => ⟨rfl, dx, [("text", tx l)], upd_same, ?_, ?_, ?_⟩⟩
              · rw [upd_ne nx, upd_same]
              · rw [upd_ne nx] at hdx
                exact hdx
              · rw [upd_ne nx] at hdx
                refine qe hno dx _ (s1.trans fun b o hbo => ?_) upd_same
                have n1 : b ≠ ea := ne_of_none hbo na
                have n2 : b ≠ dx := ne_of_none hbo hdx
                rw [upd_ne n2, del_ne n1, upd_ne n1, upd_ne n2, upd_ne n1]
                exact hbo
            · have hdb : digB b = true := by
                cases z : digB b with
                | true => rfl
                | false => exact absurd (show (!digB b) = true by rw [z]; rfl) c3
              have adb := (digs_iff.mp hdb).2
              have hrd := readU_mark (l := l) e ada cD
              rw [if_pos ⟨hda, hdb⟩] at hrd
              refine ⟨fun σ H2 => H2 = upd H p (.tup [V.str (SX.S a), V.str (SX.S [c]), V.str (SX.S b)]) ∧ ∃ (x1 x2 x3 x4 x5 : Option V) (t m : Nat), σ = [some (tx l), x1, x2, x3, x4, x5, some (.int (t : Int)), some (.int (m : Int))] ∧ readL l = (if m = 0 then none else some (nrm (sgnd l t) (m : Int))), ?_, ?_⟩
              · refine ⟨_, rfl, rfl, _, rfl, ?_⟩
                refine ite2 (fun c4 => ?_) (fun c4 => ?_)
                · have ec : c = 47 := by
                    have z := of_decide_eq_true c4
                    injection z with z
                    rw [slash] at z
                    exact (List.cons.inj (SX.S_inj z)).1
                  subst ec
                  refine ⟨_, rfl, a, rfl, ada, la, _, rfl, b, rfl, adb, lb, _, _, rfl, rfl, _, _, _, _, _, _, _, rfl, ?_⟩
                  rw [hread, hrd]
                  rfl
                · have ec : c = 46 := by
                    rcases c46 with h | h
                    · exact h
                    · rw [h, slash] at c4
                      exact absurd (decide_eq_true rfl) c4
                  subst ec
                  have lb2 : (a ++ b).length ≤ 4990 := by
                    have z := congrArg List.length e
                    rw [List.length_append, List.length_cons] at z
                    rw [List.length_append]
                    omega
                  obtain ⟨g1, g2, g3, g4⟩ := elseP adb lb2
                  refine ⟨_, rfl, _, rfl, _, _, rfl, rfl, (by rw [SX.S_len, SX.S_len]; exact fit (by omega)), a ++ b, (by rw [SX.S_cat]; rfl), g1, g2, _, rfl, _, rfl, (by rw [SX.S_len]; exact fit (by omega)), [48], List.length b, (congrArg V.str zero_S), (by rw [SX.S_len]), (by omega), (by decide), _, _, rfl, rfl, ?_, 49 :: repL (List.length b) [48], (by rw [one, SX.S_cat]; rfl), g3, g4, _, _, rfl, rfl, _, _, _, _, _, _, _, rfl, ?_⟩
                  · rw [one, SX.S_len, SX.S_len, rep_zero, List.length_replicate]
                    exact fit (show 1 + _ ≤ 5000 by omega)
                  · rw [dv_pow, if_neg (Nat.ne_of_gt (Nat.pow_pos (by decide))), hread, hrd]
                    rfl
              · rintro σ H2 ⟨rfl, x1, x2, x3, x4, x5, t, m, rfl, hrl⟩
                refine ⟨_, rfl, rfl, _, rfl, ?_⟩
                refine ite2 (fun c5 => ?_) (fun c5 => ?_)
                · have m0 : m = 0 := by
                    have z := of_decide_eq_true c5
                    injection z with z
                    omega
                  have hno : readL l = none := by rw [hrl, if_pos m0]
                  refine ⟨_, rfl, (by show 1 ≤ 1000; decide), fun ea na => ?_⟩
                  refine ⟨ea, _, rfl, upd_same, fun dx hdx nx => ⟨rfl, dx, [("text", tx l)], upd_same, ?_, ?_, ?_⟩⟩
                  · rw [upd_ne nx, upd_same]
                  · rw [upd_ne nx] at hdx
                    exact hdx
                  · rw [upd_ne nx] at hdx
                    refine qe hno dx _ (s1.trans fun b o hbo => ?_) upd_same
                    have n1 : b ≠ ea := ne_of_none hbo na
                    have n2 : b ≠ dx := ne_of_none hbo hdx
                    rw [upd_ne n2, del_ne n1, upd_ne n1, upd_ne n2, upd_ne n1]
                    exact hbo
                · have m0 : m ≠ 0 := fun z => c5 (by rw [z]; rfl)
                  rw [if_neg m0] at hrl
                  refine ⟨_, rfl, rfl, _, _, rfl, rfl, _, rfl, ?_⟩
                  have es := startsS l
                  refine ite2 (fun c6 => ?_) (fun c6 => ?_)
                  · have en : sgnd l t = -(t : Int) := if_pos (es.symm.trans c6)
                    rw [en] at hrl
                    refine ⟨_, rfl, _, rfl, _, rfl, _, _, rfl, fun _ p2 H3 s3 h3 => ?_, fun z => absurd z (by omega)⟩
                    exact q _ p2 H3 hrl (s1.trans s3) h3
                  · have en : sgnd l t = (t : Int) := if_neg (fun z => c6 (es.trans z))
                    rw [en] at hrl
                    refine ⟨_, rfl, _, rfl, _, _, rfl, fun _ p2 H3 s3 h3 => ?_, fun z => absurd z (by omega)⟩
                    exact q _ p2 H3 hrl (s1.trans s3) h3
          · exfalso
            refine c2 ?_
            rw [Bool.not_eq_true', decide_eq_false_iff_not, emp]
            intro z
            injection z with z
            exact absurd (SX.S_inj z) (List.cons_ne_nil _ _)
        · refine ⟨_, rfl, rfl, _, rfl, ?_⟩
          refine ite2 (fun c2 => ?_) (fun _ => ?_)
          · exfalso
            rw [Bool.not_eq_true', decide_eq_false_iff_not, emp] at c2
            exact c2 rfl
          · have hdu : digB u = true := by rw [← e]; exact hda
            refine ⟨fun σ H2 => H2 = upd H p (.tup [V.str (SX.S a), V.str (SX.S []), V.str (SX.S [])]) ∧ ∃ (x1 x2 x3 x4 x5 : Option V) (t m : Nat), σ = [some (tx l), x1, x2, x3, x4, x5, some (.int (t : Int)), some (.int (m : Int))] ∧ readL l = (if m = 0 then none else some (nrm (sgnd l t) (m : Int))), ?_, ?_⟩
            · refine ⟨_, rfl, rfl, _, rfl, ?_⟩
              refine ite2 (fun c4 => ?_) (fun c4 => ?_)
              · exfalso
                have z := of_decide_eq_true c4
                injection z with z
                rw [slash] at z
                exact absurd (SX.S_inj z).symm (List.cons_ne_nil _ _)
              · have lb2 : (a ++ ([] : List Nat)).length ≤ 4990 := by
                  rw [List.append_nil]
                  omega
                have adb : NumText.AllDigits [] := fun x hx => by cases hx
                obtain ⟨g1, g2, g3, g4⟩ := elseP adb lb2
                refine ⟨_, rfl, _, rfl, _, _, rfl, rfl, (by rw [SX.S_len, SX.S_len]; exact fit (by omega)), a ++ ([] : List Nat), (by rw [SX.S_cat]; rfl), g1, g2, _, rfl, _, rfl, (by rw [SX.S_len]; exact fit (by omega)), [48], List.length ([] : List Nat), (congrArg V.str zero_S), (by rw [SX.S_len]), (by omega), (by decide), _, _, rfl, rfl, ?_, 49 :: repL (List.length ([] : List Nat)) [48], (by rw [one, SX.S_cat]; rfl), g3, g4, _, _, rfl, rfl, _, _, _, _, _, _, _, rfl, ?_⟩
                · rw [one, SX.S_len, SX.S_len, rep_zero, List.length_replicate]
                  exact fit (show 1 + _ ≤ 5000 by omega)
                · rw [dv_pow, if_neg (Nat.ne_of_gt (Nat.pow_pos (by decide))), hread, readU_digs hdu, List.append_nil, e]
                  rfl
            · rintro σ H2 ⟨rfl, x1, x2, x3, x4, x5, t, m, rfl, hrl⟩
              refine ⟨_, rfl, rfl, _, rfl, ?_⟩
              refine ite2 (fun c5 => ?_) (fun c5 => ?_)
              · have m0 : m = 0 := by
                  have z := of_decide_eq_true c5
                  injection z with z
                  omega
                have hno : readL l = none := by rw [hrl, if_pos m0]
                refine ⟨_, rfl, (by show 1 ≤ 1000; decide), fun ea na => ?_⟩
                refine ⟨ea, _, rfl, upd_same, fun dx hdx nx => ⟨rfl, dx, [("text", tx l)], upd_same, ?_, ?_, ?_⟩⟩
                · rw [upd_ne nx, upd_same]
                · rw [upd_ne nx] at hdx
                  exact hdx
                · rw [upd_ne nx] at hdx
                  refine qe hno dx _ (s1.trans fun b o hbo => ?_) upd_same
                  have n1 : b ≠ ea := ne_of_none hbo na
                  have n2 : b ≠ dx := ne_of_none hbo hdx
                  rw [upd_ne n2, del_ne n1, upd_ne n1, upd_ne n2, upd_ne n1]
                  exact hbo
              · have m0 : m ≠ 0 := fun z => c5 (by rw [z]; rfl)
                rw [if_neg m0] at hrl
                refine ⟨_, rfl, rfl, _, _, rfl, rfl, _, rfl, ?_⟩
                have es := startsS l
                refine ite2 (fun c6 => ?_) (fun c6 => ?_)
                · have en : sgnd l t = -(t : Int) := if_pos (es.symm.trans c6)
                  rw [en] at hrl
                  refine ⟨_, rfl, _, rfl, _, rfl, _, _, rfl, fun _ p2 H3 s3 h3 => ?_, fun z => absurd z (by omega)⟩
                  exact q _ p2 H3 hrl (s1.trans s3) h3
                · have en : sgnd l t = (t : Int) := if_neg (fun z => c6 (es.trans z))
                  rw [en] at hrl
                  refine ⟨_, rfl, _, rfl, _, _, rfl, fun _ p2 H3 s3 h3 => ?_, fun z => absurd z (by omega)⟩
                  exact q _ p2 H3 hrl (s1.trans s3) h3
end

end Bs
namespace Bs
open PySem L2
/-! ### one step over forms -/
def nth0 (l : List Fq) (i : Nat) : Fq := l.getD i (conQ 0)
def digW (w : List Nat) : Prop := ∃ c, w.head? = some c ∧ c ∈ digs
open Classical in
noncomputable def perfW (w : List Nat) (p : Nat) (l : List Fq) : Except (Bool × Nat) Fq :=
  if w = oppW then .ok (sclQ (-1) (nth0 l 0))
  else if w = [45] then .ok (addQ (nth0 l 0) (sclQ (-1) (nth0 l 1)))
  else if w = [42] then (if isC (nth0 l 0) then .ok (sclQ (nth0 l 0).2 (nth0 l 1)) else if isC (nth0 l 1) then .ok (sclQ (nth0 l 1).2 (nth0 l 0)) else .error (true, p))
  else if w = [47] then (if ¬ isC (nth0 l 1) then .error (true, p) else if (nth0 l 1).2 = 0 then .error (false, p) else .ok (sclQ (1 / (nth0 l 1).2) (nth0 l 0)))
  else if w = [43] ∨ w = sumW then .ok (l.foldl addQ (conQ 0))
  else if w = avgW then .ok (sclQ (1 / (l.length : Rat)) (l.foldl addQ (conQ 0)))
  else if digW w then .ok (conQ (((readL w).map qv).getD 0))
  else .ok (celQ (SX.S w))
theorem pf_opp {w : List Nat} {p : Nat} {l : List Fq} (h : w = oppW) : perfW w p l = .ok (sclQ (-1) (nth0 l 0)) := by
  unfold perfW
  rw [if_pos h]
theorem pf_sub {w : List Nat} {p : Nat} {l : List Fq} (h : w = [45]) : perfW w p l = .ok (addQ (nth0 l 0) (sclQ (-1) (nth0 l 1))) := by
  unfold perfW
  rw [if_neg (by rw [h]; decide), if_pos h]
theorem pf_mul1 {w : List Nat} {p : Nat} {l : List Fq} (h : w = [42]) (a : isC (nth0 l 0)) : perfW w p l = .ok (sclQ (nth0 l 0).2 (nth0 l 1)) := by
  unfold perfW
  rw [if_neg (by rw [h]; decide), if_neg (by rw [h]; decide), if_pos h, if_pos a]
theorem pf_mul2 {w : List Nat} {p : Nat} {l : List Fq} (h : w = [42]) (a : ¬ isC (nth0 l 0)) (b : isC (nth0 l 1)) : perfW w p l = .ok (sclQ (nth0 l 1).2 (nth0 l 0)) := by
  unfold perfW
  rw [if_neg (by rw [h]; decide), if_neg (by rw [h]; decide), if_pos h, if_neg a, if_pos b]
theorem pf_mul3 {w : List Nat} {p : Nat} {l : List Fq} (h : w = [42]) (a : ¬ isC (nth0 l 0)) (b : ¬ isC (nth0 l 1)) : perfW w p l = .error (true, p) := by
  unfold perfW
  rw [if_neg (by rw [h]; decide), if_neg (by rw [h]; decide), if_pos h, if_neg a, if_neg b]
theorem pf_div1 {w : List Nat} {p : Nat} {l : List Fq} (h : w = [47]) (b : isC (nth0 l 1)) (z : (nth0 l 1).2 ≠ 0) : perfW w p l = .ok (sclQ (1 / (nth0 l 1).2) (nth0 l 0)) := by
  unfold perfW
  rw [if_neg (by rw [h]; decide), if_neg (by rw [h]; decide), if_neg (by rw [h]; decide), if_pos h, if_neg (fun y => y b), if_neg z]
theorem pf_div2 {w : List Nat} {p : Nat} {l : List Fq} (h : w = [47]) (b : ¬ isC (nth0 l 1)) : perfW w p l = .error (true, p) := by
  unfold perfW
  rw [if_neg (by rw [h]; decide), if_neg (by rw [h]; decide), if_neg (by rw [h]; decide), if_pos h, if_pos b]
theorem pf_div3 {w : List Nat} {p : Nat} {l : List Fq} (h : w = [47]) (b : isC (nth0 l 1)) (z : (nth0 l 1).2 = 0) : perfW w p l = .error (false, p) := by
  unfold perfW
  rw [if_neg (by rw [h]; decide), if_neg (by rw [h]; decide), if_neg (by rw [h]; decide), if_pos h, if_neg (fun y => y b), if_pos z]
theorem pf_sum {w : List Nat} {p : Nat} {l : List Fq} (h : w = [43] ∨ w = sumW) : perfW w p l = .ok (l.foldl addQ (conQ 0)) := by
  unfold perfW
  rw [if_neg (by rcases h with h | h <;> rw [h] <;> decide), if_neg (by rcases h with h | h <;> rw [h] <;> decide), if_neg (by rcases h with h | h <;> rw [h] <;> decide), if_neg (by rcases h with h | h <;> rw [h] <;> decide), if_pos h]
theorem pf_avg {w : List Nat} {p : Nat} {l : List Fq} (h : w = avgW) : perfW w p l = .ok (sclQ (1 / (l.length : Rat)) (l.foldl addQ (conQ 0))) := by
  unfold perfW
  rw [if_neg (by rw [h]; decide), if_neg (by rw [h]; decide), if_neg (by rw [h]; decide), if_neg (by rw [h]; decide), if_neg (by rw [h]; decide), if_pos h]
/-- no operator's word -/
structure Plain (w : List Nat) : Prop where
  n1 : ¬ w = oppW
  n2 : ¬ w = [45]
  n3 : ¬ w = [42]
  n4 : ¬ w = [47]
  n5 : ¬ (w = [43] ∨ w = sumW)
  n6 : ¬ w = avgW
theorem pf_num {w : List Nat} {p : Nat} {l : List Fq} (h : Plain w) (d : digW w) : perfW w p l = .ok (conQ (((readL w).map qv).getD 0)) := by
  unfold perfW
  rw [if_neg h.n1, if_neg h.n2, if_neg h.n3, if_neg h.n4, if_neg h.n5, if_neg h.n6, if_pos d]
theorem pf_cel {w : List Nat} {p : Nat} {l : List Fq} (h : Plain w) (d : ¬ digW w) : perfW w p l = .ok (celQ (SX.S w)) := by
  unfold perfW
  rw [if_neg h.n1, if_neg h.n2, if_neg h.n3, if_neg h.n4, if_neg h.n5, if_neg h.n6, if_neg d]
/-- how many parts a step needs -/
def arW (w : List Nat) (n : Nat) : Prop := (w = oppW ∨ w = avgW → 1 ≤ n) ∧ (w = [45] ∨ w = [42] ∨ w = [47] → 2 ≤ n)
/-- a word that is no operator: a number that can be read, or a name -/
structure WdOk (ns : List Str) (w : List Nat) : Prop where
  ne : w ≠ []
  few : w.length ≤ 100000
  par : w ≠ [40] ∧ w ≠ [41] ∧ w ≠ [44]
  num : digW w → Rok w ∧ ∃ z, readL w = some z ∧ Red z ∧ Sz (4 * w.length + 1) z
  nam : ¬ digW w → w ≠ oppW → ¬ signW w → w ≠ sumW → w ≠ avgW → SX.S w ∈ ns
def szs (gs : List (Fq × Nat)) : Nat := (gs.map fun g => g.2 + 1).sum
/-- how many bits a step may add -/
def kost (w : List Nat) : Nat := if w = oppW then 0 else 4 * w.length + 12
def spPerf (K : PySem.W.Frag) (Cl Cd : Addr) : Sp := fun vs H Q E => ∃ (a : Addr) (w : List Nat) (p : Nat) (xs : List V) (ns : List Str) (gs : List (Fq × Nat)), vs = [tx w, .int (p : Nat), .ref a] ∧ H a = some (.lst xs) ∧ All2 (fun v (g : Fq × Nat) => FmA K ns H v g.1 g.2) xs gs ∧
  (∀ x ∈ ns, PyData.strOk x = true) ∧ ns.length ≤ 60 ∧ gs.length ≤ 100000 ∧ WdOk ns w ∧ arW w gs.length ∧ szs gs + kost w + 8 ≤ 40000000 ∧
  (∀ g, perfW w p (gs.map (·.1)) = .ok g → ∀ r H', Same H H' → FmA K ns H' r g (szs gs + kost w) → Q r H') ∧
  (∀ e, perfW w p (gs.map (·.1)) = .error (true, e) → ∀ dx H', Same H H' → H' dx = some (.xd [("position", .int (e : Nat))]) → E (.ref Cl) (some dx) H') ∧
  (∀ e, perfW w p (gs.map (·.1)) = .error (false, e) → ∀ dx H', Same H H' → H' dx = some (.xd [("position", .int (e : Nat))]) → E (.ref Cd) (some dx) H')
theorem parts_at {R : V → Fq × Nat → Prop} {xs : List V} {gs : List (Fq × Nat)} (h : All2 R xs gs) {i : Nat} (hi : i < gs.length) : ∃ v g, xs[i]? = some v ∧ gs[i]? = some g ∧ R v g := by
  have l := h.len
  have e : xs[i]? = some xs[i] := List.getElem?_eq_getElem (by omega)
  obtain ⟨g, hg, r⟩ := h.get e
  exact ⟨_, g, e, hg, r⟩
theorem nth_at {gs : List (Fq × Nat)} {i : Nat} {g : Fq × Nat} (h : gs[i]? = some g) : nth0 (gs.map (·.1)) i = g.1 := by
  unfold nth0
  rw [List.getD_eq_getElem?_getD, List.getElem?_map, h]
  rfl
theorem szs_at {gs : List (Fq × Nat)} {g : Fq × Nat} (h : gs[0]? = some g) : g.2 + 1 ≤ szs gs := by
  cases gs with
  | nil => cases h
  | cons x gs =>
    cases h
    show _ ≤ g.2 + 1 + szs gs
    omega
theorem szs_two {gs : List (Fq × Nat)} {g h : Fq × Nat} (h0 : gs[0]? = some g) (h1 : gs[1]? = some h) : g.2 + 1 + (h.2 + 1) ≤ szs gs := by
  cases gs with
  | nil => cases h0
  | cons x gs =>
    cases h0
    have z := szs_at (gs := gs) (g := h) h1
    show _ ≤ g.2 + 1 + szs gs
    omega
section
variable {P : Program} {w : World} {K : PySem.W.Frag} {mg : Str → Option Value} {base : Heap}
theorem ok_performed {Cl Cd Cz Ct : Addr} (T : Bt mg) (U : Ucs K mg) (hDg : ∃ t, mg "DIGITS" = some (.str "0123456789" t)) (GS : Kn P w K mg base CX0 "scale_form" 37 ["number", "form"] (spScaleF K)) (GB : Kn P w K mg base CX0 "subtract_forms" 38 ["one", "other"] (spSubF K))
    (GP : Kn P w K mg base (L2.CX P w) "product_form" 39 ["one", "other", "position"] (spProd K Cl)) (GQ : Kn P w K mg base (L2.CX P w) "quotient_form" 39 ["one", "other", "position"] (spQuot K Cl Cd))
    (GT : Kn P w K mg base CX0 "total_form" 37 ["parts"] (spTotal K)) (GD : Kn P w K mg base (L2.CX P w) "divide" 36 ["one", "other"] (spDiv K Cz)) (GC : Kn P w K mg base CX0 "constant_form" 36 ["number"] (spConstF K))
    (GR : Kn P w K mg base (L2.CX P w) "read_ratio" 35 ["text"] (spReadRat Ct)) (GE : Kn P w K mg base CX0 "cell_form" 33 ["name"] (spCell K)) (D : Df K mg "performed" s_performed ["word", "position", "parts"]) :
    Kn P w K mg base (L2.CX P w) "performed" 40 ["word", "position", "parts"] (spPerf K Cl Cd) := by
  obtain ⟨f, fd, F, hm, hb⟩ := D
  obtain ⟨f_scale_form, fd_scale_form, G_scale_form, m_scale_form, k_scale_form, b_scale_form⟩ := GS
  obtain ⟨f_subtract_forms, fd_subtract_forms, G_subtract_forms, m_subtract_forms, k_subtract_forms, b_subtract_forms⟩ := GB
  obtain ⟨f_product_form, fd_product_form, G_product_form, m_product_form, k_product_form, b_product_form⟩ := GP
  obtain ⟨f_quotient_form, fd_quotient_form, G_quotient_form, m_quotient_form, k_quotient_form, b_quotient_form⟩ := GQ
  obtain ⟨f_total_form, fd_total_form, G_total_form, m_total_form, k_total_form, b_total_form⟩ := GT
  obtain ⟨f_divide, fd_divide, G_divide, m_divide, k_divide, b_divide⟩ := GD
  obtain ⟨f_constant_form, fd_constant_form, G_constant_form, m_constant_form, k_constant_form, b_constant_form⟩ := GC
  obtain ⟨f_read_ratio, fd_read_ratio, G_read_ratio, m_read_ratio, k_read_ratio, b_read_ratio⟩ := GR
  obtain ⟨f_cell_form, fd_cell_form, G_cell_form, m_cell_form, k_cell_form, b_cell_form⟩ := GE
  obtain ⟨tO, hO⟩ := U.o
  obtain ⟨tD, hD⟩ := hDg
  refine ⟨f, fd, F.okX sc_performed (fun vs H Q E h => ?_) (fun cdv A outer s H vs Q E hr h => ?_), hm, F.kp, hb⟩
  · obtain ⟨a, wd, p, xs, ns, gs, rfl, _⟩ := h
    rfl
  · obtain ⟨a, wd, p, xs, ns, gs, rfl, ha, hall, hn, hns, lgs, hw, har, bits, q, ql, qd⟩ := h
    refine ⟨_, (pss_cons (ps_if (pt_cmpR op_eq (pv 0) (pe_glob (v := .str "- factor") rfl hO ⟨_, rfl⟩) (nomark _)) (pss_one (ps_ret (pe_call G_scale_form (hr.mono (by omega)) rfl m_scale_form k_scale_form b_scale_form .nil pass0 (pa_cons (pe_un un_neg pe_int) (pa_cons (pe_ix ix_list (pv 2) pe_int (fun _ _ => rfl)) pa_nil))))) pss_nil)
      (pss_cons (ps_if (pt_cmpR op_eq (pv 0) pe_str (nomark _)) (pss_one (ps_ret (pe_call G_subtract_forms (hr.mono (by omega)) rfl m_subtract_forms k_subtract_forms b_subtract_forms .nil pass0 (pa_cons (pe_ix ix_list (pv 2) pe_int (fun _ _ => rfl)) (pa_cons (pe_ix ix_list (pv 2) pe_int (fun _ _ => rfl)) pa_nil))))) pss_nil)
      (pss_cons (ps_if (pt_cmpR op_eq (pv 0) pe_str (nomark _)) (pss_one (ps_ret (pe_call G_product_form (hr.mono (by omega)) rfl m_product_form k_product_form b_product_form .nil (passes_call (takes_of rfl rfl rfl rfl) (fun _ _ _ _ h => h)) (pa_cons (pe_ix ix_list (pv 2) pe_int (fun _ _ => rfl)) (pa_cons (pe_ix ix_list (pv 2) pe_int (fun _ _ => rfl)) (pa_cons (pv 1) pa_nil)))))) pss_nil)
      (pss_cons (ps_if (pt_cmpR op_eq (pv 0) pe_str (nomark _)) (pss_one (ps_ret (pe_call G_quotient_form (hr.mono (by omega)) rfl m_quotient_form k_quotient_form b_quotient_form .nil (passes_call (takes_of rfl rfl rfl rfl) (fun _ _ _ _ h => h)) (pa_cons (pe_ix ix_list (pv 2) pe_int (fun _ _ => rfl)) (pa_cons (pe_ix ix_list (pv 2) pe_int (fun _ _ => rfl)) (pa_cons (pv 1) pa_nil)))))) pss_nil)
      (pss_cons (ps_if (PW.pt (pw_or (pt_cmpR op_eq (pv 0) pe_str (nomark _)) (pw_or1 (pt_cmpR op_eq (pv 0) pe_str (nomark _))))) (pss_one (ps_ret (pe_call G_total_form (hr.mono (by omega)) rfl m_total_form k_total_form b_total_form .nil pass0 (pa_cons (pv 2) pa_nil)))) pss_nil)
      (pss_cons (ps_if (pt_cmpR op_eq (pv 0) pe_str (nomark _)) (pss_one (ps_ret (pe_call G_scale_form (hr.mono (by omega)) rfl m_scale_form k_scale_form b_scale_form .nil pass0 (pa_cons (pe_call G_divide (hr.mono (by omega)) rfl m_divide k_divide b_divide .nil passL (pa_cons pe_int (pa_cons (pe_callB call_len_seq (by rfl) T.n_len (by decide +kernel) (pa_cons (pv 2) pa_nil)) pa_nil))) (pa_cons (pe_call G_total_form (hr.mono (by omega)) rfl m_total_form k_total_form b_total_form .nil pass0 (pa_cons (pv 2) pa_nil)) pa_nil))))) pss_nil)
      (pss_cons (ps_if (pt_cmpR op_in_sign (pe_ix ix_str (pv 0) pe_int (fun _ _ => rfl)) (pe_glob (v := .str "0123456789") rfl hD ⟨_, rfl⟩) (by rfl)) (pss_one (ps_ret (pe_call G_constant_form (hr.mono (by omega)) rfl m_constant_form k_constant_form b_constant_form .nil pass0 (pa_cons (pe_call G_read_ratio (hr.mono (by omega)) rfl m_read_ratio k_read_ratio b_read_ratio .nil passL (pa_cons (pv 0) pa_nil)) pa_nil)))) pss_nil)
      (pss_one (ps_ret (pe_call G_cell_form (hr.mono (by omega)) rfl m_cell_form k_cell_form b_cell_form .nil pass0 (pa_cons (pv 0) pa_nil))))))))))), ?_⟩
    refine ⟨_, rfl, rfl, _, rfl, ?_⟩
    rw [txt_is (l := oppW) (by decide +kernel)]
    refine ite2 (fun c => ?_) (fun c => ?_)
    · have hc := of_decide_eq_true c
      have l1 := har.1 (.inl hc)
      have kz : kost wd = 0 := if_pos hc
      obtain ⟨v0, g0, hx0, hg0, f0⟩ := parts_at hall (i := 0) (by omega)
      obtain ⟨ts, e, fv, gt, eg, ec, j1⟩ := f0
      have b0 := szs_at hg0
      refine ⟨1, rfl, _, rfl, _, _, _, v0, rfl, rfl, SqL.of ha, atI_nat (j := 0) hx0, .int (-1), v0, ns, 1, g0.2, (-1, 1), ts, e, rfl, ⟨.int (-1), .int _, rfl⟩, ⟨by decide, by decide⟩, fv, gt, hns, j1, by omega, fun r H1 ws s1 f1 g1 e1 => ?_⟩
      refine q _ (pf_opp hc) r H1 s1 ⟨ws, _, f1, g1.mono (by omega), fun x => ?_, ?_, by omega⟩
      · rw [e1, eg, qv_neg1, nth_at hg0]
        rfl
      · rw [qv_mul (red_one _) gt.const.1, ec, qv_neg1, nth_at hg0]
        rfl
    have n1 : ¬ wd = oppW := fun z => c (decide_eq_true z)
    have kz : kost wd = 4 * wd.length + 12 := if_neg n1
    clear c
    refine ⟨_, rfl, rfl, _, rfl, ?_⟩
    rw [txt_is (l := [45]) (by decide +kernel)]
    refine ite2 (fun c => ?_) (fun c => ?_)
    · have hc := of_decide_eq_true c
      have l2 := har.2 (.inl hc)
      obtain ⟨v0, g0, hx0, hg0, f0⟩ := parts_at hall (i := 0) (by omega)
      obtain ⟨v1, g1, hx1, hg1, f1⟩ := parts_at hall (i := 1) (by omega)
      have b0 := szs_two hg0 hg1
      refine ⟨_, rfl, _, _, _, v0, rfl, rfl, SqL.of ha, atI_nat (j := 0) hx0, _, rfl, _, _, _, v1, rfl, rfl, SqL.of ha, atI_nat (j := 1) hx1, v0, v1, ns, g0.1, g1.1, g0.2, g1.2, rfl, f0, f1, hns, by omega, fun r H1 s1 fr => ?_⟩
      exact q _ (pf_sub hc) r H1 s1 (by rw [nth_at hg0, nth_at hg1]; exact fr.mono (by omega))
    have n2 : ¬ wd = [45] := fun z => c (decide_eq_true z)
    clear c
    refine ⟨_, rfl, rfl, _, rfl, ?_⟩
    rw [txt_is (l := [42]) (by decide +kernel)]
    refine ite2 (fun c => ?_) (fun c => ?_)
    · have hc := of_decide_eq_true c
      have l2 := har.2 (.inr (.inl hc))
      obtain ⟨v0, g0, hx0, hg0, f0⟩ := parts_at hall (i := 0) (by omega)
      obtain ⟨v1, g1, hx1, hg1, f1⟩ := parts_at hall (i := 1) (by omega)
      have b0 := szs_two hg0 hg1
      have e0 := nth_at hg0
      have e1 := nth_at hg1
      refine ⟨_, rfl, _, _, _, v0, rfl, rfl, SqL.of ha, atI_nat (j := 0) hx0, _, rfl, _, _, _, v1, rfl, rfl, SqL.of ha, atI_nat (j := 1) hx1, _, rfl, v0, v1, p, ns, g0.1, g1.1, g0.2, g1.2, rfl, f0, f1, hn, hns, by omega, fun hA r H1 s1 fr => ?_, fun hA hB r H1 s1 fr => ?_, fun hA hB dx H1 s1 hdx => ?_⟩
      · exact q _ (pf_mul1 hc (by rw [e0]; exact hA)) r H1 s1 (by rw [e0, e1]; exact fr.mono (by omega))
      · exact q _ (pf_mul2 hc (by rw [e0]; exact hA) (by rw [e1]; exact hB)) r H1 s1 (by rw [e0, e1]; exact fr.mono (by omega))
      · exact ql _ (pf_mul3 hc (by rw [e0]; exact hA) (by rw [e1]; exact hB)) dx H1 s1 hdx
    have n3 : ¬ wd = [42] := fun z => c (decide_eq_true z)
    clear c
    refine ⟨_, rfl, rfl, _, rfl, ?_⟩
    rw [txt_is (l := [47]) (by decide +kernel)]
    refine ite2 (fun c => ?_) (fun c => ?_)
    · have hc := of_decide_eq_true c
      have l2 := har.2 (.inr (.inr hc))
      obtain ⟨v0, g0, hx0, hg0, f0⟩ := parts_at hall (i := 0) (by omega)
      obtain ⟨v1, g1, hx1, hg1, f1⟩ := parts_at hall (i := 1) (by omega)
      have b0 := szs_two hg0 hg1
      have e0 := nth_at hg0
      have e1 := nth_at hg1
      refine ⟨_, rfl, _, _, _, v0, rfl, rfl, SqL.of ha, atI_nat (j := 0) hx0, _, rfl, _, _, _, v1, rfl, rfl, SqL.of ha, atI_nat (j := 1) hx1, _, rfl, v0, v1, p, ns, g0.1, g1.1, g0.2, g1.2, rfl, f0, f1, hn, hns, by omega, fun hB h0 r H1 s1 fr => ?_, fun hB dx H1 s1 hdx => ?_, fun hB h0 dx H1 s1 hdx => ?_⟩
      · exact q _ (pf_div1 hc (by rw [e1]; exact hB) (by rw [e1]; exact h0)) r H1 s1 (by rw [e0, e1]; exact fr.mono (by omega))
      · exact ql _ (pf_div2 hc (by rw [e1]; exact hB)) dx H1 s1 hdx
      · exact qd _ (pf_div3 hc (by rw [e1]; exact hB) (by rw [e1]; exact h0)) dx H1 s1 hdx
    have n4 : ¬ wd = [47] := fun z => c (decide_eq_true z)
    clear c
    have hsum : wd = [43] ∨ wd = sumW → tRet (tCall (spTotal K) [] E0 (tCons (tVar 2) tNil)) { nx := fun x H' => Q V.non H', rt := Q } (L2.start ["word", "position", "parts"] [tx wd, V.int p, V.ref a]) H := fun hc => by
      refine ⟨_, rfl, a, xs, ns, gs, rfl, ha, hall, hns, lgs, by show szs gs + 1 ≤ 40000000; omega, fun r H1 s1 fr => ?_⟩
      exact q _ (pf_sum hc) r H1 s1 (fr.mono (by show szs gs + 1 ≤ _; omega))
    refine ⟨_, rfl, rfl, _, rfl, ?_⟩
    rw [txt_is (l := [43]) (by decide +kernel)]
    refine ite2 (fun c => ?_) (fun c => ?_)
    · exact hsum (.inl (of_decide_eq_true c))
    have n5 : ¬ wd = [43] := fun z => c (decide_eq_true z)
    clear c
    refine ⟨_, rfl, rfl, _, rfl, ?_⟩
    rw [txt_is (l := sumW) (by decide +kernel)]
    refine ite2 (fun c => ?_) (fun c => ?_)
    · exact hsum (.inr (of_decide_eq_true c))
    have n6 : ¬ wd = sumW := fun z => c (decide_eq_true z)
    clear c hsum
    refine ⟨_, rfl, rfl, _, rfl, ?_⟩
    rw [txt_is (l := avgW) (by decide +kernel)]
    have lx := hall.len
    refine ite2 (fun c => ?_) (fun c => ?_)
    · have hc := of_decide_eq_true c
      have l1 := har.1 (.inr hc)
      have lw : wd.length = 7 := by rw [hc]; rfl
      have r1 : Red ((1, 1) : Int × Int) := red_one 1
      have rn : Red (((gs.length : Nat) : Int), (1 : Int)) := red_one _
      have h0 : (((gs.length : Nat) : Int), (1 : Int)).1 ≠ 0 := by show ((gs.length : Nat) : Int) ≠ 0; omega
      have sn : Sz 17 (((gs.length : Nat) : Int), (1 : Int)) := ⟨by show (((gs.length : Nat) : Int)).natAbs < 131072; omega, by show (1 : Int).natAbs < 131072; decide⟩
      have eq1 : qv (divz (1, 1) (((gs.length : Nat) : Int), (1 : Int))) = 1 / (gs.length : Rat) := by
        rw [qv_div r1 rn h0, qv_one, qv_int, Rat.intCast_natCast]
      refine ⟨_, rfl, a, xs, rfl, .inl (SqL.of ha), .int 1, .int (xs.length : Nat), (1, 1), (((gs.length : Nat) : Int), 1), 1, 17, rfl, ⟨.int 1, .int 1, rfl⟩, ⟨.int _, .int _, by rw [lx]; rfl⟩, ⟨by decide, by decide⟩, sn, by decide, fun _ p1 H1 s1 hp1 => ?_, fun z => absurd z h0⟩
      refine ⟨_, rfl, a, xs, ns, gs, rfl, s1 _ _ ha, hall.imp (fun _ _ h => h.same s1), hns, lgs, by show szs gs + 1 ≤ 40000000; omega, fun rt H2 s2 fr => ?_⟩
      obtain ⟨ts, e, fv, gt, eg, ec, j1⟩ := fr
      have gt : FormK ns (szs gs + 1) ts e := gt
      refine ⟨_, rt, ns, 1 + 17, szs gs + 1, divz (1, 1) (((gs.length : Nat) : Int), 1), ts, e, rfl, ⟨_, dp_rat (s2 _ _ hp1), numOf_rat (div_red r1 h0)⟩, div_sz ⟨by decide, by decide⟩ sn, fv, gt, hns, j1, by omega, fun r H3 ws s3 f3 g3 e3 => ?_⟩
      refine q _ (pf_avg hc) r H3 (s1.trans (s2.trans s3)) ⟨ws, _, f3, g3.mono (by omega), fun x => ?_, ?_, by omega⟩
      · rw [e3, eg, eq1, List.length_map]
        rfl
      · rw [qv_mul (div_red r1 h0) gt.const.1, ec, eq1, List.length_map]
        rfl
    have n7 : ¬ wd = avgW := fun z => c (decide_eq_true z)
    clear c
    have pl : Plain wd := ⟨n1, n2, n3, n4, fun z => z.elim n5 n6, n7⟩
    obtain ⟨c0, rest, rfl⟩ : ∃ c0 rest, wd = c0 :: rest := by
      cases wd with
      | nil => exact absurd rfl hw.ne
      | cons c0 rest => exact ⟨c0, rest, rfl⟩
    have hfw := hw.few
    refine ⟨_, rfl, SX.S (c0 :: rest), 0, c0, rfl, rfl, (by rw [SX.S_len]; exact Nat.le_trans hfw (by decide)), atI_nat (j := 0) (by rw [show (SX.S (c0 :: rest)).cps.toList = c0 :: rest by simp [SX.S]]; rfl), c0, Str.ofString "0123456789", rfl, rfl, _, rfl, ?_⟩
    rw [show (Str.ofString "0123456789").cps.toList = digs by decide +kernel]
    refine ite2 (fun c => ?_) (fun c => ?_)
    · have hd : digW (c0 :: rest) := ⟨c0, rfl, of_decide_eq_true c⟩
      obtain ⟨rok, z, hz, rz, sz⟩ := hw.num hd
      refine ⟨_, rfl, c0 :: rest, rfl, rok, fun z1 p1 H1 hz1 s1 hp1 => ?_, fun z2 => by rw [hz] at z2; cases z2⟩
      obtain rfl : z = z1 := Option.some.inj (hz.symm.trans hz1)
      refine ⟨.ref p1, z, rfl, ⟨_, dp_rat hp1, numOf_rat rz⟩, fun r H2 s2 f2 => ?_⟩
      refine q _ (pf_num pl hd) r H2 (s1.trans s2) ⟨[], z, f2, FormK.nil rz (sz.mono (by omega)), fun x => rfl, ?_, by omega⟩
      rw [hz]
      rfl
    · have hd : ¬ digW (c0 :: rest) := fun ⟨c1, h1, h2⟩ => c (decide_eq_true (by cases h1; exact h2))
      have hs : ¬ signW (c0 :: rest) := fun z => by
        rcases z with z | z | z | z | z | z | z
        · exact n5 z
        · exact n2 z
        · exact n3 z
        · exact n4 z
        · exact hw.par.1 z
        · exact hw.par.2.1 z
        · exact hw.par.2.2 z
      exact ⟨_, rfl, SX.S (c0 :: rest), ns, rfl, hw.nam hd n1 hs n6 n7, fun r H1 s1 f1 => q _ (pf_cel pl hd) r H1 s1 (f1.mono (by omega))⟩
end

end Bs
namespace Bs
open PySem L2
/-! ### the steps, performed one by one -/
theorem FmA.ts {K : PySem.W.Frag} {ns : List Str} {H H' : Hp} {v : V} {g : Fq} {k : Nat} (h : FmA K ns H v g k) (s : TS H H') : FmA K ns H' v g k := by
  obtain ⟨ts, c, ⟨a, p, xs, vc, e, h1, h2, h3, h4⟩, h5⟩ := h
  have nl : ∀ z : Int × Int, noL (numD z) = true := fun z => rfl
  have nls : ∀ us : Ts, noLs (us.map fun t => termN t.1 t.2) = true := fun us => by
    induction us with
    | nil => rfl
    | cons t us ih =>
      show (noL (termN t.1 t.2) && noLs (us.map fun t => termN t.1 t.2)) = true
      rw [ih]
      rfl
  have f : FormAt K (tps H) v ts c := by
    refine ⟨a, p, xs, vc, e, ?_, dp_tps _ _ (nl c) h2, ?_, dps_tps _ _ (nls ts) h4⟩
    · rcases h1 with (h | ⟨o, h⟩) | h
      · exact .inl (.inl (tps_at h rfl))
      · exact .inl (.inr ⟨o, tps_at h rfl⟩)
      · exact .inr h
    · obtain ⟨o, ho, hd⟩ := h3
      exact ⟨o, tps_at ho rfl, hd⟩
  exact ⟨ts, c, (f.same s).same (tps_sub H'), h5⟩
noncomputable def runW : List Fq → List Stp → Except (Bool × Nat) (List Fq)
  | l, [] => .ok l
  | l, t :: ss => match perfW t.1 t.2.1 (l.drop (l.length - t.2.2)) with
    | .ok g => runW (l.take (l.length - t.2.2) ++ [g]) ss
    | .error e => .error e
def Hts (ns : List Str) : Nat → List Stp → Prop
  | h, [] => 1 ≤ h
  | h, t :: ss => t.2.2 ≤ h ∧ arW t.1 t.2.2 ∧ WdOk ns t.1 ∧ Hts ns (h - t.2.2 + 1) ss
def wsz (ss : List Stp) : Nat := (ss.map fun t => kost t.1 + 1).sum
theorem wsz_len : ∀ ss : List Stp, ss.length ≤ wsz ss
  | [] => Nat.le_refl _
  | t :: ss => by
    have := wsz_len ss
    show ss.length + 1 ≤ kost t.1 + 1 + wsz ss
    omega
def spResult (K : PySem.W.Frag) (Cl Cd : Addr) : Sp := fun vs H Q E => ∃ (a : Addr) (rs : List V) (ns : List Str) (ss : List Stp), vs = [.ref a] ∧ H a = some (.lst rs) ∧ DpAll K H rs (ss.map stD) ∧
  (∀ x ∈ ns, PyData.strOk x = true) ∧ ns.length ≤ 60 ∧ Hts ns 0 ss ∧ wsz ss ≤ 39999980 ∧ ss.length ≤ 100000 ∧
  (∀ l, runW [] ss = .ok l → ∀ r H', Same H H' → FmA K ns H' r (nth0 l 0) (wsz ss) → Q r H') ∧
  (∀ e, runW [] ss = .error (true, e) → ∀ dx H', Same H H' → H' dx = some (.xd [("position", .int (e : Nat))]) → E (.ref Cl) (some dx) H') ∧
  (∀ e, runW [] ss = .error (false, e) → ∀ dx H', Same H H' → H' dx = some (.xd [("position", .int (e : Nat))]) → E (.ref Cd) (some dx) H')
theorem All2.drop {α β : Type} {R : α → β → Prop} : ∀ (k : Nat) {as : List α} {bs : List β}, All2 R as bs → All2 R (as.drop k) (bs.drop k)
  | 0, _, _, h => h
  | _ + 1, _, _, .nil => .nil
  | k + 1, _, _, .cons _ t => All2.drop k t
theorem All2.take {α β : Type} {R : α → β → Prop} : ∀ (k : Nat) {as : List α} {bs : List β}, All2 R as bs → All2 R (as.take k) (bs.take k)
  | 0, _, _, _ => .nil
  | _ + 1, _, _, .nil => .nil
  | k + 1, _, _, .cons a t => .cons a (All2.take k t)
theorem All2.snoc {α β : Type} {R : α → β → Prop} {as : List α} {bs : List β} {a : α} {b : β} (h : All2 R as bs) (r : R a b) : All2 R (as ++ [a]) (bs ++ [b]) := by
  induction h with
  | nil => exact .cons r .nil
  | cons s _ ih => exact .cons s ih
theorem szs_app (xs ys : List (Fq × Nat)) : szs (xs ++ ys) = szs xs + szs ys := by
  unfold szs
  rw [List.map_append, List.sum_append]
theorem cut_from (xs : List V) (k : Nat) : cutV xs (some (k : Int)) none = xs.drop k := by
  unfold cutV
  rw [HT.sIx_nat, HT.sIx_none]
  by_cases h : k ≤ xs.length
  · rw [Nat.min_eq_left h, ← List.length_drop, List.take_length]
  · rw [Nat.min_eq_right (by omega), List.drop_eq_nil_of_le (by omega : xs.length ≤ k), List.drop_length, List.take_nil]
theorem cut_to (xs : List V) (k : Nat) : cutV xs none (some (k : Int)) = xs.take k := by
  unfold cutV
  rw [HT.sIx_nat, HT.sIx_none, List.drop_zero, Nat.sub_zero]
  by_cases h : k ≤ xs.length
  · rw [Nat.min_eq_left h]
  · rw [Nat.min_eq_right (by omega), List.take_length, List.take_of_length_le (by omega)]
section
variable {P : Program} {w : World} {K : PySem.W.Frag} {mg : Str → Option Value} {base : Heap}
theorem ok_result_of {Cl Cd : Addr} (T : Bt mg) (GP : Kn P w K mg base (L2.CX P w) "performed" 40 ["word", "position", "parts"] (spPerf K Cl Cd)) (D : Df K mg "result_of" s_result_of ["steps"]) :
    Kn P w K mg base (L2.CX P w) "result_of" 41 ["steps"] (spResult K Cl Cd) := by
  obtain ⟨f, fd, F, hm, hb⟩ := D
  obtain ⟨f_performed, fd_performed, G_performed, m_performed, k_performed, b_performed⟩ := GP
  refine ⟨f, fd, F.okX sc_result_of (fun vs H Q E h => ?_) (fun cdv A outer s H vs Q E hr h => ?_), hm, F.kp, hb⟩
  · obtain ⟨a, rs, ns, ss, rfl, _⟩ := h
    rfl
  · obtain ⟨a, rs, ns, ss, rfl, ha, hall, hn, hns, hts, bits, l1000, q, ql, qd⟩ := h
    refine ⟨_, (pss_cons (ps_set (i := 1) sc_result_of.nd rfl (Or.inl rfl) (pe_lst pa_nil))
      (pss_cons (ps_for (passes_of rfl) rfl (pi_list (pv 0)) (pg_tup (by rfl) (pgs_cons (pg_name (i := 2) sc_result_of.nd rfl (Or.inl rfl)) (pgs_cons (pg_name (i := 3) sc_result_of.nd rfl (Or.inl rfl)) (pgs_cons (pg_name (i := 4) sc_result_of.nd rfl (Or.inl rfl)) pgs_nil))))
        (pss_cons (ps_set (i := 5) sc_result_of.nd rfl (Or.inl rfl) (pe_op op_sub (pe_callB call_len_seq (by rfl) T.n_len (by decide +kernel) (pa_cons (pv 1) pa_nil)) (pv 4)))
      (pss_cons (ps_set (i := 6) sc_result_of.nd rfl (Or.inl rfl) (pe_slice sl_list (pv 1) (po_some (pv 5)) po_none))
      (pss_cons (ps_set (i := 1) sc_result_of.nd rfl (Or.inl rfl) (pe_slice sl_list (pv 1) po_none (po_some (pv 5))))
      (pss_one (ps_expr (pe_bm PySem.F.plainAttrs_list PySem.F.slot_list_append PySem.F.type_list_append mt_append (pv 1) (pa_cons (pe_call G_performed (hr.mono (by omega)) rfl m_performed k_performed b_performed .nil (passes_call (takes_of rfl rfl rfl rfl) (fun _ _ _ _ h => h)) (pa_cons (pv 2) (pa_cons (pv 3) (pa_cons (pv 6) pa_nil)))) pa_nil))))))))
      (pss_one (ps_ret (pe_ix ix_list (pv 1) pe_int (fun _ _ => rfl)))))), ?_⟩
    refine ⟨(by show 0 ≤ sizeLine; decide), fun p0 np0 => ?_⟩
    have s0 := same_new np0 (.lst [])
    refine ⟨_, rfl, a, rfl, ⟨_, SqL.of (s0 _ _ ha)⟩, ?_⟩
    have lr := dps_len hall
    rw [List.length_map] at lr
    refine for_list (K := K) (a := a) (xs := rs) (fun i σ H' => ∃ pf vs gs o2 o3 o4 o5 o6, σ = [some (.ref a), some (.ref pf), o2, o3, o4, o5, o6] ∧ Same H H' ∧ H' pf = some (.lst vs) ∧ All2 (fun v (g : Fq × Nat) => FmA K ns H' v g.1 g.2) vs gs ∧
        Hts ns gs.length (ss.drop i) ∧ szs gs + wsz (ss.drop i) ≤ wsz ss ∧ gs.length ≤ i ∧ runW (gs.map (·.1)) (ss.drop i) = runW [] ss)
      ⟨p0, [], [], none, none, none, none, none, rfl, s0, upd_same, .nil, hts, Nat.le_of_eq (Nat.zero_add _), Nat.le_refl _, rfl⟩ (fun i σ H' _ h => by obtain ⟨_, _, _, _, _, _, _, _, _, h, _⟩ := h; exact SqL.of (h _ _ ha)) ?_ ?_
    · rintro i x σ H1 hx ⟨pf, vs, gs, o2, o3, o4, o5, o6, rfl, s1, hpf, hfs, hh, hz, hl, hrun⟩
      obtain ⟨dt, hdt, hdx⟩ := dps_get hall hx
      rw [List.getElem?_map] at hdt
      obtain ⟨t, ht, rfl⟩ : ∃ t, ss[i]? = some t ∧ stD t = dt := by
        cases z : ss[i]? with
        | none => rw [z] at hdt; cases hdt
        | some t => rw [z] at hdt; exact ⟨t, rfl, Option.some.inj hdt⟩
      have hdx1 : Dp K H1 x (.tuple [.str (SX.S t.1), .int (t.2.1 : Nat), .int (t.2.2 : Nat)]) := dp_same s1 _ _ hdx
      obtain ⟨hi, ed⟩ : i < ss.length ∧ ss.drop i = t :: ss.drop (i + 1) := by
        obtain ⟨h1, h2⟩ := List.getElem?_eq_some_iff.mp ht
        exact ⟨h1, by rw [List.drop_eq_getElem_cons h1, h2]⟩
      rw [ed] at hh hz hrun
      obtain ⟨hn1, har, hwd, hh2⟩ := hh
      have ez : wsz (t :: ss.drop (i + 1)) = kost t.1 + 1 + wsz (ss.drop (i + 1)) := rfl
      have lf := hfs.len
      cases hdx1 with
      | @tup at_ zs _ hsz haz =>
        cases haz with
        | cons y0 haz =>
          cases haz with
          | cons y1 haz =>
            cases haz with
            | cons y2 haz =>
              cases haz
              cases y0
              cases y1
              cases y2
              refine ⟨_, _, rfl, hsz, rfl, _, _, rfl, _, _, rfl, _, _, rfl, rfl, ?_⟩
              have efi : ((vs.length : Nat) : Int) - (t.2.2 : Nat) = ((gs.length - t.2.2 : Nat) : Int) := by omega
              have e1 : cutV vs (some (((vs.length : Nat) : Int) - (t.2.2 : Nat))) none = vs.drop (gs.length - t.2.2) := by rw [efi, cut_from]
              have e2 : cutV vs none (some (((vs.length : Nat) : Int) - (t.2.2 : Nat))) = vs.take (gs.length - t.2.2) := by rw [efi, cut_to]
              refine ⟨_, rfl, pf, vs, rfl, .inl (SqL.of hpf), _, rfl, _, _, rfl, rfl, ?_⟩
              refine ⟨_, rfl, _, rfl, ((vs.length : Nat) : Int) - (t.2.2 : Nat), rfl, pf, vs, rfl, SqL.of hpf, fun p1 np1 => ?_⟩
              have s2 := same_new np1 (.lst (cutV vs (some (((vs.length : Nat) : Int) - (t.2.2 : Nat))) none))
              refine ⟨_, rfl, _, rfl, ((vs.length : Nat) : Int) - (t.2.2 : Nat), rfl, pf, vs, rfl, SqL.of (s2 _ _ hpf), fun p2 np2 => ?_⟩
              have s3 := same_new np2 (.lst (cutV vs none (some (((vs.length : Nat) : Int) - (t.2.2 : Nat)))))
              have n2 : H1 p2 = none := by
                cases e : H1 p2 with
                | none => rfl
                | some u =>
                  have z := s2 _ _ e
                  rw [np2] at z
                  cases z
              have hp1 := (s3 _ _ (upd_same (H := H1) (a := p1) (o := .lst (cutV vs (some (((vs.length : Nat) : Int) - (t.2.2 : Nat))) none)))).trans (congrArg (fun l => some (HO.lst l)) e1)
              have ep : ∀ b, (match perfW t.1 t.2.1 ((gs.drop (gs.length - t.2.2)).map (fun g : Fq × Nat => g.1)) with | .ok g => runW ((gs.map (fun g : Fq × Nat => g.1)).take (gs.length - t.2.2) ++ [g]) (ss.drop (i + 1)) | .error e => .error e) = b → runW [] ss = b := fun b z => by
                rw [← hrun, ← z]
                show (match perfW t.1 t.2.1 ((gs.map (fun g : Fq × Nat => g.1)).drop ((gs.map (fun g : Fq × Nat => g.1)).length - t.2.2)) with | .ok g => runW ((gs.map (fun g : Fq × Nat => g.1)).take ((gs.map (fun g : Fq × Nat => g.1)).length - t.2.2) ++ [g]) (ss.drop (i + 1)) | .error e => .error e) = _
                rw [List.length_map, List.map_drop]
              have eS : szs gs = szs (gs.take (gs.length - t.2.2)) + szs (gs.drop (gs.length - t.2.2)) := by rw [← szs_app, List.take_append_drop]
              have ld : (gs.drop (gs.length - t.2.2)).length = t.2.2 := by rw [List.length_drop]; omega
              refine ⟨_, rfl, .inl ⟨rfl, _, SqL.of upd_same⟩, _, rfl, _, rfl, _, rfl, p1, t.1, t.2.1, vs.drop (gs.length - t.2.2), ns, gs.drop (gs.length - t.2.2), rfl, hp1, (hfs.drop _).imp (fun _ _ h => h.same (s2.trans s3)), hn, hns, ?_, hwd, (by rw [ld]; exact har), by omega, fun g eg r H4 s4 fr => ?_, fun e ee dx H4 s4 hdx => ?_, fun e ee dx H4 s4 hdx => ?_⟩
              · rw [ld]
                have := wsz_len ss
                omega
              · have hp2 := s4 _ _ ((upd_same (H := upd H1 p1 (.lst (cutV vs (some (((vs.length : Nat) : Int) - (t.2.2 : Nat))) none))) (a := p2) (o := .lst (cutV vs none (some (((vs.length : Nat) : Int) - (t.2.2 : Nat)))))).trans (congrArg (fun l => some (HO.lst l)) e2))
                have s14 : Same H1 H4 := s2.trans (s3.trans s4)
                refine ⟨p2, vs.take (gs.length - t.2.2), r, rfl, rfl, hp2, small1e5 (by rw [List.length_take]; have := wsz_len ss; omega), ?_⟩
                have lt' : (gs.take (gs.length - t.2.2)).length = gs.length - t.2.2 := by rw [List.length_take]; omega
                refine ⟨p2, vs.take (gs.length - t.2.2) ++ [r], gs.take (gs.length - t.2.2) ++ [(g, szs (gs.drop (gs.length - t.2.2)) + kost t.1)], _, _, _, _, _, rfl, s1.trans (same_upd s14 n2), upd_same, ((hfs.take _).imp (fun _ _ h => h.same (same_upd s14 n2))).snoc (fr.ts (TS.upd hp2 rfl)), ?_, ?_, ?_, ?_⟩
                · rw [List.length_append, lt']
                  exact hh2
                · rw [szs_app]
                  show szs (gs.take (gs.length - t.2.2)) + (szs (gs.drop (gs.length - t.2.2)) + kost t.1 + 1 + 0) + wsz (ss.drop (i + 1)) ≤ wsz ss
                  omega
                · rw [List.length_append, lt']
                  show gs.length - t.2.2 + 1 ≤ i + 1
                  omega
                · rw [List.map_append, List.map_take]
                  exact (ep _ (by rw [eg]; rfl)).symm
              · exact ql e (ep _ (by rw [ee])) dx H4 (s1.trans (s2.trans (s3.trans s4))) hdx
              · exact qd e (ep _ (by rw [ee])) dx H4 (s1.trans (s2.trans (s3.trans s4))) hdx
    · rintro σ H1 ⟨pf, vs, gs, o2, o3, o4, o5, o6, rfl, s1, hpf, hfs, hh, hz, hl, hrun⟩
      rw [lr, List.drop_length] at hh hz hrun
      have hrun : runW [] ss = .ok (gs.map (·.1)) := hrun.symm
      have hh : 1 ≤ gs.length := hh
      obtain ⟨v0, g0, hx0, hg0, f0⟩ := parts_at hfs (i := 0) (by omega)
      have b0 := szs_at hg0
      refine ⟨_, rfl, _, _, _, v0, rfl, rfl, SqL.of hpf, atI_nat (j := 0) hx0, ?_⟩
      refine q _ hrun v0 H1 s1 ?_
      rw [nth_at hg0]
      exact f0.mono (by have : wsz [] = 0 := rfl; omega)
end

end Bs
namespace Bs
open PySem L2
/-! ### what a token's word is -/
inductive TokW : List Nat → Prop
  | sign {c : Nat} : c ∈ sgns → TokW [c]
  | name {w : List Nat} : w ≠ [] → (∀ c ∈ w, c ∈ lets) → w.length ≤ 8 → TokW w
  | num {w : List Nat} : w ≠ [] → (∀ c ∈ w, c ∈ digs) → TokW w
  | point {a b : List Nat} : a ≠ [] → b ≠ [] → (∀ c ∈ a, c ∈ digs) → (∀ c ∈ b, c ∈ digs) → TokW (a ++ 46 :: b)
theorem run_take {cs : List Nat} : ∀ (l : List Nat), ∀ c ∈ l.take (runLen cs l), c ∈ cs
  | [], c, h => by cases h
  | x :: l, c, h => by
    unfold runLen at h
    split at h
    · rename_i hx
      rw [List.take_succ_cons] at h
      rcases List.mem_cons.mp h with rfl | h
      · exact hx
      · exact run_take l c h
    · cases h
theorem take_ne {l : List Nat} {k : Nat} (h : 0 < k) (hl : k ≤ l.length) : l.take k ≠ [] := fun e => by
  have z := congrArg List.length e
  rw [List.length_take, List.length_nil] at z
  omega
theorem tok_w {l : List Nat} (h : 0 < tokLen l) : TokW (l.take (tokLen l)) := by
  unfold tokLen at h ⊢
  split
  · rename_i hs
    obtain ⟨x, h0, hx⟩ := hs
    cases l with
    | nil => cases h0
    | cons y l =>
      cases h0
      exact .sign hx
  · rename_i hs
    rw [if_neg hs] at h
    split
    · rename_i h1
      rw [if_pos h1] at h
      split
      · rename_i h2
        exact .name (take_ne h1 (runLen_le _ _)) (run_take l) (by rw [List.length_take]; omega)
      · rename_i h2
        rw [if_neg h2] at h
        cases h
    · rename_i h1
      rw [if_neg h1] at h
      unfold numLen at h ⊢
      split
      · rename_i h2
        obtain ⟨p1, p2, p3⟩ := h2
        have ed : l.drop (runLen digs l) = 46 :: l.drop (runLen digs l + 1) := by
          obtain ⟨q1, q2⟩ := List.getElem?_eq_some_iff.mp p2
          rw [List.drop_eq_getElem_cons q1, q2]
        have et : l.take (runLen digs l + 1 + runLen digs (l.drop (runLen digs l + 1))) = l.take (runLen digs l) ++ 46 :: (l.drop (runLen digs l + 1)).take (runLen digs (l.drop (runLen digs l + 1))) := by
          rw [Nat.add_assoc, List.take_add, ed, Nat.add_comm 1, List.take_succ_cons]
        rw [et]
        exact .point (take_ne p1 (runLen_le _ _)) (take_ne p3 (runLen_le _ _)) (run_take l) (run_take _)
      · rename_i h2
        rw [if_neg h2] at h
        exact .num (take_ne h (runLen_le _ _)) (run_take l)
theorem TokW.wrd {w : List Nat} (h : TokW w) (l : w.length ≤ 100000) : Wrd w := by
  have a1 : ∀ c ∈ sgns, c < 128 := by decide
  have a2 : ∀ c ∈ lets, c < 128 := by decide
  have a3 : ∀ c ∈ digs, c < 128 := by decide
  have b1 : ∀ c ∈ sgns, signW [c] := by decide
  have b2 : ∀ c ∈ lets, c ∉ signL := by decide
  have b3 : ∀ c ∈ digs, c ∉ signL := by decide
  have some : ∀ {w : List Nat}, w ≠ [] → ∃ c, c ∈ w := fun {w} h => by
    cases w with
    | nil => exact absurd rfl h
    | cons c w => exact ⟨c, List.mem_cons_self ..⟩
  cases h with
  | @sign c hc =>
    refine ⟨fun x hx => ?_, by simp, ⟨l, fun e => ?_⟩, .inl (b1 c hc)⟩
    · obtain rfl := List.mem_singleton.mp hx
      exact a1 _ hc
    · have z := congrArg List.length e
      exact absurd z (by simp [oppW])
  | name n hc h8 =>
    obtain ⟨c, m⟩ := some n
    exact ⟨fun x hx => a2 x (hc x hx), n, ⟨l, fun e => absurd (hc 45 (by rw [e]; decide)) (by decide)⟩, .inr ⟨c, m, b2 c (hc c m)⟩⟩
  | num n hc =>
    obtain ⟨c, m⟩ := some n
    exact ⟨fun x hx => a3 x (hc x hx), n, ⟨l, fun e => absurd (hc 45 (by rw [e]; decide)) (by decide)⟩, .inr ⟨c, m, b3 c (hc c m)⟩⟩
  | @point a b na nb ha hb =>
    obtain ⟨c, m⟩ := some na
    refine ⟨fun x hx => ?_, by simp, ⟨l, fun e => ?_⟩, .inr ⟨c, List.mem_append_left _ m, b3 c (ha c m)⟩⟩
    · rcases List.mem_append.mp hx with hx | hx
      · exact a3 x (ha x hx)
      · rcases List.mem_cons.mp hx with rfl | hx
        · decide
        · exact a3 x (hb x hx)
    · have z : (46 : Nat) ∈ oppW := by rw [← e]; exact List.mem_append_right _ (List.mem_cons_self ..)
      exact absurd z (by decide)
theorem toks_words {l : List Nat} {i : Nat} {ts : List (List Nat × Nat)} (h : Toks l i ts) : ∀ t ∈ ts, TokW t.1 ∧ t.1.length ≤ l.length := by
  induction h with
  | done _ => exact fun t ht => by cases ht
  | space _ _ ih => exact ih
  | tok _ _ h0 _ ih =>
    intro t ht
    rcases List.mem_cons.mp ht with rfl | ht
    · exact ⟨tok_w h0, by show (List.take _ _).length ≤ _; rw [List.length_take, List.length_drop]; omega⟩
    · exact ih t ht
def wlen (ts : List (List Nat × Nat)) : Nat := (ts.map fun t => t.1.length).sum
theorem toks_len {l : List Nat} {i : Nat} {ts : List (List Nat × Nat)} (h : Toks l i ts) : i ≤ l.length → i + wlen ts ≤ l.length ∧ ts.length ≤ wlen ts := by
  induction h with
  | done _ => exact fun h => ⟨h, Nat.le_refl _⟩
  | @space i ts h1 _ ih =>
    intro h
    have : i < l.length := (List.getElem?_eq_some_iff.mp h1).1
    have z := ih (by omega)
    exact ⟨by omega, z.2⟩
  | @tok i ts _ hi h0 _ ih =>
    intro h
    have p := tokLen_le (l.drop i)
    rw [List.length_drop] at p
    have z := ih (by omega)
    have e : wlen (((l.drop i).take (tokLen (l.drop i)), i) :: ts) = tokLen (l.drop i) + wlen ts := by
      show ((l.drop i).take (tokLen (l.drop i))).length + wlen ts = _
      rw [List.length_take, List.length_drop]
      omega
    rw [e]
    exact ⟨by omega, by rw [List.length_cons]; omega⟩
theorem release_size (r : Nat) (ws ss : List Stp) : (releaseW r ws ss).2.length + (releaseW r ws ss).1.length = ss.length + ws.length := by
  have := release_len r ws ss
  omega
theorem take_size {m m' : Mch} {t : Tkn} (h : takeW m t = .ok m') : m'.steps.length + m'.wait.length ≤ m.steps.length + m.wait.length + 1 := by
  unfold takeW at h
  split at h
  · repeat' split at h
    all_goals first
      | cases h; done
      | (cases h; simp only [List.length_cons, List.length_append, List.length_nil]; omega)
  · repeat' split at h
    all_goals first
      | cases h; done
      | (cases h; simp only [List.length_cons, List.length_append, List.length_nil]; omega)
  · have z := release_size (rankW t.1) m.wait m.steps
    have z1 := release_size 1 m.wait m.steps
    split at h
    · cases h
      simp only [List.length_cons]
      omega
    · split at h
      · cases h
      · rename_i e
        rw [e] at z1
        simp only [List.length_cons] at z1
        repeat' split at h
        all_goals first
          | cases h; done
          | (cases h; simp only [List.length_cons, List.length_append, List.length_nil]; omega)

end Bs
namespace Bs
open PySem L2
/-! ### a formula's text, read -/
def spParse (K : PySem.W.Frag) (Cf Cl Cd : Addr) : Sp := fun vs H Q E => ∃ (l : List Nat) (ns : List Str), vs = [tx l] ∧ l.length ≤ 90000 ∧ (∀ x ∈ ns, PyData.strOk x = true) ∧ ns.length ≤ 60 ∧
  (∀ ts ss, Toks l 0 ts → orderW ts l.length = .ok ss → Hts ns 0 ss ∧ wsz ss ≤ 39999980) ∧
  (∀ p, ToksNo l 0 p → ∀ dx H', Same H H' → H' dx = some (.xd [("position", .int (p : Nat))]) → E (.ref Cf) (some dx) H') ∧
  (∀ ts p, Toks l 0 ts → orderW ts l.length = .error p → ∀ dx H', Same H H' → H' dx = some (.xd [("position", .int (p : Nat))]) → E (.ref Cf) (some dx) H') ∧
  (∀ ts ss, Toks l 0 ts → orderW ts l.length = .ok ss →
    (∀ fs, runW [] ss = .ok fs → ∀ r H', Same H H' → FmA K ns H' r (nth0 fs 0) (wsz ss) → Q r H') ∧
    (∀ e, runW [] ss = .error (true, e) → ∀ dx H', Same H H' → H' dx = some (.xd [("position", .int (e : Nat))]) → E (.ref Cl) (some dx) H') ∧
    (∀ e, runW [] ss = .error (false, e) → ∀ dx H', Same H H' → H' dx = some (.xd [("position", .int (e : Nat))]) → E (.ref Cd) (some dx) H'))
theorem only_same {o ps pw : Addr} {H H1 H2 : Hp} (s : Same H H1) (x : Only o ps pw H1 H2) (no : H o = none) (n1 : H ps = none) (n2 : H pw = none) : Same H H2 := fun a u h =>
  x a u (s a u h) (ne_of_none h no) (ne_of_none h n1) (ne_of_none h n2)
theorem takes_snoc {m m1 : Mch} {ts : List Tkn} {t : Tkn} (h : takesW m ts = .ok m1) : takesW m (ts ++ [t]) = takeW m1 t := by
  rw [takes_app h]
  show (match takeW m1 t with | .ok m' => takesW m' [] | .error p => .error p) = _
  cases takeW m1 t <;> rfl
theorem takes_err : ∀ {ts us : List Tkn} {m : Mch} {p : Nat}, takesW m ts = .error p → takesW m (ts ++ us) = .error p
  | [], _, _, _, h => by cases h
  | t :: ts, us, m, p, h => by
    have h2 : (match takeW m t with | .ok m' => takesW m' ts | .error p => .error p) = Except.error p := h
    show (match takeW m t with | .ok m' => takesW m' (ts ++ us) | .error p => .error p) = _
    cases e : takeW m t with
    | ok m1 =>
      rw [e] at h2
      exact takes_err h2
    | error q =>
      rw [e] at h2
      exact h2
section
variable {P : Program} {w : World} {K : PySem.W.Frag} {mg : Str → Option Value} {base : Heap}
theorem ok_parse_formula {C Cf Cl Cd : Addr} (T : Bt mg) (S : SOc K C) (hSO : mg "StepOrder" = some (.ref C)) (GI : ∃ f fd, FnOk P w K mg base CX0 1 f fd ["self"] (spInitSO K C) ∧ Mk K C f ∧ Binds K fd ["self"] [])
    (GO : Kn P w K mg base (L2.CX P w) "tokens_of" 36 ["text"] (spTokens K Cf)) (GT : KnM P w K mg base (L2.CX P w) C "take" 36 ["self", "word", "position"] (spTakeW K C Cf))
    (GF : KnM P w K mg base (L2.CX P w) C "finish" 35 ["self", "length"] (spFinish K C Cf)) (GR : Kn P w K mg base (L2.CX P w) "result_of" 41 ["steps"] (spResult K Cl Cd))
    (D : Df K mg "parse_formula" s_parse_formula ["text"]) : Kn P w K mg base (L2.CX P w) "parse_formula" 42 ["text"] (spParse K Cf Cl Cd) := by
  obtain ⟨f, fd, F, hm, hb⟩ := D
  obtain ⟨f_i, fd_i, G_StepOrder_init, M_StepOrder, b_StepOrder_init⟩ := GI
  obtain ⟨f_tokens_of, fd_tokens_of, G_tokens_of, m_tokens_of, k_tokens_of, b_tokens_of⟩ := GO
  obtain ⟨f_result_of, fd_result_of, G_result_of, m_result_of, k_result_of, b_result_of⟩ := GR
  obtain ⟨f_t, fd_t, G_StepOrder_take, h_StepOrder_take, b_StepOrder_take⟩ := GT
  obtain ⟨f_f, fd_f, G_StepOrder_finish, h_StepOrder_finish, b_StepOrder_finish⟩ := GF
  have c_StepOrder := S.c
  refine ⟨f, fd, F.okX sc_parse_formula (fun vs H Q E h => ?_) (fun cdv A outer s H vs Q E hr h => ?_), hm, F.kp, hb⟩
  · obtain ⟨l, ns, rfl, _⟩ := h
    rfl
  · obtain ⟨l, ns, rfl, hl, hn, hns, hst, qno, qsy, qs⟩ := h
    refine ⟨_, (pss_cons (ps_set (i := 1) sc_parse_formula.nd rfl (Or.inl rfl) (pe_make0 M_StepOrder G_StepOrder_init (hr.mono (by omega)) rfl hSO b_StepOrder_init .nil pass0))
      (pss_cons (ps_for (passes_of rfl) rfl (pi_list (pe_call G_tokens_of (hr.mono (by omega)) rfl m_tokens_of k_tokens_of b_tokens_of .nil (passes_call (takes_of rfl rfl rfl rfl) (fun _ _ _ _ h => h)) (pa_cons (pv 0) pa_nil))) (pg_tup (by rfl) (pgs_cons (pg_name (i := 2) sc_parse_formula.nd rfl (Or.inl rfl)) (pgs_cons (pg_name (i := 3) sc_parse_formula.nd rfl (Or.inl rfl)) pgs_nil)))
        (pss_one (ps_expr (pe_meth (pv 1) c_StepOrder h_StepOrder_take G_StepOrder_take (hr.mono (by omega)) b_StepOrder_take .nil (passes_call (takes_of rfl rfl rfl rfl) (fun _ _ _ _ h => h)) (pa_cons (pv 2) (pa_cons (pv 3) pa_nil))))))
      (pss_cons (ps_expr (pe_meth (pv 1) c_StepOrder h_StepOrder_finish G_StepOrder_finish (hr.mono (by omega)) b_StepOrder_finish .nil (passes_call (takes_of rfl rfl rfl rfl) (fun _ _ _ _ h => h)) (pa_cons (pe_callB call_len_str (by rfl) T.n_len (by decide +kernel) (pa_cons (pv 0) pa_nil)) pa_nil)))
      (pss_one (ps_ret (pe_call G_result_of (hr.mono (by omega)) rfl m_result_of k_result_of b_result_of .nil (passes_call (takes_of rfl rfl rfl rfl) (fun _ _ _ _ h => h)) (pa_cons (pe_fld (pv 1) rfl) pa_nil))))))), ?_⟩
    refine fun o dx no nd ndo => ⟨o, dx, rfl, upd_same, fun ps pw H1 so1 nps npw keep ts1 => ⟨rfl, ?_⟩⟩
    have n1 : H ps = none := by
      cases e : H ps with
      | none => rfl
      | some u =>
        by_cases h1 : ps = o
        · rw [h1, upd_same] at nps
          cases nps
        · by_cases h2 : ps = dx
          · rw [h2, upd_ne (fun z => ndo z), upd_same] at nps
            cases nps
          · rw [upd_ne h1, upd_ne h2, e] at nps
            cases nps
    have n2 : H pw = none := by
      cases e : H pw with
      | none => rfl
      | some u =>
        by_cases h1 : pw = o
        · rw [h1, upd_same] at npw
          cases npw
        · by_cases h2 : pw = dx
          · rw [h2, upd_ne (fun z => ndo z), upd_same] at npw
            cases npw
          · rw [upd_ne h1, upd_ne h2, e] at npw
            cases npw
    have s1 : Same H H1 := fun a u h => by
      have a1 := ne_of_none h no
      have a2 := ne_of_none h nd
      exact keep a u (by rw [upd_ne a1, upd_ne a2]; exact h) a1
    refine ⟨_, rfl, l, rfl, hl, fun ts hts D xs H2 s2 hD nD hxs => ?_, fun p hp dx H' s' hdx => qno p hp dx H' (s1.trans s') hdx⟩
    have Do : D ≠ o := fun z => by rw [z, so1.ob] at nD; cases nD
    have Dps : D ≠ ps := fun z => by
      obtain ⟨_, h, _⟩ := so1.st
      rw [z, h] at nD
      cases nD
    have Dpw : D ≠ pw := fun z => by
      obtain ⟨_, h, _⟩ := so1.wt
      rw [z, h] at nD
      cases nD
    have lx := dps_len hxs
    rw [List.length_map] at lx
    have wl := (toks_len hts (Nat.zero_le _))
    refine ⟨D, rfl, ⟨_, SqL.of hD⟩, ?_⟩
    refine for_list (K := K) (a := D) (xs := xs) (fun i σ H' => ∃ m o2 o3, σ = [some (tx l), some (.ref o), o2, o3] ∧ takesW ⟨[], [], .factor⟩ (ts.take i) = .ok m ∧ SO K C o dx ps pw m H' ∧ Same H H' ∧ TS H2 H' ∧ H' D = some (.lst xs) ∧ m.steps.length + m.wait.length ≤ i)
      ⟨⟨[], [], .factor⟩, none, none, rfl, rfl, so1.keep s2, s1.trans s2, TS.refl _, hD, Nat.le_refl _⟩ (fun i σ H' _ h => by obtain ⟨_, _, _, _, _, _, _, _, h, _⟩ := h; exact SqL.of h) ?_ ?_
    · rintro i x σ H3 hx ⟨m, o2, o3, rfl, em, so3, s3, t3, hD3, few⟩
      obtain ⟨dt, hdt, hdx⟩ := dps_get hxs hx
      rw [List.getElem?_map] at hdt
      obtain ⟨t, ht, rfl⟩ : ∃ t, ts[i]? = some t ∧ tokD t = dt := by
        cases z : ts[i]? with
        | none => rw [z] at hdt; cases hdt
        | some t => rw [z] at hdt; exact ⟨t, rfl, Option.some.inj hdt⟩
      have hi := get_lt ht
      have ed : ts = ts.take (i + 1) ++ ts.drop (i + 1) := (List.take_append_drop _ _).symm
      have hdx1 : Dp K H3 x (.tuple [.str (SX.S t.1), .int (t.2 : Nat)]) := dp_same (tps_sub H3) _ _ (dp_same ((TS.of (hide_sub D H2)).trans t3) _ _ (dp_tps _ _ rfl hdx))
      obtain ⟨tw, tl⟩ := toks_words hts t (List.mem_of_getElem? ht)
      cases hdx1 with
      | @tup at_ zs _ hsz haz =>
        cases haz with
        | cons y0 haz =>
          cases haz with
          | cons y1 haz =>
            cases haz
            cases y0
            cases y1
            refine ⟨_, _, rfl, hsz, rfl, _, _, rfl, _, _, rfl, rfl, ?_⟩
            refine ⟨_, rfl, o, dx, _, rfl, so3.ob, rfl, _, rfl, _, rfl, o, dx, ps, pw, m, t.1, t.2, rfl, ⟨so3, tw.wrd (by omega), by omega⟩, fun m' em' H4 so4 on4 t4 => ?_, fun e ee dx4 H4 on4 t4 hdx4 => ?_⟩
            · have ez := take_size em'
              exact ⟨m', _, _, rfl, by rw [take_more ht, takes_snoc em]; exact em', so4, only_same s3 on4 no n1 n2, t3.trans t4, on4 _ _ hD3 Do Dps Dpw, by omega⟩
            · refine qsy ts e hts ?_ dx4 H4 (only_same s3 on4 no n1 n2) hdx4
              have z : takesW ⟨[], [], .factor⟩ ts = .error e := by
                rw [ed]
                exact takes_err (by rw [take_more ht, takes_snoc em]; exact ee)
              unfold orderW
              rw [z]
    · rintro σ H3 ⟨m, o2, o3, rfl, em, so3, s3, t3, hD3, few⟩
      rw [lx, List.take_length] at em
      have eo : orderW ts l.length = endW m l.length := by
        unfold orderW
        rw [em]
      refine ⟨_, rfl, o, dx, _, rfl, so3.ob, rfl, _, rfl, SX.S l, rfl, (by rw [SX.S_len]; exact Nat.le_trans hl (by decide)), o, dx, ps, pw, m, l.length, congrArg (fun n : Nat => [V.ref o, V.int n]) (SX.S_len l), so3, fun ss es H4 so4 on4 t4 => ?_, fun e ee dx4 H4 on4 t4 hdx4 => ?_⟩
      · have s4 := only_same s3 on4 no n1 n2
        obtain ⟨rs, hrs, hrall⟩ := so4.st
        obtain ⟨h1, h2⟩ := hst ts ss hts (eo.trans es)
        obtain ⟨q1, q2, q3⟩ := qs ts ss hts (eo.trans es)
        exact ⟨_, rfl, o, C, dx, _, .ref ps, rfl, so4.ob, S.c, S.n1, rfl, ps, rs, ns, ss, rfl, hrs, dps_same (tps_sub H4) _ _ hrall, hn, hns, h1, h2, (by have z : ss.length + 0 ≤ 100000 := so4.few; omega),
          fun fs ef r H5 s5 fr => q1 fs ef r H5 (s4.trans s5) fr, fun e ee dx5 H5 s5 hdx5 => q2 e ee dx5 H5 (s4.trans s5) hdx5, fun e ee dx5 H5 s5 hdx5 => q3 e ee dx5 H5 (s4.trans s5) hdx5⟩
      · exact qsy ts e hts (eo.trans ee) dx4 H4 (only_same s3 on4 no n1 n2) hdx4
end

end Bs
namespace Bs
open PySem L2
/-! ### the grammar with what its texts are worth -/
inductive GrV (ns : List Str) : Prt → List Tkn → List Stp → List Fq → Prop
  | atom {w : List Nat} {p : Nat} {g : Fq} : WdOk ns w → w ≠ sumW → w ≠ avgW → ¬ signW w → perfW w p [] = .ok g → w ≠ oppW → GrV ns .fac [(w, p)] [(w, p, 0)] [g]
  | neg {p : Nat} {ts : List Tkn} {ss : List Stp} {g : Fq} : GrV ns .fac ts ss [g] → GrV ns .fac (([45], p) :: ts) (ss ++ [(oppW, p, 1)]) [sclQ (-1) g]
  | par {p q : Nat} {ts : List Tkn} {ss : List Stp} {g : Fq} : GrV ns .sm ts ss [g] → GrV ns .fac (([40], p) :: (ts ++ [([41], q)])) ss [g]
  | fn {w : List Nat} {p q r n : Nat} {ts : List Tkn} {ss : List Stp} {gs : List Fq} {g : Fq} : (w = sumW ∨ w = avgW) → GrV ns (.parts n) ts ss gs → perfW w p gs = .ok g → GrV ns .fac ((w, p) :: ([40], q) :: (ts ++ [([41], r)])) (ss ++ [(w, p, n)]) [g]
  | prd1 {ts : List Tkn} {ss : List Stp} {g : Fq} : GrV ns .fac ts ss [g] → GrV ns .prd ts ss [g]
  | prd {w : List Nat} {p : Nat} {ts us : List Tkn} {ss rr : List Stp} {a b g : Fq} : (w = [42] ∨ w = [47]) → GrV ns .prd ts ss [a] → GrV ns .fac us rr [b] → perfW w p [a, b] = .ok g → GrV ns .prd (ts ++ (w, p) :: us) (ss ++ rr ++ [(w, p, 2)]) [g]
  | sm1 {ts : List Tkn} {ss : List Stp} {g : Fq} : GrV ns .prd ts ss [g] → GrV ns .sm ts ss [g]
  | sm {w : List Nat} {p : Nat} {ts us : List Tkn} {ss rr : List Stp} {a b g : Fq} : (w = [43] ∨ w = [45]) → GrV ns .sm ts ss [a] → GrV ns .prd us rr [b] → perfW w p [a, b] = .ok g → GrV ns .sm (ts ++ (w, p) :: us) (ss ++ rr ++ [(w, p, 2)]) [g]
  | parts1 {ts : List Tkn} {ss : List Stp} {g : Fq} : GrV ns .sm ts ss [g] → GrV ns (.parts 1) ts ss [g]
  | parts {n p : Nat} {ts us : List Tkn} {ss rr : List Stp} {gs : List Fq} {b : Fq} : GrV ns (.parts n) ts ss gs → GrV ns .sm us rr [b] → GrV ns (.parts (n + 1)) (ts ++ ([44], p) :: us) (ss ++ rr) (gs ++ [b])
def cntP : Prt → Nat | .parts n => n | _ => 1
theorem GrV.gr {ns : List Str} {k : Prt} {ts : List Tkn} {ss : List Stp} {gs : List Fq} (h : GrV ns k ts ss gs) : Gr k ts ss := by
  induction h with
  | atom _ h1 h2 h3 _ _ => exact .atom h1 h2 h3
  | neg _ ih => exact .neg ih
  | par _ ih => exact .par ih
  | fn hw _ _ ih => exact .fn hw ih
  | prd1 _ ih => exact .prd1 ih
  | prd hw _ _ _ ih1 ih2 => exact .prd hw ih1 ih2
  | sm1 _ ih => exact .sm1 ih
  | sm hw _ _ _ ih1 ih2 => exact .sm hw ih1 ih2
  | parts1 _ ih => exact .parts1 ih
  | parts _ _ ih1 ih2 => exact .parts ih1 ih2
theorem GrV.cnt {ns : List Str} {k : Prt} {ts : List Tkn} {ss : List Stp} {gs : List Fq} (h : GrV ns k ts ss gs) : gs.length = cntP k ∧ 1 ≤ cntP k := by
  induction h with
  | parts _ _ ih1 _ =>
    refine ⟨?_, Nat.le_add_left ..⟩
    rw [List.length_append, ih1.1]
    rfl
  | _ => exact ⟨rfl, Nat.le_refl _⟩
theorem run_step {S ps : List Fq} {w : List Nat} {p n : Nat} {g : Fq} {rest : List Stp} (hn : ps.length = n) (hp : perfW w p ps = .ok g) : runW (S ++ ps) ((w, p, n) :: rest) = runW (S ++ [g]) rest := by
  show (match perfW w p ((S ++ ps).drop ((S ++ ps).length - n)) with | .ok g => runW ((S ++ ps).take ((S ++ ps).length - n) ++ [g]) rest | .error e => .error e) = _
  have e : (S ++ ps).length - n = S.length := by rw [List.length_append]; omega
  rw [e, List.drop_left, List.take_left, hp]
theorem GrV.run {ns : List Str} {k : Prt} {ts : List Tkn} {ss : List Stp} {gs : List Fq} (h : GrV ns k ts ss gs) : ∀ (S : List Fq) (rest : List Stp), runW S (ss ++ rest) = runW (S ++ gs) rest := by
  induction h with
  | @atom w p g _ _ _ _ hp _ =>
    intro S rest
    have z := run_step (S := S) (ps := []) (rest := rest) (n := 0) rfl hp
    rw [List.append_nil] at z
    exact z
  | neg _ ih =>
    intro S rest
    rw [List.append_assoc, ih]
    exact run_step rfl (pf_opp rfl)
  | par _ ih => exact ih
  | fn hw hg hp ih =>
    intro S rest
    rw [List.append_assoc, ih]
    exact run_step hg.cnt.1 hp
  | prd1 _ ih => exact ih
  | prd hw _ _ hp ih1 ih2 =>
    intro S rest
    rw [List.append_assoc, List.append_assoc, ih1, ih2, List.append_assoc]
    exact run_step rfl hp
  | sm1 _ ih => exact ih
  | sm hw _ _ hp ih1 ih2 =>
    intro S rest
    rw [List.append_assoc, List.append_assoc, ih1, ih2, List.append_assoc]
    exact run_step rfl hp
  | parts1 _ ih => exact ih
  | parts _ _ ih1 ih2 =>
    intro S rest
    rw [List.append_assoc, ih1, ih2, List.append_assoc]
theorem wd_op {ns : List Str} {w : List Nat} (h : w = oppW ∨ w = sumW ∨ w = avgW ∨ w = [43] ∨ w = [45] ∨ w = [42] ∨ w = [47]) : WdOk ns w := by
  have key : w ≠ [] ∧ w.length ≤ 100000 ∧ (w ≠ [40] ∧ w ≠ [41] ∧ w ≠ [44]) ∧ ¬ digW w := by
    rcases h with rfl | rfl | rfl | rfl | rfl | rfl | rfl
    all_goals refine ⟨by decide, by decide, by decide, ?_⟩
    all_goals
      rintro ⟨c, h1, h2⟩
      cases h1
      exact absurd h2 (by decide)
  refine ⟨key.1, key.2.1, key.2.2.1, fun d => absurd d key.2.2.2, fun _ n1 n2 n3 n4 => ?_⟩
  rcases h with h | h | h | h | h | h | h
  · exact absurd h n1
  · exact absurd h n3
  · exact absurd h n4
  · exact absurd (.inl h) n2
  · exact absurd (.inr (.inl h)) n2
  · exact absurd (.inr (.inr (.inl h))) n2
  · exact absurd (.inr (.inr (.inr (.inl h)))) n2
theorem sign_of {w : List Nat} (h : w = [45] ∨ w = [42] ∨ w = [47]) : signW w := by
  rcases h with rfl | rfl | rfl <;> decide
theorem GrV.hts {ns : List Str} {k : Prt} {ts : List Tkn} {ss : List Stp} {gs : List Fq} (h : GrV ns k ts ss gs) : ∀ (a : Nat) (rest : List Stp), Hts ns (a + gs.length) rest → Hts ns a (ss ++ rest) := by
  have two : ∀ {w : List Nat}, (w = [42] ∨ w = [47]) ∨ (w = [43] ∨ w = [45]) → arW w 2 := fun {w} h => ⟨fun _ => by decide, fun _ => Nat.le_refl _⟩
  induction h with
  | @atom w p g hw h1 h2 h3 _ h4 =>
    intro a rest z
    exact ⟨Nat.zero_le _, ⟨fun y => (y.elim h4 h2).elim, fun y => (h3 (sign_of y)).elim⟩, hw, z⟩
  | neg _ ih =>
    intro a rest z
    rw [List.append_assoc]
    exact ih a _ ⟨by show 1 ≤ a + 1; omega, ⟨fun _ => Nat.le_refl _, fun y => absurd y (by decide : ¬ (oppW = [45] ∨ oppW = [42] ∨ oppW = [47]))⟩, wd_op (.inl rfl), z⟩
  | par _ ih => exact ih
  | @fn w p q r n ts ss gs g hw hg hp ih =>
    intro a rest z
    rw [List.append_assoc]
    have hc := hg.cnt
    refine ih a _ ⟨?_, ⟨fun _ => hc.2, fun y => ?_⟩, wd_op (hw.elim (fun e => .inr (.inl e)) fun e => .inr (.inr (.inl e))), ?_⟩
    · rw [hc.1]
      exact Nat.le_add_left ..
    · rcases hw with rfl | rfl
      · exact absurd y (by decide : ¬ (sumW = [45] ∨ sumW = [42] ∨ sumW = [47]))
      · exact absurd y (by decide : ¬ (avgW = [45] ∨ avgW = [42] ∨ avgW = [47]))
    · rw [hc.1]
      show Hts ns (a + n - n + 1) rest
      rw [Nat.add_sub_cancel]
      exact z
  | prd1 _ ih => exact ih
  | @prd w p ts us ss rr x y g hw _ _ hp ih1 ih2 =>
    intro a rest z
    rw [List.append_assoc, List.append_assoc]
    exact ih1 a _ (ih2 _ _ ⟨by show 2 ≤ a + 1 + 1; omega, two (.inl hw), wd_op (by rcases hw with h | h <;> simp [h]), z⟩)
  | sm1 _ ih => exact ih
  | @sm w p ts us ss rr x y g hw _ _ hp ih1 ih2 =>
    intro a rest z
    rw [List.append_assoc, List.append_assoc]
    exact ih1 a _ (ih2 _ _ ⟨by show 2 ≤ a + 1 + 1; omega, two (.inr hw), wd_op (by rcases hw with h | h <;> simp [h]), z⟩)
  | parts1 _ ih => exact ih
  | parts _ _ ih1 ih2 =>
    intro a rest z
    rw [List.append_assoc]
    refine ih1 a _ (ih2 _ _ ?_)
    rw [List.length_append, ← Nat.add_assoc] at z
    exact z
theorem wsz_app (xs ys : List Stp) : wsz (xs ++ ys) = wsz xs + wsz ys := by
  unfold wsz
  rw [List.map_append, List.sum_append]
theorem wlen_app (xs ys : List (List Nat × Nat)) : wlen (xs ++ ys) = wlen xs + wlen ys := by
  unfold wlen
  rw [List.map_append, List.sum_append]
theorem kost_le (w : List Nat) : kost w ≤ 4 * w.length + 12 := by
  unfold kost
  split <;> omega
theorem GrV.bits {ns : List Str} {k : Prt} {ts : List Tkn} {ss : List Stp} {gs : List Fq} (h : GrV ns k ts ss gs) : wsz ss ≤ 17 * wlen ts := by
  have one : ∀ (w : List Nat) (p n : Nat), wsz [(w, p, n)] = kost w + 1 := fun w p n => by show kost w + 1 + 0 = _; omega
  have hd : ∀ (w : List Nat) (p : Nat) (ts : List (List Nat × Nat)), wlen ((w, p) :: ts) = w.length + wlen ts := fun _ _ _ => rfl
  have nl : wlen [] = 0 := rfl
  induction h with
  | @atom w p g hw _ _ _ _ _ =>
    have := kost_le w
    have : 0 < w.length := List.length_pos_iff.mpr hw.ne
    rw [one, hd, nl]
    omega
  | neg _ ih =>
    rw [wsz_app, one, hd]
    have : kost oppW = 0 := rfl
    simp only [List.length_cons, List.length_nil]
    omega
  | par _ ih =>
    rw [hd, wlen_app]
    omega
  | @fn w p q r n ts ss gs g hw _ _ ih =>
    have := kost_le w
    have : 3 ≤ w.length := by rcases hw with rfl | rfl <;> decide
    rw [wsz_app, one, hd, hd, wlen_app]
    omega
  | prd1 _ ih => exact ih
  | @prd w p ts us ss rr x y g hw _ _ _ ih1 ih2 =>
    have := kost_le w
    have : w.length = 1 := by rcases hw with rfl | rfl <;> rfl
    rw [wsz_app, wsz_app, one, wlen_app, hd]
    omega
  | sm1 _ ih => exact ih
  | @sm w p ts us ss rr x y g hw _ _ _ ih1 ih2 =>
    have := kost_le w
    have : w.length = 1 := by rcases hw with rfl | rfl <;> rfl
    rw [wsz_app, wsz_app, one, wlen_app, hd]
    omega
  | parts1 _ ih => exact ih
  | parts _ _ ih1 ih2 =>
    rw [wsz_app, wlen_app, hd]
    omega
theorem toks_uniq {l : List Nat} {i : Nat} {ts : List (List Nat × Nat)} (h : Toks l i ts) : ∀ {us : List (List Nat × Nat)}, Toks l i us → ts = us := by
  induction h with
  | @done i h =>
    intro us k
    cases k with
    | done _ => rfl
    | space e _ => exact absurd (List.getElem?_eq_some_iff.mp e).1 (by omega)
    | tok _ e _ _ => omega
  | @space i ts e _ ih =>
    intro us k
    cases k with
    | done h => exact absurd (List.getElem?_eq_some_iff.mp e).1 (by omega)
    | space _ k => exact ih k
    | tok n _ _ _ => exact absurd e n
  | @tok i ts n hi h0 _ ih =>
    intro us k
    cases k with
    | done h => omega
    | space e _ => exact absurd e n
    | tok _ _ _ k => rw [ih k]
theorem toks_yes {l : List Nat} {i : Nat} {ts : List (List Nat × Nat)} (h : Toks l i ts) : ∀ {p : Nat}, ¬ ToksNo l i p := by
  induction h with
  | @done i h =>
    intro p k
    cases k with
    | here _ e _ => omega
    | space e _ => exact absurd (List.getElem?_eq_some_iff.mp e).1 (by omega)
    | tok _ e _ _ => omega
  | @space i ts e _ ih =>
    intro p k
    cases k with
    | here n _ _ => exact n e
    | space _ k => exact ih k
    | tok n _ _ _ => exact n e
  | @tok i ts n hi h0 _ ih =>
    intro p k
    cases k with
    | here _ _ e => omega
    | space e _ => exact n e
    | tok _ _ _ k => exact ih k
/-- a text that the grammar has: what parse_formula is asked, and gives -/
theorem parse_yes {K : PySem.W.Frag} {Cf Cl Cd : Addr} {H : Hp} {Q : VK} {E : XK} {l : List Nat} {ns : List Str} {ts : List Tkn} {ss : List Stp} {g : Fq} (hl : l.length ≤ 60000) (hn : ∀ x ∈ ns, PyData.strOk x = true) (hns : ns.length ≤ 60)
    (ht : Toks l 0 ts) (hg : GrV ns .sm ts ss [g]) (q : ∀ r H', Same H H' → FmA K ns H' r g (17 * l.length) → Q r H') : spParse K Cf Cl Cd [tx l] H Q E := by
  have eo := gr_order hg.gr l.length
  have er := hg.run [] []
  rw [List.append_nil] at er
  have hb := hg.bits
  have wl := (toks_len ht (Nat.zero_le _)).1
  have hts := hg.hts 0 [] (Nat.le_refl 1)
  rw [List.append_nil] at hts
  have same : ∀ us rr, Toks l 0 us → orderW us l.length = .ok rr → rr = ss := fun us rr h1 h2 => by
    rw [← toks_uniq ht h1, eo] at h2
    injection h2 with h2
    exact h2.symm
  refine ⟨l, ns, rfl, by omega, hn, hns, fun us rr h1 h2 => ?_, fun p hp => absurd hp (toks_yes ht), fun us p h1 h2 => ?_, fun us rr h1 h2 => ?_⟩
  · rw [same us rr h1 h2]
    exact ⟨hts, by omega⟩
  · rw [← toks_uniq ht h1, eo] at h2
    cases h2
  · rw [same us rr h1 h2]
    refine ⟨fun fs ef r H' s fr => ?_, fun e ee => ?_, fun e ee => ?_⟩
    · rw [er] at ef
      injection ef with ef
      rw [← ef] at fr
      exact q r H' s (fr.mono (by omega))
    · rw [er] at ee
      cases ee
    · rw [er] at ee
      cases ee

end Bs
namespace Bs
open PySem L2
theorem rok_small {l : List Nat} (h : l.length ≤ 1500) : Rok l := by
  show l.length ≤ 4990
  omega
theorem numL_head {n c : Nat} {r : List Nat} (h : TL.numL n = c :: r) : c ≠ 45 := by
  have := TL.numL_digits n c (by rw [h]; exact List.mem_cons_self ..)
  omega
theorem unsg_num (n : Nat) (t : List Nat) : unsg (TL.numL n ++ t) = TL.numL n ++ t ∧ neg1 (TL.numL n ++ t) = false := by
  cases h : TL.numL n with
  | nil => exact absurd h (TL.numL_ne n)
  | cons c r =>
    have hc := numL_head h
    refine ⟨?_, ?_⟩
    · unfold unsg
      split
      · rename_i w
        exact absurd (List.cons.inj w).1 hc
      · rfl
    · unfold neg1
      rw [decide_eq_false_iff_not]
      intro z
      exact hc (Option.some.inj z)
theorem unsg_int (n : Int) (t : List Nat) : unsg (intL n ++ t) = TL.numL n.natAbs ++ t ∧ neg1 (intL n ++ t) = decide (n < 0) := by
  unfold intL
  by_cases h : n < 0
  · rw [if_pos h, decide_eq_true h]
    exact ⟨rfl, rfl⟩
  · rw [if_neg h, decide_eq_false h]
    exact unsg_num _ t
theorem digs_num (n : Nat) : digB (TL.numL n) = true := digs_iff.mpr ⟨TL.numL_ne n, TL.numL_digits n⟩
theorem sgnd_int {n : Int} {l : List Nat} (h : neg1 l = decide (n < 0)) : sgnd l n.natAbs = n := by
  unfold sgnd
  rw [h]
  by_cases c : n < 0
  · rw [decide_eq_true c, if_pos rfl]
    omega
  · rw [decide_eq_false c, if_neg Bool.false_ne_true]
    omega
theorem intL_pos {n : Int} (h : 0 ≤ n) : intL n = TL.numL n.natAbs := if_neg (by omega)
theorem readL_rat {z : Int × Int} (h : Red z) : readL (ratL z) = some z := by
  have hp := h.pos
  unfold ratL
  split
  · rename_i e
    have u := unsg_int z.1 []
    rw [List.append_nil, List.append_nil] at u
    unfold readL
    rw [u.1, readU_digs (digs_num _), TL.numL_val, sgnd_int u.2]
    have e2 := nrm_of h
    rw [e] at e2
    rw [e2]
  · have u := unsg_int z.1 (47 :: intL z.2)
    unfold readL
    rw [u.1, intL_pos (n := z.2) (by omega), readU_mark rfl (TL.numL_digits _) (by rfl), if_pos ⟨digs_num _, digs_num _⟩]
    unfold markOf
    rw [if_neg (by decide), if_pos rfl, TL.numL_val, TL.numL_val, if_neg (by omega)]
    rw [← intL_pos (n := z.2) (by omega), sgnd_int u.2, show ((z.2.natAbs : Nat) : Int) = z.2 by omega, nrm_of h]
theorem not_mem_num {n c : Nat} (h : isD c = false) : c ∉ TL.numL n := not_mem_digs (digs_num n) h
theorem intL_le {n : Int} {k : Nat} (hk : 0 < k) (h : n.natAbs < 10 ^ k) : (intL n).length ≤ k + 1 := by
  have := TL.numL_len hk h
  unfold intL
  split
  · rw [List.length_cons]
    omega
  · omega
theorem int_txt (i : Int) : Str.ofString (toString i) = SX.S (intL i) := by
  cases i with
  | ofNat n => 
    rw [show Int.ofNat n = ((n : Nat) : Int) from rfl, SX.num_S]
    exact congrArg SX.S (intL_pos (n := (n : Int)) (by omega)).symm
  | negSucc n =>
    have e : toString (Int.negSucc n) = "-" ++ toString (((n + 1 : Nat) : Int)) := rfl
    have e2 : Str.ofString (toString (((n + 1 : Nat) : Int))) = SX.S (TL.numL (n + 1)) := SX.num_S (n + 1)
    rw [Str.ofString_eq_toList] at e2
    have e3 := SX.S_inj e2
    rw [e, Str.ofString_eq_toList, String.toList_append, List.map_append, e3]
    have e4 : intL (Int.negSucc n) = 45 :: TL.numL (n + 1) := if_pos (Int.negSucc_lt_zero n)
    rw [e4]
    rfl
theorem log700 {n : Int} (h : n.natAbs < 2 ^ 700) : n.natAbs.log2 < 1920 := PySem.Flt.log2_lt_of (by decide) (Nat.lt_trans h (by decide +kernel))
theorem intL_700 {n : Int} (h : n.natAbs < 2 ^ 700) : (intL n).length ≤ 212 := intL_le (k := 211) (by decide) (Nat.lt_trans h (by decide +kernel))
theorem small5000 {n : Int} (h : n.natAbs < 2 ^ 700) : n.natAbs < 10 ^ 5000 := Nat.lt_trans h (by decide +kernel)

/-! ### a form as text -/
theorem take_eqS (l p : List Nat) : Builtin.Str.subAt (SX.S l) (SX.S p) 0 = decide (l.take p.length = p) := by
  rw [StrLaws.subAt_eq, SX.S_len]
  show (List.take p.length (List.drop 0 (SX.S l).cps.toList) == (SX.S p).cps.toList) = _
  rw [List.drop_zero, show (SX.S l).cps.toList = l by simp [SX.S], show (SX.S p).cps.toList = p by simp [SX.S]]
  rw [Bool.eq_iff_iff, beq_iff_eq, decide_eq_true_eq]
theorem startsP (l p : List Nat) : Txt.startswith (SX.S l) (SX.S p) = decide (l.take p.length = p) := by
  unfold Txt.startswith
  rw [take_eqS, SX.S_len, SX.S_len]
  by_cases h : l.take p.length = p
  · have z := congrArg List.length h
    rw [List.length_take] at z
    rw [decide_eq_true h, Bool.and_true, decide_eq_true (by omega : 0 + p.length ≤ l.length)]
  · rw [decide_eq_false h, Bool.and_false]
theorem rmS (l p : List Nat) : Txt.removeprefix (SX.S l) (SX.S p) = SX.S (if l.take p.length = p then l.drop p.length else l) := by
  rw [StrLaws.removeprefix_eq, take_eqS, SX.S_len, SX.S_len]
  by_cases h : l.take p.length = p
  · have z := congrArg List.length h
    rw [List.length_take] at z
    rw [decide_eq_true h, if_pos h, if_pos (by rw [decide_eq_true (by omega : 0 + p.length ≤ l.length)]; rfl), show (SX.S l).cps.toList = l by simp [SX.S]]
    rw [← List.length_drop, List.take_length]
  · rw [decide_eq_false h, if_neg h, if_neg (by rw [Bool.and_false]; exact Bool.false_ne_true)]
/-- a number's text without its sign; a part of a form's text with its sign; a term -/
def unsL (z : Int × Int) : List Nat := ratL ((z.1.natAbs : Int), z.2)
def sgL (z : Int × Int) : List Nat := if z.1 < 0 then [32, 45, 32] else [32, 43, 32]
def trmL (z : Int × Int) (n : List Nat) : List Nat := if unsL z = [49] then n else unsL z ++ 42 :: n
theorem uns_is (z : Int × Int) : (if (ratL z).take 1 = [45] then (ratL z).drop 1 else ratL z) = unsL z := by
  have ne45 : ∀ n : Nat, (TL.numL n).take 1 ≠ [45] := fun n e => by
    cases h : TL.numL n with
    | nil => exact absurd h (TL.numL_ne n)
    | cons c r =>
      rw [h] at e
      injection e with e
      exact numL_head h e
  have hd : ∀ (n : Nat) (t : List Nat), (TL.numL n ++ t).take 1 = (TL.numL n).take 1 := fun n t => by
    cases h : TL.numL n with
    | nil => exact absurd h (TL.numL_ne n)
    | cons c r => rfl
  have hp : ∀ n : Nat, intL (n : Int) = TL.numL n := fun n => by
    unfold intL
    rw [if_neg (by omega), Int.natAbs_natCast]
  unfold unsL ratL
  by_cases hm : z.2 = 1
  · rw [if_pos hm, if_pos hm, hp]
    by_cases h0 : z.1 < 0
    · have e : intL z.1 = 45 :: TL.numL z.1.natAbs := if_pos h0
      rw [e]
      exact if_pos rfl
    · have e : intL z.1 = TL.numL z.1.natAbs := if_neg h0
      rw [e, if_neg (ne45 _)]
  · rw [if_neg hm, if_neg hm, hp]
    by_cases h0 : z.1 < 0
    · have e : intL z.1 = 45 :: TL.numL z.1.natAbs := if_pos h0
      rw [e]
      exact if_pos rfl
    · have e : intL z.1 = TL.numL z.1.natAbs := if_neg h0
      rw [e, if_neg (by rw [hd]; exact ne45 _)]
def Tall (z : Int × Int) : Prop := z.1.natAbs < 10 ^ 5000 ∧ z.2.natAbs < 10 ^ 5000
theorem ratL_len {z : Int × Int} (h : Tall z) : (ratL z).length ≤ 10003 := by
  have l1 := intL_len h.1
  have l2 := intL_len h.2
  unfold ratL
  split
  · omega
  · rw [List.length_append, List.length_cons]
    omega
theorem unsL_len {z : Int × Int} (h : Tall z) : (unsL z).length ≤ 10003 := ratL_len (z := ((z.1.natAbs : Int), z.2)) ⟨by rw [Int.natAbs_natCast]; exact h.1, h.2⟩
def spUns (K : PySem.W.Frag) : Sp := fun vs H Q _ => ∃ (x : V) (z : Int × Int), vs = [x] ∧ Nv K H x z ∧ Tall z ∧ ∀ H', Same H H' → Q (tx (unsL z)) H'
def spSigned (K : PySem.W.Frag) : Sp := fun vs H Q _ => ∃ (x : V) (z : Int × Int) (l : List Nat), vs = [x, tx l] ∧ Dp K H x (numD z) ∧ l.length ≤ 20000 ∧ Q (tx (sgL z ++ l)) H
def spTerm (K : PySem.W.Frag) : Sp := fun vs H Q _ => ∃ (x : V) (z : Int × Int) (n : List Nat), vs = [x, tx n] ∧ Nv K H x z ∧ Tall z ∧ n.length ≤ 100 ∧ ∀ H', Same H H' → Q (tx (trmL z n)) H'
section
variable {P : Program} {w : World} {K : PySem.W.Frag} {mg : Str → Option Value} {base : Heap}
theorem strS_eq (x : Str) : SX.S x.cps.toList = x := by
  cases x
  simp [SX.S]
def ptL (u : Str × (Int × Int)) : List Nat := sgL u.2 ++ trmL u.2 u.1.cps.toList
def prL (ts : Ts) (c : Int × Int) : List (List Nat) := ts.map ptL ++ (if c.1 ≠ 0 ∨ ts = [] then [sgL c ++ unsL c] else [])
def fmL (ts : Ts) (c : Int × Int) : List Nat :=
  if (prL ts c).flatten.take 3 = [32, 45, 32] then 45 :: (prL ts c).flatten.drop 3 else if (prL ts c).flatten.take 3 = [32, 43, 32] then (prL ts c).flatten.drop 3 else (prL ts c).flatten
theorem apply_ite_q {Q : VK} {H : Hp} {t : List Nat} (h : Q (tx (if t.take 3 = [32, 43, 32] then t.drop 3 else t)) H) : Q (.str (SX.S (if t.take ([32, 43, 32] : List Nat).length = [32, 43, 32] then t.drop ([32, 43, 32] : List Nat).length else t))) H := h
theorem joinNil : ∀ ys : List (List Nat), TL.joinL [] ys = ys.flatten
  | [] => rfl
  | [y] => by
    show y = y ++ []
    rw [List.append_nil]
  | y :: z :: r => by
    show y ++ ([] ++ TL.joinL [] (z :: r)) = y ++ (z :: r).flatten
    rw [joinNil (z :: r), List.nil_append]
theorem len_S : (fun l : List Nat => (SX.S l).length) = List.length := funext fun l => SX.S_len l
theorem flat_le {k : Nat} : ∀ {ys : List (List Nat)}, (∀ y ∈ ys, y.length ≤ k) → ys.flatten.length ≤ k * ys.length
  | [], _ => Nat.le_refl _
  | y :: ys, h => by
    have h1 := h y (List.mem_cons_self ..)
    have h2 := flat_le (ys := ys) fun z hz => h z (List.mem_cons_of_mem _ hz)
    rw [List.flatten_cons, List.length_append, List.length_cons, Nat.mul_add]
    omega
theorem terms_shp2 {ts : Ts} (h : ∀ t ∈ ts, PyData.strOk t.1 = true) : SeqAt.shaped (.tuple (ts.map fun t => termN t.1 t.2)) = true :=
  (fine.tup (n := 2) fun d hd => by
    obtain ⟨t, ht, rfl⟩ := List.mem_map.mp hd
    refine fine.tup (n := 1) fun e he => ?_
    simp only [List.mem_cons, List.not_mem_nil, or_false] at he
    rcases he with rfl | rfl
    · exact (fine_str (h _ ht)).mono (by decide)
    · exact fine_rat _ _).shp (by decide)
theorem sgL_len (z : Int × Int) : (sgL z).length = 3 := by
  unfold sgL
  split <;> rfl
theorem trmL_len {z : Int × Int} {n : List Nat} (h : Tall z) (hn : n.length ≤ 100) : (trmL z n).length ≤ 10104 := by
  have := unsL_len h
  unfold trmL
  split
  · omega
  · rw [List.length_append, List.length_cons]
    omega
def spFText (K : PySem.W.Frag) : Sp := fun vs H Q _ => ∃ (v : V) (ts : Ts) (c : Int × Int), vs = [v] ∧ FormAt K H v ts c ∧ (∀ t ∈ ts, Red t.2 ∧ Tall t.2 ∧ t.1.cps.toList.length ≤ 100 ∧ PyData.strOk t.1 = true) ∧ Red c ∧ Tall c ∧ ts.length ≤ 60 ∧ ∀ H', Same H H' → Q (tx (fmL ts c)) H'
end

end Bs
namespace Bs
open PySem L2
/-! ### a dict of values by names, of any kind that the tuples alone decide -/
def StabT (R : Hp → V → Str → Prop) : Prop := ∀ H H' v x, TS H H' → R H v x → R H' v x
structure DX (R : Hp → V → Str → Prop) (H : Hp) (d : Addr) (ks : List Str) : Prop where
  nd : ks.Nodup
  at_ : ∃ kvs, H d = some (.dK kvs) ∧ kvs.map (·.1) = ks.map Sum.inr ∧ ∀ x ∈ ks, ∃ v, valV kvs (Sum.inr x) = some v ∧ R H v x
theorem DX.keepT {R : Hp → V → Str → Prop} (st : StabT R) {H H' : Hp} {d : Addr} {ks : List Str} (D : DX R H d ks) (e : H' d = H d) (t : TS H H') : DX R H' d ks := by
  obtain ⟨kvs, h1, h2, h3⟩ := D.at_
  refine ⟨D.nd, kvs, by rw [e]; exact h1, h2, fun x hx => ?_⟩
  obtain ⟨v, ev, hv⟩ := h3 x hx
  exact ⟨v, ev, st _ _ _ _ t hv⟩
theorem DX.keep {R : Hp → V → Str → Prop} (st : StabT R) {H H' : Hp} {d : Addr} {ks : List Str} (D : DX R H d ks) (s : Same H H') : DX R H' d ks := by
  obtain ⟨kvs, h1, h2, h3⟩ := D.at_
  exact D.keepT st (by rw [h1, s _ _ h1]) (TS.of s)
theorem DX.new {R : Hp → V → Str → Prop} {H : Hp} {d : Addr} : DX R (upd H d (.dK [])) d [] := ⟨List.nodup_nil, [], upd_same, rfl, fun x hx => by cases hx⟩
theorem DX.get {R : Hp → V → Str → Prop} {H : Hp} {d : Addr} {ks : List Str} (D : DX R H d ks) {x : Str} (hx : x ∈ ks) : ∃ v, DGet H d (.str x) (some v) ∧ R H v x := by
  obtain ⟨kvs, h1, h2, h3⟩ := D.at_
  obtain ⟨v, e, hv⟩ := h3 x hx
  exact ⟨v, .inl ⟨kvs, Sum.inr x, .inl h1, rfl, e.symm⟩, hv⟩
theorem DX.miss {R : Hp → V → Str → Prop} {H : Hp} {d : Addr} {ks : List Str} (D : DX R H d ks) {x : Str} (hx : x ∉ ks) : DGet H d (.str x) none := by
  obtain ⟨kvs, h1, h2, h3⟩ := D.at_
  exact .inl ⟨kvs, Sum.inr x, .inl h1, rfl, (valV_keys h2 hx).symm⟩
theorem DX.len {R : Hp → V → Str → Prop} {H : Hp} {d : Addr} {ks : List Str} (D : DX R H d ks) {kvs : List (Key × V)} (h : H d = some (.dK kvs)) : kvs.length = ks.length := by
  obtain ⟨kvs2, h1, h2, _⟩ := D.at_
  rw [h] at h1
  cases h1
  have z := congrArg List.length h2
  rw [List.length_map, List.length_map] at z
  exact z
theorem DX.put {R S : Hp → V → Str → Prop} (st : StabT S) {H : Hp} {d : Addr} {ks : List Str} {kvs : List (Key × V)} (D : DX R H d ks) (h : H d = some (.dK kvs)) {x : Str} {v : V} (hv : S H v x) (old : ∀ y u, y ≠ x → R H u y → S H u y) :
    DX S (upd H d (.dK (putK kvs (Sum.inr x) v))) d (addN ks x) := by
  obtain ⟨kvs2, h1, h2, h3⟩ := D.at_
  rw [h] at h1
  cases h1
  have t : TS H (upd H d (.dK (putK kvs (Sum.inr x) v))) := TS.upd h rfl
  refine ⟨nd_addN D.nd, _, upd_same, ?_, fun y hy => ?_⟩
  · unfold addN
    by_cases hx : x ∈ ks
    · rw [if_pos hx, putK_old _ _ _ (by rw [h2]; exact mem_inr.mpr hx), h2]
    · rw [if_neg hx, putK_more _ _ _ (by rw [h2]; exact fun w => hx (mem_inr.mp w)), h2, List.map_append]
      rfl
  · rw [valV_put]
    by_cases e : y = x
    · subst e
      exact ⟨v, if_pos rfl, st _ _ _ _ t hv⟩
    · obtain ⟨u, e1, hu⟩ := h3 y ((mem_addN.mp hy).resolve_right e)
      refine ⟨u, ?_, st _ _ _ _ t (old y u e hu)⟩
      rw [if_neg (fun q => e (by injection q))]
      exact e1
/-- forms by names -/
def FmR (K : PySem.W.Frag) (ns : List Str) (ff : Str → Fq × Nat) : Hp → V → Str → Prop := fun H v x => FmA K ns H v (ff x).1 (ff x).2
theorem FmR.st (K : PySem.W.Frag) (ns : List Str) (ff : Str → Fq × Nat) : StabT (FmR K ns ff) := fun _ _ _ _ t h => FmA.ts h t
/-- a form with other forms in the place of its names -/
def subQ (ts : Ts) (c : Rat) (ff : Str → Fq × Nat) : Fq := ts.foldl (fun a t => addQ a (sclQ (qv t.2) (ff t.1).1)) (conQ c)
def subK (k : Nat) (ts : Ts) (ff : Str → Fq × Nat) : Nat := (ts.map fun t => k + (ff t.1).2 + 1).sum + k
def spRepl (K : PySem.W.Frag) : Sp := fun vs H Q _ => ∃ (v : V) (d : Addr) (ns ms : List Str) (ts : Ts) (c : Int × Int) (k : Nat) (ks : List Str) (ff : Str → Fq × Nat), vs = [v, .ref d] ∧ FormAt K H v ts c ∧ FormK ms k ts c ∧ 1 ≤ k ∧ ms.length ≤ 60 ∧ ns.length ≤ 60 ∧
  DX (FmR K ns ff) H d ks ∧ (∀ t ∈ ts, t.1 ∈ ks) ∧ subK k ts ff ≤ 39999990 ∧ ∀ r H', Same H H' → FmA K ns H' r (subQ ts (qv c) ff) (subK k ts ff) → Q r H'
section
variable {P : Program} {w : World} {K : PySem.W.Frag} {mg : Str → Option Value} {base : Heap}
theorem ok_replaced_form (GA : Kn P w K mg base CX0 "add_forms" 35 ["one", "other"] (spAddF K)) (GS : Kn P w K mg base CX0 "scale_form" 37 ["number", "form"] (spScaleF K)) (GC : Kn P w K mg base CX0 "constant_form" 36 ["number"] (spConstF K))
    (D : Df K mg "replaced_form" s_replaced_form ["form", "found"]) : Kn P w K mg base CX0 "replaced_form" 38 ["form", "found"] (spRepl K) := by
  obtain ⟨f, fd, F, hm, hb⟩ := D
  obtain ⟨f_add_forms, fd_add_forms, G_add_forms, m_add_forms, k_add_forms, b_add_forms⟩ := GA
  obtain ⟨f_scale_form, fd_scale_form, G_scale_form, m_scale_form, k_scale_form, b_scale_form⟩ := GS
  obtain ⟨f_constant_form, fd_constant_form, G_constant_form, m_constant_form, k_constant_form, b_constant_form⟩ := GC
  refine ⟨f, fd, F.ok sc_replaced_form (fun vs H Q E h => ?_) (fun cdv A outer s H vs Q E hr h => ?_), hm, F.kp, hb⟩
  · obtain ⟨v, d, ns, ms, ts, c, k, ks, ff, rfl, _⟩ := h
    rfl
  · obtain ⟨v, d, ns, ms, ts, c, k, ks, ff, rfl, fv, gt, k1, hms, hns, hd, hin, bits, q⟩ := h
    refine ⟨_, (pss_cons (ps_asg (pv 0) (pg_tup (by rfl) (pgs_cons (pg_name (i := 2) sc_replaced_form.nd rfl (Or.inl rfl)) (pgs_cons (pg_name (i := 3) sc_replaced_form.nd rfl (Or.inl rfl)) pgs_nil))))
      (pss_cons (ps_set (i := 4) sc_replaced_form.nd rfl (Or.inl rfl) (pe_call G_constant_form (hr.mono (by omega)) rfl m_constant_form k_constant_form b_constant_form .nil pass0 (pa_cons (pv 3) pa_nil)))
      (pss_cons (ps_for PassesOwn.never rfl (pi_tup (pv 2)) (pg_tup (by rfl) (pgs_cons (pg_name (i := 5) sc_replaced_form.nd rfl (Or.inl rfl)) (pgs_cons (pg_name (i := 6) sc_replaced_form.nd rfl (Or.inl rfl)) pgs_nil)))
        (pss_one (ps_set (i := 4) sc_replaced_form.nd rfl (Or.inl rfl) (pe_call G_add_forms (hr.mono (by omega)) rfl m_add_forms k_add_forms b_add_forms .nil pass0 (pa_cons (pv 4) (pa_cons (pe_call G_scale_form (hr.mono (by omega)) rfl m_scale_form k_scale_form b_scale_form .nil pass0 (pa_cons (pv 6) (pa_cons (pe_dget (hu_of hr) (pv 1) (pv 5) (fun _ _ => rfl)) pa_nil))) pa_nil))))))
      (pss_one (ps_ret (pv 4)))))), ?_⟩
    obtain ⟨a1, p1, xs1, c1, rfl, h1, hc1, n1, t1⟩ := fv
    have lt1 := dps_len t1
    rw [List.length_map] at lt1
    refine ⟨_, rfl, a1, _, rfl, h1, rfl, .ref p1, _, rfl, c1, _, rfl, rfl, ?_⟩
    refine ⟨_, rfl, c1, c, rfl, ⟨_, hc1, numOf_rat gt.const.1⟩, fun r1 H1 s1 f1 => ?_⟩
    refine ⟨_, rfl, p1, rfl, ⟨_, (n1.same s1).sq⟩, ?_⟩
    refine for_tup (K := K) (a := p1) (xs := xs1) (fun i σ H' => ∃ vt o5 o6, σ = [some (.ref a1), some (.ref d), some (.ref p1), some c1, some vt, o5, o6] ∧ Same H H' ∧ FmA K ns H' vt (subQ (ts.take i) (qv c) ff) (subK k (ts.take i) ff))
      ⟨r1, none, none, rfl, s1, [], c, f1, FormK.nil gt.const.1 (gt.const.2.mono (by show k ≤ 0 + k; omega)), fun x => rfl, rfl, by show 1 ≤ 0 + k; omega⟩ (fun i σ H' _ h => by obtain ⟨_, _, _, _, h, _⟩ := h; exact (n1.same h).sq) ?_ ?_
    · rintro i x σ H2 hx ⟨vt, o5, o6, rfl, s2, us, e, fu, gu, eu, ee, k2⟩
      obtain ⟨dt, hdt, hdx⟩ := dps_get t1 hx
      rw [List.getElem?_map] at hdt
      obtain ⟨t, ht, rfl⟩ : ∃ t, ts[i]? = some t ∧ termN t.1 t.2 = dt := by
        cases z : ts[i]? with
        | none => rw [z] at hdt; cases hdt
        | some t => rw [z] at hdt; exact ⟨t, rfl, Option.some.inj hdt⟩
      have htm := List.mem_of_getElem? ht
      obtain ⟨rt, _, st⟩ := gt.terms t htm
      have hdx2 : Dp K H2 x (.tuple [.str t.1, numD t.2]) := dp_same s2 _ _ hdx
      obtain ⟨fv, hget, fr⟩ := (hd.keep (FmR.st K ns ff) s2).get (hin t htm)
      obtain ⟨ws, g, fw, gw, ew, eg, kw⟩ := fr
      have hsum : subK k (ts.take (i + 1)) ff = subK k (ts.take i) ff + (k + (ff t.1).2 + 1) := by
        unfold subK
        rw [take_more ht, List.map_append, List.sum_append]
        simp only [List.map_cons, List.map_nil, List.sum_cons, List.sum_nil]
        omega
      have hle : subK k (ts.take (i + 1)) ff ≤ subK k ts ff := by
        unfold subK
        conv => rhs; rw [← List.take_append_drop (i + 1) ts, List.map_append, List.sum_append]
        omega
      cases hdx2 with
      | @tup at_ zs_ _ hsz haz =>
        cases haz with
        | @cons n1_ _ _ _ hn haz =>
          cases haz with
          | @cons rr _ _ _ hr2 haz =>
            cases haz
            cases hn
            refine ⟨_, _, rfl, hsz, rfl, _, _, rfl, _, _, rfl, rfl, ?_⟩
            refine ⟨_, rfl, _, rfl, _, rfl, _, rfl, d, fv, rfl, hget, rr, fv, ns, k, (ff t.1).2, t.2, ws, g, rfl, ⟨_, hr2, numOf_rat rt⟩, st, fw, gw, hns, kw, by omega, fun r3 H3 ws3 s3 f3 g3 e3 => ?_⟩
            refine ⟨vt, r3, ns, subK k (ts.take i) ff, k + (ff t.1).2, us, ws3, e, _, rfl, fu.same s3, f3, gu, g3, hns, k2, by omega, by omega, fun r4 H4 zs s4 f4 g4 e4 => ?_⟩
            refine ⟨r4, _, _, rfl, s2.trans (s3.trans s4), zs, _, f4, g4.mono (by omega), fun y => ?_, ?_, by omega⟩
            · rw [e4, e3, eu, ew, take_more ht]
              unfold subQ
              rw [List.foldl_append]
              rfl
            · rw [qv_add gu.const.1 g3.const.1, qv_mul rt gw.const.1, ee, eg, take_more ht]
              unfold subQ
              rw [List.foldl_append]
              rfl
    · rintro σ H2 ⟨vt, o5, o6, rfl, s2, fm⟩
      rw [lt1, List.take_length] at fm
      exact ⟨_, rfl, q _ _ s2 fm⟩
end

def spNamesIn (K : PySem.W.Frag) : Sp := fun vs H Q _ => ∃ (v : V) (ts : List (Str × (Int × Int))) (c : Int × Int), vs = [v] ∧ Dp K H v (formN ts c) ∧ ts.length ≤ 60 ∧ ∀ r H', Same H H' → Dp K H' r (.tuple ((ts.map (·.1)).map PyData.str)) → Q r H'
section
variable {P : Program} {w : World} {K : PySem.W.Frag} {mg : Str → Option Value} {base : Heap}
theorem ok_names_in (T : Bt mg) (D : Df K mg "names_in" s_names_in ["form"]) : Kn P w K mg base CX0 "names_in" 33 ["form"] (spNamesIn K) := by
  obtain ⟨f, fd, F, hm, hb⟩ := D
  refine ⟨f, fd, F.ok sc_names_in (fun vs H Q E h => ?_) (fun cdv A outer s H vs Q E hr h => ?_), hm, F.kp, hb⟩
  · obtain ⟨v, ts, c, rfl, _⟩ := h
    rfl
  · obtain ⟨v, ts, c, rfl, hv, hl, q⟩ := h
    refine ⟨_, (pss_one (ps_ret (pe_callTy call_tuple_of (by rfl) T.n_tuple (by decide +kernel) (pa_cons (pe_lc (own := [("name", 1), ("_", 2)]) rfl sc_names_in.nd (pi_tup (pe_ix ix_tup (pv 0) pe_int (fun _ _ => rfl))) (blkOk_by (N := ["form", "name", "_"]) (sc := defScope s_names_in) (by decide +kernel)) (fun _ _ _ _ _ => (pg_tupK (K := K) (n := 2) rfl (by rfl) (pgs_cons (pg_name (i := 1) sc_names_in.nd rfl (Or.inl rfl)) (pgs_cons (pg_name (i := 2) sc_names_in.nd rfl (Or.inl rfl)) pgs_nil)) (by rfl) (by rfl))) (fun _ _ _ _ _ => pts_nil) (fun _ _ _ _ _ => (pv 1))) pa_nil)))), ?_⟩
    cases hv with
    | @tup a xs _ hs ha =>
      cases ha with
      | @cons x1 _ _ _ h1 ha =>
        cases h1 with
        | @tup a1 ys _ hs1 ha1 =>
          have hl1 := dps_len ha1
          rw [List.length_map] at hl1
          refine ⟨_, rfl, a, _, _, .ref a1, rfl, rfl, hs, at_of (j := 0) rfl rfl, a1, rfl, ⟨_, hs1⟩, fun D hD => ?_⟩
          refine lc_tup (K := K) (a := a1) (xs := ys) (fun i H' => Same H H' ∧ H' D = some (.lst (((ts.take i).map (·.1)).map V.str))) ⟨same_new hD _, upd_same⟩ (fun i H' _ h => same_seqT h.1 hs1) ?_ ?_
          · rintro i x H3 hx ⟨s3, hacc2⟩
            obtain ⟨dt, hdt, hdx⟩ := dps_get ha1 hx
            rw [List.getElem?_map] at hdt
            obtain ⟨t, ht, rfl⟩ : ∃ t, ts[i]? = some t ∧ termN t.1 t.2 = dt := by
              cases z : ts[i]? with
              | none => rw [z] at hdt; cases hdt
              | some t => rw [z] at hdt; exact ⟨t, rfl, Option.some.inj hdt⟩
            have hdx3 := dp_same s3 _ _ hdx
            cases hdx3 with
            | @tup at_ zs _ hsz haz =>
              cases haz with
              | @cons n1 _ _ _ hn haz =>
                cases haz with
                | @cons r1 _ _ _ hr1 haz =>
                  cases haz
                  cases hn
                  refine ⟨_, _, rfl, hsz, rfl, _, _, rfl, _, _, rfl, rfl, rfl, _, rfl, ?_⟩
                  refine ⟨_, hacc2, ?_, same_upd s3 hD, ?_⟩
                  · rw [List.length_map, List.length_map, List.length_take]
                    exact small1000 (by omega)
                  · rw [upd_same, take_more ht, List.map_append, List.map_append]
                    rfl
          · rintro H3 ⟨s3, hacc2⟩
            rw [hl1, List.take_length] at hacc2
            refine ⟨D, _, rfl, .inl ⟨SqL.of hacc2, fun p np => ?_⟩⟩
            exact q _ _ (s3.trans (same_new np _)) (.tup (SqT.of upd_same) (dps_strs _))
end

end Bs
namespace Bs
open PySem L2
theorem op_notInDict {X : Cx} (hu : X.A.units + 1 < cLine) : OpR X (compareOp .NotIn) (fun x y H Q => ∃ a o, y = .ref a ∧ DGet H a x o ∧ Q (.bl (!o.isSome)) H) := by
  intro pins s σ H x y v u Q I rx ry h
  obtain ⟨a, o, rfl, g, q⟩ := h
  cases ry
  exact d_notIn hu I g rx fun s' J => ⟨.bl _, H, J, rfl, q⟩
def rDictS (K : PySem.W.Frag) : List V → Hp → VK → Prop := fun xs H Q => ∃ (a : Addr) (ps : List Addr) (kvs : List (Key × V)), xs = [.ref a] ∧ (SqL K H a (ps.map V.ref) ∨ NdT H a (ps.map V.ref)) ∧ Paired (fun p kv => SqT K H p [kV kv.1, kv.2]) ps kvs ∧
  ∀ p, H p = none → Q (.ref p) (upd H p (.dK (mergeK [] kvs)))
theorem call_dictS {X : Cx} {K : PySem.W.Frag} (e : X.K = K) (hc : X.calm = true) : CallR X (.type "dict") (rDictS K) := by
  subst e
  intro pins s σ H xs us Q I r h
  obtain ⟨a, ps, kvs, e, hs, hp, q⟩ := h
  rcases hs with hs | hs
  · exact call_dictP hc pins s σ H xs us Q I r ⟨a, ps, kvs, e, hs, hp, q⟩
  · exact call_dictT rfl hc pins s σ H xs us Q I r ⟨a, ps, kvs, e, hs, hp, q⟩
/-- a sequence of pairs of names and numbers, each name once -/
def ValsAt (K : PySem.W.Frag) (H : Hp) (t : Addr) (ks : List Str) (zf : Str → Int × Int) : Prop := ∃ (ps : List Addr) (kvs : List (Key × V)), (SqL K H t (ps.map V.ref) ∨ NdT H t (ps.map V.ref)) ∧ Paired (fun p kv => SqT K H p [kV kv.1, kv.2]) ps kvs ∧
  kvs.map (·.1) = ks.map Sum.inr ∧ ks.Nodup ∧ ∀ x ∈ ks, ∃ v, valV kvs (Sum.inr x) = some v ∧ Nv K H v (zf x)
def spValueAt (K : PySem.W.Frag) (C : Addr) : Sp := fun vs H Q E => ∃ (v : V) (t : Addr) (ns : List Str) (k m : Nat) (ts : Ts) (c : Int × Int) (ks : List Str) (zf : Str → Int × Int), vs = [v, .ref t] ∧ FormAt K H v ts c ∧ FormK ns k ts c ∧ ValsAt K H t ks zf ∧ (∀ x ∈ ks, Red (zf x) ∧ Sz m (zf x)) ∧
  k + ns.length * (k + m + 1) ≤ 40000000 ∧ ns.length ≤ 60 ∧ ((∀ u ∈ ts, u.1 ∈ ks) → ∀ r H', Same H H' → Dp K H' r (numD (worthz zf ts c)) → Q r H') ∧
  ∀ (i : Nat) (u : Str × (Int × Int)), ts[i]? = some u → (∀ z ∈ ts.take i, z.1 ∈ ks) → u.1 ∉ ks → ∀ dx H', Same H H' → H' dx = some (.xd [("name", .str u.1)]) → E (.ref C) (some dx) H'
section
variable {P : Program} {w : World} {K : PySem.W.Frag} {mg : Str → Option Value} {base : Heap}
theorem ok_errinitN {x : Str} {C f : Addr} {fd : FuncData} (F : Fun K "__init__" x s_UnknownCell_init f fd) (ox : OexC K C) (no : PySem.W.findIn K (.ref C) "name" = some none) : FnOk P w K mg base CX0 1 f fd ["self", "name"] (spErrInit C "name") := by
  refine F.ok sc_UnknownCell_init (fun vs H Q E h => ?_) (fun cdv A outer s H vs Q E hr h => ?_)
  · obtain ⟨e, v, rfl, _⟩ := h
    rfl
  · obtain ⟨e, v, rfl, he, q⟩ := h
    refine ⟨_, pss_one (ps_ost (pv 0) (pv 1)), ?_⟩
    exact ⟨_, rfl, _, rfl, e, C, rfl, ox, no, .inl ⟨he, fun dx h1 h2 => q dx h1 h2⟩⟩
theorem ok_value_at {C Ci : Addr} (T : Bt mg) (Td : mg "dict" = none) (Ti : ErrF P w K mg base "UnknownCell" "name" C) (GA : Kn P w K mg base CX0 "add_ratios" 34 ["one", "other"] (spBinR K addz)) (GM : Kn P w K mg base CX0 "multiply_ratios" 34 ["one", "other"] (spBinR K mulz))
    (GR : Kn P w K mg base (L2.CX P w) "as_ratio" 35 ["value"] (spAsRatio K Ci)) (D : Df K mg "value_at" s_value_at ["form", "values"]) : Kn P w K mg base (L2.CX P w) "value_at" 36 ["form", "values"] (spValueAt K C) := by
  obtain ⟨f, fd, F, hm, hb⟩ := D
  obtain ⟨f_add_ratios, fd_add_ratios, G_add_ratios, m_add_ratios, k_add_ratios, b_add_ratios⟩ := GA
  obtain ⟨f_multiply_ratios, fd_multiply_ratios, G_multiply_ratios, m_multiply_ratios, k_multiply_ratios, b_multiply_ratios⟩ := GM
  obtain ⟨f_as_ratio, fd_as_ratio, G_as_ratio, m_as_ratio, k_as_ratio, b_as_ratio⟩ := GR
  obtain ⟨fI, fdI, iC, tI, F1, b1⟩ := Ti.ini
  refine ⟨f, fd, F.okX sc_value_at (fun vs H Q E h => ?_) (fun cdv A outer s H vs Q E hr h => ?_), hm, F.kp, hb⟩
  · obtain ⟨v, t, ns, k, m, ts, c, ks, zf, rfl, _⟩ := h
    rfl
  · obtain ⟨v, t, ns, k, m, ts, c, ks, zf, rfl, fv, gt, ⟨ps, kvs, hseq, hpair, hk, nd, hval⟩, hz, hsz, hns, q1, q2⟩ := h
    refine ⟨_, (pss_cons (ps_set (i := 2) sc_value_at.nd rfl (Or.inl rfl) (pe_callTy (call_dictS (K := K) rfl rfl) (by rfl) Td (by decide +kernel) (pa_cons (pv 1) pa_nil)))
      (pss_cons (ps_asg (pv 0) (pg_tup (by rfl) (pgs_cons (pg_name (i := 3) sc_value_at.nd rfl (Or.inl rfl)) (pgs_cons (pg_name (i := 4) sc_value_at.nd rfl (Or.inl rfl)) pgs_nil))))
      (pss_cons (ps_for (passes_of rfl) rfl (pi_tup (pv 3)) (pg_tup (by rfl) (pgs_cons (pg_name (i := 5) sc_value_at.nd rfl (Or.inl rfl)) (pgs_cons (pg_name (i := 6) sc_value_at.nd rfl (Or.inl rfl)) pgs_nil)))
        (pss_cons (ps_if (pt_cmpR (op_notInDict (hu_of hr)) (pv 5) (pv 2) (by rfl)) (pss_one (ps_raise rfl (takes_of rfl rfl rfl rfl) (pmk_oex Ti.ox iC tI F1 (hr.mono (by omega)) b1 .nil pass0 rfl Ti.gC (pa_cons (pv 5) pa_nil)))) pss_nil)
      (pss_one (ps_set (i := 4) sc_value_at.nd rfl (Or.inl rfl) (pe_call G_add_ratios (hr.mono (by omega)) rfl m_add_ratios k_add_ratios b_add_ratios .nil pass0 (pa_cons (pv 4) (pa_cons (pe_call G_multiply_ratios (hr.mono (by omega)) rfl m_multiply_ratios k_multiply_ratios b_multiply_ratios .nil pass0 (pa_cons (pv 6) (pa_cons (pe_call G_as_ratio (hr.mono (by omega)) rfl m_as_ratio k_as_ratio b_as_ratio .nil passL (pa_cons (pe_dget (hu_of hr) (pv 2) (pv 5) (fun _ _ => rfl)) pa_nil)) pa_nil))) pa_nil)))))))
      (pss_one (ps_ret (pv 4)))))), ?_⟩
    obtain ⟨a1, p1, xs1, c1, rfl, h1, hc1, n1, t1⟩ := fv
    refine ⟨_, rfl, t, ps, kvs, rfl, hseq, hpair, fun d hd => ?_⟩
    have s0 := same_new hd (.dK (mergeK [] kvs))
    have nk : (kvs.map (·.1)).Nodup := by
      rw [hk]
      exact List.Pairwise.map _ (fun a b h e => h (by injection e)) nd
    rw [merge_new (kvs := []) nk, List.nil_append] at s0 ⊢
    have hd0 : (upd H d (.dK kvs)) d = some (.dK kvs) := upd_same
    refine ⟨_, rfl, a1, _, rfl, same_seqT s0 h1, rfl, .ref p1, _, rfl, c1, _, rfl, rfl, ?_⟩
    have lt1 := dps_len t1
    rw [List.length_map] at lt1
    have few := gt.few
    refine ⟨_, rfl, p1, rfl, ⟨_, (n1.same s0).sq⟩, ?_⟩
    refine for_tup (K := K) (a := p1) (xs := xs1) (fun i σ H' => ∃ vt o5 o6, σ = [some (.ref a1), some (.ref t), some (.ref d), some (.ref p1), some vt, o5, o6] ∧ Same (upd H d (.dK kvs)) H' ∧ (∀ z ∈ ts.take i, z.1 ∈ ks) ∧ Dp K H' vt (numD (worthz zf (ts.take i) c)) ∧ Red (worthz zf (ts.take i) c) ∧ Sz (k + i * (k + m + 1)) (worthz zf (ts.take i) c))
      ⟨_, none, none, rfl, Same.refl _, (fun z hz => by cases hz), dp_same s0 _ _ hc1, gt.const.1, by rw [Nat.zero_mul, Nat.add_zero]; exact gt.const.2⟩ (fun i σ H' _ h => by obtain ⟨_, _, _, _, h, _⟩ := h; exact (n1.same (s0.trans h)).sq) ?_ ?_
    · rintro i x σ H1 hx ⟨vt, o5, o6, rfl, s1, hin, hvt, rw_, zw⟩
      obtain ⟨dt, hdt, hdx⟩ := dps_get t1 hx
      rw [List.getElem?_map] at hdt
      obtain ⟨u, hu, rfl⟩ : ∃ u, ts[i]? = some u ∧ termN u.1 u.2 = dt := by
        cases z : ts[i]? with
        | none => rw [z] at hdt; cases hdt
        | some u => rw [z] at hdt; exact ⟨u, rfl, Option.some.inj hdt⟩
      have hi := get_lt hu
      obtain ⟨ru, _, zu⟩ := gt.terms u (List.mem_of_getElem? hu)
      have s01 := s0.trans s1
      have hdx2 : Dp K H1 x (.tuple [.str u.1, numD u.2]) := dp_same s01 _ _ hdx
      have hd1 := s1 _ _ hd0
      cases hdx2 with
      | @tup at_ zs_ _ hsz_ haz =>
        cases haz with
        | @cons n1_ _ _ _ hn haz =>
          cases haz with
          | @cons r1 _ _ _ hr1 haz =>
            cases haz
            cases hn
            refine ⟨_, _, rfl, hsz_, rfl, _, _, rfl, _, _, rfl, rfl, ?_⟩
            have dg : DGet H1 d (.str u.1) (valV kvs (Sum.inr u.1)) := .inl ⟨kvs, Sum.inr u.1, .inl hd1, rfl, rfl⟩
            refine ⟨_, rfl, _, rfl, d, _, rfl, dg, _, rfl, ?_⟩
            refine ite2 (fun c0 => ?_) (fun c0 => ?_)
            · have hno : u.1 ∉ ks := fun hm => by
                obtain ⟨v, e, _⟩ := hval _ hm
                rw [e] at c0
                cases c0
              have q3 := q2 i u hu hin hno
              refine ⟨_, rfl, (by show 1 ≤ 1000; decide), fun a na => ?_⟩
              refine ⟨a, .str u.1, rfl, upd_same, fun dx hdx nx => ⟨rfl, dx, [("name", .str u.1)], upd_same, ?_, ?_, ?_⟩⟩
              · rw [upd_ne nx, upd_same]
              · rw [upd_ne nx] at hdx
                exact hdx
              · rw [upd_ne nx] at hdx
                refine q3 dx _ (s01.trans fun b o hbo => ?_) upd_same
                have n1 : b ≠ a := ne_of_none hbo na
                have n2 : b ≠ dx := ne_of_none hbo hdx
                rw [upd_ne n2, del_ne n1, upd_ne n1, upd_ne n2, upd_ne n1]
                exact hbo
            · have hm : u.1 ∈ ks := by
                by_cases hm : u.1 ∈ ks
                · exact hm
                · exact absurd (by rw [valV_keys hk hm]; rfl) c0
              obtain ⟨v, e, hv⟩ := hval _ hm
              obtain ⟨rz, zz⟩ := hz _ hm
              obtain ⟨d1, hd1v, e1⟩ := hv.same s01
              rw [e] at dg
              have bits : k + i * (k + m + 1) + (k + m) + 1 ≤ 40000000 := by
                have z : (i + 1) * (k + m + 1) ≤ ns.length * (k + m + 1) := Nat.mul_le_mul_right _ (by omega)
                rw [Nat.succ_mul] at z
                omega
              refine ⟨_, rfl, _, rfl, _, rfl, _, rfl, d, v, rfl, dg, v, d1, rfl, hd1v, fun t2 m2 r H2 e2 s2 hr2 => ?_, fun e2 => by rw [e1] at e2; cases e2⟩
              have ezf : zf u.1 = (t2, m2) := Option.some.inj (e1.symm.trans e2)
              refine ⟨r1, r, u.2, (t2, m2), k, m, rfl, dp_same s2 _ _ hr1, hr2, ru, by rw [← ezf]; exact rz, zu, by rw [← ezf]; exact zz, by omega, fun p3 H3 s3 hp3 => ?_⟩
              have rm := mul_red ru (by rw [← ezf]; exact rz : Red (t2, m2))
              refine ⟨vt, .ref p3, _, mulz u.2 (t2, m2), k + i * (k + m + 1), k + m, rfl, dp_same (s2.trans s3) _ _ hvt, dp_rat hp3, rw_, rm, zw, mul_sz zu (by rw [← ezf]; exact zz), bits, fun p4 H4 s4 hp4 => ?_⟩
              have ew : worthz zf (ts.take (i + 1)) c = addz (worthz zf (ts.take i) c) (mulz u.2 (t2, m2)) := by
                rw [take_more hu, worth_snoc, ezf]
              refine ⟨_, _, _, rfl, s1.trans (s2.trans (s3.trans s4)), fun z hz' => ?_, ?_, ?_, ?_⟩
              · rw [take_more hu] at hz'
                rcases List.mem_append.mp hz' with h | h
                · exact hin z h
                · rw [List.mem_singleton.mp h]
                  exact hm
              · rw [ew]
                exact dp_rat hp4
              · rw [ew]
                exact add_red rw_ rm
              · rw [ew]
                have z := add_sz zw (mul_sz zu (by rw [← ezf]; exact zz : Sz m (t2, m2)))
                refine z.mono ?_
                rw [Nat.succ_mul]
                omega
    · rintro σ H1 ⟨vt, o5, o6, rfl, s1, hin, hvt, _, _⟩
      rw [lt1, List.take_length] at hvt hin
      exact ⟨_, rfl, q1 hin vt H1 (s0.trans s1) hvt⟩
end

/-! ### a walk over a dict's keys -/
theorem for_keys {d : Addr} {od : Obj} {kvs : List (Key × V)} {g : TG} {body : L2.TS} {F : Ends} {σ : St} {H : Hp} (J : Nat → St → Hp → Prop) (start : J 0 σ H) (stays : ∀ n τ G, n ≤ kvs.length → J n τ G → G d = some (.frz od (.dK kvs)))
    (turn : ∀ n k v τ G, kvs[n]? = some (k, v) → J n τ G → g (kV k) τ G fun τ2 G2 => body { F with nx := J (n + 1), ct := J (n + 1), bk := F.nx } τ2 G2) (fin : ∀ τ G, J kvs.length τ G → F.nx τ G) :
    ∃ W : Nat → Nat → St → Hp → Prop, (∃ m, W 0 m σ H) ∧ ∀ i m τ G, W i m τ G → ((Itk d od kvs).stop i G ∧ F.nx τ G) ∨
      ((Itk d od kvs).go i G ∧ ∃ N : St → Hp → Prop, (∀ τ' G', N τ' G' → ∃ m', m' < m ∧ W (i + 1) m' τ' G') ∧ ∀ x G', (Itk d od kvs).yld i G x G' → g x τ G' fun τ2 G2 => body { F with nx := N, ct := N, bk := F.nx } τ2 G2) := by
  refine ⟨fun i m τ G => i + m = kvs.length ∧ J i τ G, ⟨kvs.length, Nat.zero_add _, start⟩, fun i m τ G hw => ?_⟩
  obtain ⟨e, j⟩ := hw
  have at_ := stays i τ G (by omega) j
  cases m with
  | zero =>
    have e : i = kvs.length := e
    subst e
    exact .inl ⟨⟨at_, Nat.le_refl _⟩, fin τ G j⟩
  | succ m =>
    refine .inr ⟨⟨at_, by omega⟩, J (i + 1), fun τ' G' j' => ⟨m, Nat.lt_succ_self m, by omega, j'⟩, ?_⟩
    rintro x G' ⟨rfl, k, v, hk, rfl⟩
    exact turn i k v τ G' hk j
theorem key_at {kvs : List (Key × V)} {ks : List Str} (h : kvs.map (·.1) = ks.map Sum.inr) {n : Nat} {k : Key} {v : V} (e : kvs[n]? = some (k, v)) : ∃ x, x ∈ ks ∧ ks[n]? = some x ∧ k = Sum.inr x := by
  have z := congrArg (fun l => l[n]?) h
  simp only [List.getElem?_map, e, Option.map_some] at z
  cases w : ks[n]? with
  | none => rw [w] at z; cases z
  | some x =>
    rw [w] at z
    exact ⟨x, List.mem_of_getElem? w, rfl, Option.some.inj z⟩
def spUnk (K : PySem.W.Frag) : Sp := fun vs H Q _ => ∃ (d : Addr) (ns ks : List Str) (ff : Str → Fq × Nat), vs = [.ref d] ∧ DX (FmR K ns ff) H d ks ∧ ns.length ≤ 60 ∧ (∀ x ∈ ks, ∀ y, (ff x).1.1 y ≠ 0 → y ∈ ks) ∧ ∀ H', Same H H' → Q .non H'
section
variable {P : Program} {w : World} {K : PySem.W.Frag} {mg : Str → Option Value} {base : Heap}
theorem ok_check_unknown {Cu : Addr} (Ti : ErrF P w K mg base "UnknownCell" "name" Cu) (GN : Kn P w K mg base CX0 "names_in" 33 ["form"] (spNamesIn K)) (D : Df K mg "check_unknown" s_check_unknown ["forms"]) :
    Kn P w K mg base (L2.CX P w) "check_unknown" 35 ["forms"] (spUnk K) := by
  obtain ⟨f, fd, F, hm, hb⟩ := D
  obtain ⟨fI, fdI, iC, tI, F1, b1⟩ := Ti.ini
  obtain ⟨f_names_in, fd_names_in, G_names_in, m_names_in, k_names_in, b_names_in⟩ := GN
  refine ⟨f, fd, F.okX sc_check_unknown (fun vs H Q E h => ?_) (fun cdv A outer s H vs Q E hr h => ?_), hm, F.kp, hb⟩
  · obtain ⟨d, ns, ks, ff, rfl, _⟩ := h
    rfl
  · obtain ⟨d, ns, ks, ff, rfl, hd, hns, hin, q⟩ := h
    refine ⟨_, (pss_one (ps_lock (ps_for (passes_of rfl) rfl (pi_keys (pv 0)) (pg_name (i := 1) sc_check_unknown.nd rfl (Or.inl rfl))
        (pss_one (ps_for (passes_of rfl) rfl (pi_tup (pe_call G_names_in (hr.mono (by omega)) rfl m_names_in k_names_in b_names_in .nil pass0 (pa_cons (pe_dget (hu_of hr) (pv 0) (pv 1) (fun _ _ => rfl)) pa_nil))) (pg_name (i := 2) sc_check_unknown.nd rfl (Or.inl rfl))
        (pss_one (ps_if (pt_cmpR (op_notInDict (hu_of hr)) (pv 2) (pv 0) (by rfl)) (pss_one (ps_raise rfl (takes_of rfl rfl rfl rfl) (pmk_oex Ti.ox iC tI F1 (hr.mono (by omega)) b1 .nil pass0 rfl Ti.gC (pa_cons (pv 2) pa_nil)))) pss_nil))))))), ?_⟩
    obtain ⟨kvs, hk, hkeys, hvals⟩ := hd.at_
    refine ⟨d, .dK kvs, hk, trivial, fun od => ?_⟩
    have hd0 := hd
    have ts0 : TS H (upd H d (.frz od (.dK kvs))) := TS.upd hk rfl
    have get : ∀ {G : Hp}, Same (upd H d (.frz od (.dK kvs))) G → ∀ {y : Str}, y ∈ ks → ∃ v, DGet G d (.str y) (some v) ∧ FmA K ns G v (ff y).1 (ff y).2 := fun {G} s {y} hy => by
      obtain ⟨v, e, hv⟩ := hvals y hy
      exact ⟨v, .inl ⟨kvs, Sum.inr y, .inr ⟨od, s _ _ upd_same⟩, rfl, e.symm⟩, FmA.ts hv (ts0.trans (TS.of s))⟩
    refine ⟨_, rfl, d, od, rfl, .inl ⟨kvs, upd_same, ?_⟩⟩
    refine for_keys (fun n τ G => ∃ o1 o2, τ = [some (.ref d), o1, o2] ∧ Same (upd H d (.frz od (.dK kvs))) G) ⟨none, none, rfl, Same.refl _⟩ (fun n τ G _ ⟨_, _, _, s⟩ => s _ _ upd_same) ?_ ?_
    · rintro n k v τ G hn ⟨o1, o2, rfl, s1⟩
      obtain ⟨x, hx, _, rfl⟩ := key_at hkeys hn
      obtain ⟨v', hget, ts, c, fv, gt, eg, ec, _⟩ := get s1 hx
      refine ⟨_, rfl, _, rfl, d, v', rfl, hget, v', ts, c, rfl, fv.dp, Nat.le_trans gt.few hns, fun r G2 s2 hr2 => ?_⟩
      cases hr2 with
      | @tup p xs _ hs ha =>
        have la := dps_len ha
        refine ⟨p, rfl, ⟨_, hs⟩, ?_⟩
        refine for_tup (K := K) (a := p) (xs := xs) (fun i τ G' => ∃ o2, τ = [some (.ref d), some (.str x), o2] ∧ Same G2 G') ⟨_, rfl, Same.refl _⟩ (fun i τ G' _ ⟨_, _, s⟩ => same_seqT s hs) ?_ ?_
        · rintro i y τ G3 hy ⟨o3, rfl, s3⟩
          obtain ⟨dt, hdt, hdy⟩ := dps_get ha hy
          rw [List.getElem?_map, List.getElem?_map] at hdt
          obtain ⟨t, ht, rfl⟩ : ∃ t, ts[i]? = some t ∧ PyData.str t.1 = dt := by
            cases z : ts[i]? with
            | none => rw [z] at hdt; cases hdt
            | some t => rw [z] at hdt; exact ⟨t, rfl, Option.some.inj hdt⟩
          cases hdy
          have hm : t.1 ∈ ks := hin x hx t.1 (by rw [← eg]; exact (gt.not0 t.1).mp (List.mem_map.mpr ⟨t, List.mem_of_getElem? ht, rfl⟩))
          obtain ⟨v2, hget2, _⟩ := get (s1.trans (s2.trans s3)) hm
          refine ⟨_, rfl, _, rfl, d, some v2, rfl, hget2, _, rfl, ?_⟩
          refine ite2 (fun c => by cases c) (fun _ => ?_)
          exact ⟨_, rfl, s3⟩
        · rintro τ G3 ⟨o3, rfl, s3⟩
          exact ⟨_, _, rfl, s1.trans (s2.trans s3)⟩
    · rintro τ G ⟨o1, o2, rfl, s1⟩
      refine ⟨s1 _ _ upd_same, q _ fun a u h => ?_⟩
      by_cases e : a = d
      · rw [e, hk] at h
        rw [e, upd_same]
        exact h
      · rw [upd_ne e]
        exact s1 _ _ (by rw [upd_ne e]; exact h)
end

end Bs
namespace Bs
open PySem L2
def isNum (d : PyData) : Bool := (numOf d).isSome
theorem isNum_whole {d : PyData} (h : wholeD d = true) : isNum d = true := by cases d <;> first | rfl | cases h
theorem isNum_not {d : PyData} (h : ¬ wholeD d = true) : isNum d = isRat d := by cases d <;> first | rfl | exact absurd rfl h
section
variable {P : Program} {w : World} {K : PySem.W.Frag} {mg : Str → Option Value} {base : Heap}
theorem ok_is_number (GW : Kn P w K mg base CX0 "is_whole" 33 ["value"] (spD K wholeD)) (GR : Kn P w K mg base CX0 "is_ratio" 34 ["value"] (spD K isRat)) (D : Df K mg "is_number" s_is_number ["value"]) : Kn P w K mg base CX0 "is_number" 35 ["value"] (spD K isNum) := by
  obtain ⟨f, fd, F, hm, hb⟩ := D
  obtain ⟨f_is_whole, fd_is_whole, G_is_whole, m_is_whole, k_is_whole, b_is_whole⟩ := GW
  obtain ⟨f_is_ratio, fd_is_ratio, G_is_ratio, m_is_ratio, k_is_ratio, b_is_ratio⟩ := GR
  refine ⟨f, fd, F.ok sc_is_number (fun vs H Q E h => ?_) (fun cdv A outer s H vs Q E hr h => ?_), hm, F.kp, hb⟩
  · obtain ⟨v, d, rfl, _⟩ := h
    rfl
  · obtain ⟨v, d, rfl, hd, q⟩ := h
    refine ⟨_, (pss_one (ps_ret (pe_or (pe_call G_is_whole (hr.mono (by omega)) rfl m_is_whole k_is_whole b_is_whole .nil pass0 (pa_cons (pv 0) pa_nil)) (pe_one (pe_call G_is_ratio (hr.mono (by omega)) rfl m_is_ratio k_is_ratio b_is_ratio .nil pass0 (pa_cons (pv 0) pa_nil)))))), ?_⟩
    refine ⟨_, rfl, v, d, rfl, hd, fun H1 s1 => ⟨_, rfl, ?_⟩⟩
    refine ite2 (fun c => ?_) (fun c => ?_)
    · have q0 := q H1 s1
      rw [isNum_whole c] at q0
      exact q0
    · refine ⟨_, rfl, v, d, rfl, dp_same s1 _ _ hd, fun H2 s2 => ?_⟩
      have q0 := q H2 (s1.trans s2)
      rw [isNum_not c] at q0
      exact q0
end

/-! ### a right row -/
def rowD (nm : Str) (d : PyData ⊕ Str) : PyData := .tuple [.str nm, .str (match d with | .inl _ => "input" | .inr _ => "formula"), match d with | .inl d => d | .inr t => .str t]
def spRow (K : PySem.W.Frag) : Sp := fun vs H Q _ => ∃ (v : V) (nm : Str) (d : PyData ⊕ Str), vs = [v] ∧ Dp K H v (rowD nm d) ∧ (∀ e, d = .inl e → isNum e = true) ∧ ∀ H', Same H H' → Q (.bl true) H'
section
variable {P : Program} {w : World} {K : PySem.W.Frag} {mg : Str → Option Value} {base : Heap}
theorem ok_is_row (T : Bt mg) (Tt : Ut4 K mg) (GN : Kn P w K mg base CX0 "is_number" 35 ["value"] (spD K isNum)) (D : Df K mg "is_row" s_is_row ["value"]) : Kn P w K mg base CX0 "is_row" 36 ["value"] (spRow K) := by
  obtain ⟨f, fd, F, hm, hb⟩ := D
  obtain ⟨f_is_number, fd_is_number, G_is_number, m_is_number, k_is_number, b_is_number⟩ := GN
  refine ⟨f, fd, F.ok sc_is_row (fun vs H Q E h => ?_) (fun cdv A outer s H vs Q E hr h => ?_), hm, F.kp, hb⟩
  · obtain ⟨v, nm, d, rfl, _⟩ := h
    rfl
  · obtain ⟨v, nm, d, rfl, hd, hnum, q⟩ := h
    refine ⟨_, (pss_cons (ps_if (PW.pt (pw_or (pt_not (pt_val (pe_callB (cr_isi (K := K) rfl) (by rfl) T.n_isinstance (by decide +kernel) (pa_cons (pv 0) (pa_cons (pe_bltn (v := .ty "tuple") (by rfl) T.n_tuple (by decide +kernel) rfl) pa_nil))))) (pw_or1 (pt_cmpR op_ne (pe_callB call_len_seq (by rfl) T.n_len (by decide +kernel) (pa_cons (pv 0) pa_nil)) pe_int (nomark _))))) (pss_one (ps_ret pe_bl)) pss_nil)
      (pss_cons (ps_asg (pv 0) (pg_tup (by rfl) (pgs_cons (pg_name (i := 1) sc_is_row.nd rfl (Or.inl rfl)) (pgs_cons (pg_name (i := 2) sc_is_row.nd rfl (Or.inl rfl)) (pgs_cons (pg_name (i := 3) sc_is_row.nd rfl (Or.inl rfl)) pgs_nil)))))
      (pss_cons (ps_if (pt_cmpR op_eq (pv 2) pe_str (nomark _)) (pss_one (ps_ret (pe_and (pe_callB (cr_isi (K := K) rfl) (by rfl) T.n_isinstance (by decide +kernel) (pa_cons (pv 1) (pa_cons (pe_bltn (v := .ty "str") (by rfl) Tt.n_str (by decide +kernel) rfl) pa_nil))) (pe_one (pe_call G_is_number (hr.mono (by omega)) rfl m_is_number k_is_number b_is_number .nil pass0 (pa_cons (pv 3) pa_nil)))))) pss_nil)
      (pss_one (ps_ret (pe_and (pe_callB (cr_isi (K := K) rfl) (by rfl) T.n_isinstance (by decide +kernel) (pa_cons (pv 1) (pa_cons (pe_bltn (v := .ty "str") (by rfl) Tt.n_str (by decide +kernel) rfl) pa_nil))) (pe_and (pe_cmpR op_eq (pv 2) pe_str (nomark _)) (pe_one (pe_callB (cr_isi (K := K) rfl) (by rfl) T.n_isinstance (by decide +kernel) (pa_cons (pv 3) (pa_cons (pe_bltn (v := .ty "str") (by rfl) Tt.n_str (by decide +kernel) rfl) pa_nil))))))))))), ?_⟩
    refine ⟨_, rfl, _, _, _, _, _, rfl, .ty _, dp_ty hd, kit_ty (kb_tup _), _, rfl, ?_⟩
    refine ite2 (fun c => by cases c) (fun _ => ?_)
    cases hd with
    | @tup a xs _ hs ha =>
      cases ha with
      | @cons x1 _ _ _ h1 ha =>
        cases ha with
        | @cons x2 _ _ _ h2 ha =>
          cases ha with
          | @cons x3 _ _ _ h3 ha =>
            cases ha
            cases h1
            cases h2
            refine ⟨_, rfl, a, _, rfl, .inr hs, rfl, _, rfl, ?_⟩
            refine ite2 (fun c => by cases c) (fun _ => ?_)
            refine ⟨_, rfl, a, _, rfl, hs, rfl, _, _, rfl, _, _, rfl, _, _, rfl, rfl, ?_⟩
            cases d with
            | inl d =>
              refine ⟨_, rfl, rfl, _, rfl, ?_⟩
              refine ite2 (fun _ => ?_) (fun c => absurd (show decide (V.str (Str.ofString "input") = V.str (Str.ofString "input")) = true from by decide +kernel) c)
              refine ⟨_, rfl, _, _, _, _, _, rfl, .ty _, dp_ty (K := K) (H := H) (.str nm), kit_ty (kb_str _), _, rfl, ?_⟩
              refine ite2 (fun _ => ?_) (fun c => absurd rfl c)
              refine ⟨_, rfl, x3, d, rfl, h3, fun H1 s1 => ?_⟩
              have e := hnum d rfl
              rw [e]
              exact q H1 s1
            | inr t =>
              cases (show Dp K H x3 (.str t) from h3)
              refine ⟨_, rfl, rfl, _, rfl, ?_⟩
              refine ite2 (fun c => absurd c (show ¬ decide (V.str (Str.ofString "formula") = V.str (Str.ofString "input")) = true from by decide +kernel)) (fun _ => ?_)
              refine ⟨_, rfl, _, _, _, _, _, rfl, .ty _, dp_ty (K := K) (H := H) (.str nm), kit_ty (kb_str _), _, rfl, ?_⟩
              refine ite2 (fun _ => ?_) (fun c => absurd rfl c)
              refine ⟨_, rfl, rfl, _, rfl, ?_⟩
              refine ite2 (fun _ => ?_) (fun c => absurd (show decide (V.str (Str.ofString "formula") = V.str (Str.ofString "formula")) = true from by decide +kernel) c)
              exact ⟨_, rfl, _, _, _, _, _, rfl, .ty _, dp_ty (K := K) (H := H) (.str t), kit_ty (kb_str _), q H (Same.refl H)⟩
end

end Bs
namespace Bs
open PySem L2
/-! ### the form of a right formula -/
def spForm (K : PySem.W.Frag) : Sp := fun vs H Q _ => ∃ (x : Str) (l : List Nat) (ns : List Str) (ts : List Tkn) (ss : List Stp) (g : Fq), vs = [.str x, tx l] ∧ l.length ≤ 60000 ∧ (∀ x ∈ ns, PyData.strOk x = true) ∧ ns.length ≤ 60 ∧ Toks l 0 ts ∧ GrV ns .sm ts ss [g] ∧
  ∀ r H', Same H H' → FmA K ns H' r g (17 * l.length) → Q r H'
section
variable {P : Program} {w : World} {K : PySem.W.Frag} {mg : Str → Option Value} {base : Heap}
theorem ok_formula_form {Cf Cl Cd : Addr} (GP : Kn P w K mg base (L2.CX P w) "parse_formula" 42 ["text"] (spParse K Cf Cl Cd)) (D : Df K mg "formula_form" s_formula_form ["name", "text"]) : Kn P w K mg base CX0 "formula_form" 43 ["name", "text"] (spForm K) := by
  obtain ⟨f, fd, F, hm, hb⟩ := D
  obtain ⟨f_parse_formula, fd_parse_formula, G_parse_formula, m_parse_formula, k_parse_formula, b_parse_formula⟩ := GP
  refine ⟨f, fd, F.ok sc_formula_form (fun vs H Q E h => ?_) (fun cdv A outer s H vs Q E hr h => ?_), hm, F.kp, hb⟩
  · obtain ⟨x, l, ns, ts, ss, g, rfl, _⟩ := h
    rfl
  · obtain ⟨x, l, ns, ts, ss, g, rfl, hl, hn, hns, ht, hg, q⟩ := h
    refine ⟨_, (pss_one (ps_try_thru0 (pss_one (ps_ret (pe_call G_parse_formula (hr.mono (by omega)) rfl m_parse_formula k_parse_formula b_parse_formula .nil passL (pa_cons (pv 1) pa_nil)))))), ?_⟩
    exact ⟨_, rfl, parse_yes hl hn hns ht hg q⟩
end

end Bs
namespace Bs
open PySem L2
/-! ### numbers and names as parts of a formula -/
theorem numL_digs (n : Nat) : ∀ c ∈ TL.numL n, c ∈ digs := fun c hc => by
  have h := TL.numL_digits n c hc
  have key : ∀ c, c < 58 → 48 ≤ c → c ∈ digs := by decide
  exact key c (by omega) h.1
theorem digs_not {c : Nat} (h : c ∈ digs) : c ∉ signL ∧ c < 58 ∧ 48 ≤ c := by
  have key : ∀ c ∈ digs, c ∉ signL ∧ c < 58 ∧ 48 ≤ c := by decide
  exact key c h
theorem numL_lt2 (n : Nat) : n < 2 ^ (4 * (TL.numL n).length) := by
  have h := dv_lt (TL.numL n) (TL.numL_digits n)
  rw [TL.numL_val] at h
  refine Nat.lt_of_lt_of_le h ?_
  rw [Nat.pow_mul]
  exact Nat.pow_le_pow_left (by decide) _
theorem numL_word (n : Nat) : digW (TL.numL n) ∧ ¬ signW (TL.numL n) ∧ TL.numL n ≠ oppW ∧ TL.numL n ≠ sumW ∧ TL.numL n ≠ avgW ∧ TL.numL n ≠ [40] ∧ TL.numL n ≠ [41] ∧ TL.numL n ≠ [44] := by
  cases h : TL.numL n with
  | nil => exact absurd h (TL.numL_ne n)
  | cons c r =>
    have hc : c ∈ digs := numL_digs n c (by rw [h]; exact List.mem_cons_self ..)
    obtain ⟨h1, h2, h3⟩ := digs_not hc
    have ne : ∀ {d : Nat} {s : List Nat}, d ∉ digs → c :: r ≠ d :: s := fun hd e => by
      injection e with e _
      exact hd (by rw [← e]; exact hc)
    refine ⟨⟨c, rfl, hc⟩, fun z => ?_, ne (by decide), ne (by decide), ne (by decide), ne (by decide), ne (by decide), ne (by decide)⟩
    rcases z with z | z | z | z | z | z | z <;> exact absurd z (ne (by decide))
theorem num_atom (ns : List Str) (n p : Nat) (h : (TL.numL n).length ≤ 4900) : GrV ns .fac [(TL.numL n, p)] [(TL.numL n, p, 0)] [conQ (n : Rat)] := by
  obtain ⟨dw, ns1, o1, o2, o3, o4, o5, o6⟩ := numL_word n
  have er : readL (TL.numL n) = some ((n : Int), 1) := by
    have z := readL_rat (z := ((n : Int), 1)) (red_one _)
    have e : ratL ((n : Int), 1) = TL.numL n := by
      unfold ratL
      rw [if_pos rfl]
      unfold intL
      rw [if_neg (by show ¬ (n : Int) < 0; omega)]
      rfl
    rw [e] at z
    exact z
  have sz : Sz (4 * (TL.numL n).length + 1) ((n : Int), 1) := by
    have h1 := numL_lt2 n
    have h2 : 2 ^ (4 * (TL.numL n).length) < 2 ^ (4 * (TL.numL n).length + 1) := Nat.pow_lt_pow_right (by decide) (Nat.lt_succ_self _)
    exact ⟨by show (n : Int).natAbs < _; omega, by show (1 : Int).natAbs < _; have := Nat.one_le_two_pow (n := 4 * (TL.numL n).length); omega⟩
  have wd : WdOk ns (TL.numL n) := ⟨TL.numL_ne n, by omega, ⟨o4, o5, o6⟩, fun _ => ⟨(show (TL.numL n).length ≤ 4990 by omega), _, er, red_one _, sz⟩, fun z => absurd dw z⟩
  have pl : Plain (TL.numL n) := ⟨o1, fun e => ns1 (.inr (.inl e)), fun e => ns1 (.inr (.inr (.inl e))), fun e => ns1 (.inr (.inr (.inr (.inl e)))), fun e => e.elim (fun e => ns1 (.inl e)) o2, o3⟩
  refine .atom wd o2 o3 ns1 ?_ o1
  rw [pf_num pl dw, er]
  show Except.ok (conQ (qv ((n : Int), 1))) = _
  rw [qv_int, Rat.intCast_natCast]
theorem name_atom {ns : List Str} {w : List Nat} (p : Nat) (h0 : w ≠ []) (hl : ∀ c ∈ w, c ∈ lets) (h8 : w.length ≤ 8) (hs : w ≠ sumW) (ha : w ≠ avgW) (hin : SX.S w ∈ ns) : GrV ns .fac [(w, p)] [(w, p, 0)] [celQ (SX.S w)] := by
  have key : ∀ c ∈ lets, c ∉ signL ∧ c ∉ digs := by decide
  cases w with
  | nil => exact absurd rfl h0
  | cons c r =>
    have hc := hl c (List.mem_cons_self ..)
    have ne : ∀ {d : Nat} {s : List Nat}, d ∉ lets → c :: r ≠ d :: s := fun hd e => by
      injection e with e _
      exact hd (by rw [← e]; exact hc)
    have nd : ¬ digW (c :: r) := fun ⟨d, e, hd⟩ => by
      cases e
      exact (key c hc).2 hd
    have ns1 : ¬ signW (c :: r) := fun z => by
      rcases z with z | z | z | z | z | z | z <;> exact absurd z (ne (by decide))
    have o1 : c :: r ≠ oppW := ne (by decide)
    have pl : Plain (c :: r) := ⟨o1, ne (by decide), ne (by decide), ne (by decide), fun e => e.elim (fun e => ne (by decide) e) hs, ha⟩
    exact .atom ⟨h0, by omega, ⟨ne (by decide), ne (by decide), ne (by decide)⟩, fun z => absurd z nd, fun _ _ _ _ _ => hin⟩ hs ha ns1 (pf_cel pl nd) o1
theorem con_isC (r : Rat) : isC (conQ r) := fun _ => rfl
theorem scl_con (r s : Rat) : sclQ r (conQ s) = conQ (r * s) := by
  unfold sclQ conQ
  refine Prod.ext (funext fun x => ?_) rfl
  show r * 0 = 0
  grind
theorem mul_con (p : Nat) (r : Rat) (g : Fq) : perfW [42] p [conQ r, g] = .ok (sclQ r g) := pf_mul1 rfl (con_isC r)
theorem div_con (p : Nat) (r s : Rat) (h : s ≠ 0) : perfW [47] p [conQ r, conQ s] = .ok (conQ (r / s)) := by
  have e := pf_div1 (w := [47]) (p := p) (l := [conQ r, conQ s]) rfl (show isC (nth0 [conQ r, conQ s] 1) from con_isC s) (show (conQ s).2 ≠ 0 from h)
  rw [e]
  show Except.ok (sclQ (1 / s) (conQ r)) = _
  rw [scl_con]
  refine congrArg (fun z => Except.ok (conQ z)) ?_
  grind
/-- a factor that is a number, over another, and times a name -/
theorem over_prd {ns : List Str} {ts : List Tkn} {ss : List Stp} {s : Rat} (h : GrV ns .fac ts ss [conQ s]) (m q r : Nat) (hm : m ≠ 0) (hl : (TL.numL m).length ≤ 4900) :
    GrV ns .prd (ts ++ ([47], q) :: [(TL.numL m, r)]) (ss ++ [(TL.numL m, r, 0)] ++ [([47], q, 2)]) [conQ (s / (m : Rat))] :=
  .prd (.inr rfl) (.prd1 h) (num_atom ns m r hl) (div_con q s m fun z => hm (Rat.natCast_inj.mp z))
theorem times_prd {ns : List Str} {ts : List Tkn} {ss : List Stp} {s : Rat} (h : GrV ns .prd ts ss [conQ s]) {w : List Nat} (q r : Nat) (hw : GrV ns .fac [(w, r)] [(w, r, 0)] [celQ (SX.S w)]) :
    GrV ns .prd (ts ++ ([42], q) :: [(w, r)]) (ss ++ [(w, r, 0)] ++ [([42], q, 2)]) [sclQ s (celQ (SX.S w))] :=
  .prd (.inl rfl) h hw (mul_con q s _)
theorem add_zero_con (a : Fq) : addQ (conQ 0) a = a := by
  unfold addQ conQ
  refine Prod.ext (funext fun x => ?_) ?_
  · show 0 + a.1 x = a.1 x
    grind
  · show 0 + a.2 = a.2
    grind
theorem plus_sm {ns : List Str} {ts us : List Tkn} {ss rr : List Stp} {a b : Fq} (p : Nat) (h : GrV ns .sm ts ss [a]) (k : GrV ns .prd us rr [b]) : GrV ns .sm (ts ++ ([43], p) :: us) (ss ++ rr ++ [([43], p, 2)]) [addQ a b] :=
  .sm (.inl rfl) h k ((pf_sum (.inl rfl)).trans (congrArg Except.ok (show addQ (addQ (conQ 0) a) b = addQ a b by rw [add_zero_con])))
theorem minus_sm {ns : List Str} {ts us : List Tkn} {ss rr : List Stp} {a b : Fq} (p : Nat) (h : GrV ns .sm ts ss [a]) (k : GrV ns .prd us rr [b]) : GrV ns .sm (ts ++ ([45], p) :: us) (ss ++ rr ++ [([45], p, 2)]) [addQ a (sclQ (-1) b)] :=
  .sm (.inr rfl) h k (pf_sub rfl)
/-! ### their tokens -/
theorem lex_num {n i : Nat} {s : List Nat} {ts : List Tkn} (hs : ∀ x, s.head? = some x → x ∉ digs ∧ x ≠ 46) (h : Lex (i + (TL.numL n).length) s ts) : Lex i (TL.numL n ++ s) ((TL.numL n, i) :: ts) := by
  have hd := numL_digs n
  cases e : TL.numL n with
  | nil => exact absurd e (TL.numL_ne n)
  | cons c w =>
    rw [e] at h hd
    exact .tok (fun z => absurd (hd c (List.mem_cons_self ..)) (by rw [z]; decide)) (tok_number hd hs) h
theorem lex_name {w : List Nat} {i : Nat} {s : List Nat} {ts : List Tkn} (h0 : w ≠ []) (hl : ∀ c ∈ w, c ∈ lets) (h8 : w.length ≤ 8) (hs : ∀ x, s.head? = some x → x ∉ lets) (h : Lex (i + w.length) s ts) : Lex i (w ++ s) ((w, i) :: ts) := by
  cases w with
  | nil => exact absurd rfl h0
  | cons c w => exact .tok (fun z => absurd (hl c (List.mem_cons_self ..)) (by rw [z]; decide)) (tok_name hl h8 hs) h
theorem lex_sign {c i : Nat} {s : List Nat} {ts : List Tkn} (hc : c ∈ sgns) (h : Lex (i + 1) s ts) : Lex i (c :: s) (([c], i) :: ts) :=
  Lex.tok (w := []) (fun z => absurd hc (by rw [z]; decide)) (tok_sign hc) h

end Bs
namespace Bs
open PySem L2
/-! ### a form's parts, read back -/
def preB (b : Bool) : List Nat := if b = true then [45] else []
def sgB (b : Bool) : Rat := if b = true then -1 else 1
/-- what may follow a number or a name -/
def EndS (s : List Nat) : Prop := ∀ x, s.head? = some x → x ∉ digs ∧ x ≠ 46 ∧ x ∉ lets
def RdP (ns : List Str) (k : Prt) (u : List Nat) (g : Fq) : Prop := ∀ i : Nat, ∃ ts ss, GrV ns k ts ss [g] ∧ ∀ s rest, EndS s → Lex (i + u.length) s rest → Lex i (u ++ s) (ts ++ rest)
theorem rd_num (ns : List Str) (b : Bool) (n : Nat) (h : (TL.numL n).length ≤ 4900) : RdP ns .fac (preB b ++ TL.numL n) (conQ (sgB b * (n : Rat))) := fun i => by
  cases b with
  | false =>
    refine ⟨[(TL.numL n, i)], [(TL.numL n, i, 0)], ?_, fun s rest hs hl => lex_num (fun x hx => ⟨(hs x hx).1, (hs x hx).2.1⟩) hl⟩
    have e : sgB false * (n : Rat) = (n : Rat) := by show 1 * (n : Rat) = n; grind
    rw [e]
    exact num_atom ns n i h
  | true =>
    refine ⟨([45], i) :: [(TL.numL n, i + 1)], [(TL.numL n, i + 1, 0)] ++ [(oppW, i, 1)], ?_, fun s rest hs hl => lex_sign (by decide) (lex_num (fun x hx => ⟨(hs x hx).1, (hs x hx).2.1⟩) ?_)⟩
    · have z := GrV.neg (p := i) (num_atom ns n (i + 1) h)
      rw [scl_con] at z
      exact z
    · have e : i + (preB true ++ TL.numL n).length = i + 1 + (TL.numL n).length := by
        show i + ((TL.numL n).length + 1) = _
        omega
      show Lex (i + 1 + (TL.numL n).length) s rest
      rw [← e]
      exact hl
theorem scl_one (g : Fq) : sclQ 1 g = g := by
  unfold sclQ
  refine Prod.ext (funext fun x => ?_) ?_
  · show 1 * g.1 x = g.1 x
    grind
  · show 1 * g.2 = g.2
    grind
/-- a name that a formula may have -/
structure NmOk (ns : List Str) (w : List Nat) : Prop where
  ne : w ≠ []
  low : ∀ c ∈ w, c ∈ lets
  few : w.length ≤ 8
  s : w ≠ sumW
  a : w ≠ avgW
  mem : SX.S w ∈ ns
theorem rd_name {ns : List Str} (b : Bool) {w : List Nat} (h : NmOk ns w) : RdP ns .fac (preB b ++ w) (sclQ (sgB b) (celQ (SX.S w))) := fun i => by
  cases b with
  | false =>
    refine ⟨[(w, i)], [(w, i, 0)], ?_, fun s rest hs hl => lex_name h.ne h.low h.few (fun x hx => (hs x hx).2.2) hl⟩
    have e : sclQ (sgB false) (celQ (SX.S w)) = celQ (SX.S w) := scl_one _
    rw [e]
    exact name_atom i h.ne h.low h.few h.s h.a h.mem
  | true =>
    refine ⟨([45], i) :: [(w, i + 1)], _, .neg (name_atom (i + 1) h.ne h.low h.few h.s h.a h.mem), fun s rest hs hl => lex_sign (by decide) (lex_name h.ne h.low h.few (fun x hx => (hs x hx).2.2) ?_)⟩
    have e : i + (preB true ++ w).length = i + 1 + w.length := by
      show i + (w.length + 1) = _
      omega
    show Lex (i + 1 + w.length) s rest
    rw [← e]
    exact hl
theorem endS_sign {c : Nat} {s : List Nat} (h : c ∈ sgns ∨ c = 32) : EndS (c :: s) := fun x hx => by
  cases hx
  have key : ∀ c ∈ sgns, c ∉ digs ∧ c ≠ 46 ∧ c ∉ lets := by decide
  rcases h with h | rfl
  · exact key _ h
  · decide
/-- .. over a number -/
theorem rd_over {ns : List Str} {u : List Nat} {a : Rat} (h : RdP ns .fac u (conQ a)) (m : Nat) (hm : m ≠ 0) (hl : (TL.numL m).length ≤ 4900) : RdP ns .prd (u ++ 47 :: TL.numL m) (conQ (a / (m : Rat))) := fun i => by
  obtain ⟨ts, ss, g, lx⟩ := h i
  refine ⟨_, _, over_prd g m (i + u.length) (i + u.length + 1) hm hl, fun s rest hs hx => ?_⟩
  rw [List.append_assoc, List.append_assoc]
  refine lx _ _ (endS_sign (.inl (by decide))) (lex_sign (by decide) (lex_num (fun x hx => ⟨(hs x hx).1, (hs x hx).2.1⟩) ?_))
  have e : i + (u ++ 47 :: TL.numL m).length = i + u.length + 1 + (TL.numL m).length := by
    rw [List.length_append, List.length_cons]
    omega
  rw [← e]
  exact hx
/-- .. times a name -/
theorem rd_times {ns : List Str} {u : List Nat} {a : Rat} (h : RdP ns .prd u (conQ a)) {w : List Nat} (hw : NmOk ns w) : RdP ns .prd (u ++ 42 :: w) (sclQ a (celQ (SX.S w))) := fun i => by
  obtain ⟨ts, ss, g, lx⟩ := h i
  refine ⟨_, _, times_prd g (i + u.length) (i + u.length + 1) (name_atom _ hw.ne hw.low hw.few hw.s hw.a hw.mem), fun s rest hs hx => ?_⟩
  rw [List.append_assoc, List.append_assoc]
  refine lx _ _ (endS_sign (.inl (by decide))) (lex_sign (by decide) (lex_name hw.ne hw.low hw.few (fun x hx => (hs x hx).2.2) ?_))
  have e : i + (u ++ 42 :: w).length = i + u.length + 1 + w.length := by
    rw [List.length_append, List.length_cons]
    omega
  rw [← e]
  exact hx
theorem rd_prd {ns : List Str} {u : List Nat} {g : Fq} (h : RdP ns .fac u g) : RdP ns .prd u g := fun i => by
  obtain ⟨ts, ss, k, lx⟩ := h i
  exact ⟨ts, ss, .prd1 k, lx⟩
/-- the size of a number -/
def magQ (z : Int × Int) : Rat := (z.1.natAbs : Rat) / (z.2.natAbs : Rat)
def Short (z : Int × Int) : Prop := (TL.numL z.1.natAbs).length ≤ 4900 ∧ (TL.numL z.2.natAbs).length ≤ 4900
theorem intN (n : Nat) : intL (n : Int) = TL.numL n := by
  unfold intL
  rw [if_neg (by omega), Int.natAbs_natCast]
theorem unsL_one {z : Int × Int} (h : z.2 = 1) : unsL z = TL.numL z.1.natAbs := by
  unfold unsL ratL
  rw [if_pos h, intN]
theorem unsL_two {z : Int × Int} (hr : Red z) (h : z.2 ≠ 1) : unsL z = TL.numL z.1.natAbs ++ 47 :: TL.numL z.2.natAbs := by
  have p := hr.pos
  unfold unsL ratL
  rw [if_neg h, intN]
  have e : z.2 = ((z.2.natAbs : Nat) : Int) := by omega
  show _ ++ 47 :: intL z.2 = _
  conv => lhs; rw [e, intN]
theorem rd_const {ns : List Str} (b : Bool) {z : Int × Int} (hr : Red z) (hs : Short z) : RdP ns .prd (preB b ++ unsL z) (conQ (sgB b * magQ z)) := by
  have p := hr.pos
  by_cases h : z.2 = 1
  · rw [unsL_one h]
    have e : sgB b * magQ z = sgB b * (z.1.natAbs : Rat) := by
      unfold magQ
      rw [h]
      show sgB b * ((z.1.natAbs : Rat) / ((1 : Nat) : Rat)) = _
      have : ((1 : Nat) : Rat) = 1 := rfl
      rw [this]
      grind
    rw [e]
    exact rd_prd (rd_num ns b _ hs.1)
  · rw [unsL_two hr h, ← List.append_assoc]
    have e : sgB b * magQ z = sgB b * (z.1.natAbs : Rat) / (z.2.natAbs : Rat) := by
      unfold magQ
      grind
    rw [e]
    exact rd_over (rd_num ns b _ hs.1) _ (by omega) hs.2
theorem rd_term {ns : List Str} (b : Bool) {z : Int × Int} (hr : Red z) (hs : Short z) {w : List Nat} (hw : NmOk ns w) : RdP ns .prd (preB b ++ trmL z w) (sclQ (sgB b * magQ z) (celQ (SX.S w))) := by
  have p := hr.pos
  unfold trmL
  by_cases h1 : unsL z = [49]
  · rw [if_pos h1]
    have e : magQ z = 1 := by
      by_cases h : z.2 = 1
      · rw [unsL_one h] at h1
        have v := congrArg NumText.digitsVal h1
        rw [TL.numL_val] at v
        have v : z.1.natAbs = 1 := v.trans (by decide)
        unfold magQ
        rw [v, h]
        show ((1 : Nat) : Rat) / ((1 : Nat) : Rat) = 1
        decide +kernel
      · rw [unsL_two hr h] at h1
        have v := congrArg List.length h1
        have n0 := List.length_pos_iff.mpr (TL.numL_ne z.1.natAbs)
        rw [List.length_append, List.length_cons] at v
        simp only [List.length_cons, List.length_nil] at v
        omega
    have e2 : sgB b * magQ z = sgB b := by
      rw [e]
      grind
    rw [e2]
    exact rd_prd (rd_name b hw)
  · rw [if_neg h1, ← List.append_assoc]
    exact rd_times (rd_const b hr hs) hw
theorem rd_sm {ns : List Str} {u : List Nat} {g : Fq} (h : RdP ns .prd u g) : RdP ns .sm u g := fun i => by
  obtain ⟨ts, ss, k, lx⟩ := h i
  exact ⟨ts, ss, .sm1 k, lx⟩
theorem rd_more {ns : List Str} (b : Bool) {u v : List Nat} {a g : Fq} (h : RdP ns .sm u a) (k : RdP ns .prd v g) : RdP ns .sm (u ++ 32 :: (if b = true then 45 else 43) :: 32 :: v) (addQ a (sclQ (sgB b) g)) := fun i => by
  obtain ⟨ts, ss, g1, l1⟩ := h i
  obtain ⟨us, rr, g2, l2⟩ := k (i + u.length + 3)
  have hc : (if b = true then 45 else 43) ∈ sgns := by cases b <;> decide
  refine ⟨ts ++ ([if b = true then 45 else 43], i + u.length + 1) :: us, ss ++ rr ++ [([if b = true then 45 else 43], i + u.length + 1, 2)], ?_, fun s rest hs hx => ?_⟩
  · cases b with
    | false =>
      have z := plus_sm (i + u.length + 1) g1 g2
      rw [show addQ a (sclQ (sgB false) g) = addQ a g from congrArg (addQ a) (scl_one g)]
      exact z
    | true => exact minus_sm (i + u.length + 1) g1 g2
  · rw [List.append_assoc, List.append_assoc]
    refine l1 _ _ (endS_sign (.inr rfl)) (.space (lex_sign hc (.space (l2 s rest hs ?_))))
    have e : i + (u ++ 32 :: (if b = true then 45 else 43) :: 32 :: v).length = i + u.length + 3 + v.length := by
      rw [List.length_append, List.length_cons, List.length_cons, List.length_cons]
      omega
    rw [← e]
    exact hx
/-- parts with their signs, one behind another -/
def restL (ps : List (Bool × List Nat × Fq)) : List Nat := (ps.map fun p => 32 :: (if p.1 = true then 45 else 43) :: 32 :: p.2.1).flatten
def restQ (a : Fq) (ps : List (Bool × List Nat × Fq)) : Fq := ps.foldl (fun a p => addQ a (sclQ (sgB p.1) p.2.2)) a
theorem rd_all {ns : List Str} : ∀ (ps : List (Bool × List Nat × Fq)) {u : List Nat} {a : Fq}, RdP ns .sm u a → (∀ p ∈ ps, RdP ns .prd p.2.1 p.2.2) → RdP ns .sm (u ++ restL ps) (restQ a ps)
  | [], u, a, h, _ => by
    show RdP ns .sm (u ++ []) a
    rw [List.append_nil]
    exact h
  | p :: ps, u, a, h, k => by
    have z := rd_all ps (rd_more p.1 h (k p (List.mem_cons_self ..))) fun q hq => k q (List.mem_cons_of_mem _ hq)
    rw [List.append_assoc] at z
    exact z

end Bs
namespace Bs
open PySem L2
/-! ### a form's text, read back -/
def pdT (t : Str × (Int × Int)) : Bool × List Nat × Fq := (decide (t.2.1 < 0), trmL t.2 t.1.cps.toList, sclQ (magQ t.2) (celQ t.1))
def pdC (c : Int × Int) : Bool × List Nat × Fq := (decide (c.1 < 0), unsL c, conQ (magQ c))
def pdL (ts : Ts) (c : Int × Int) : List (Bool × List Nat × Fq) := ts.map pdT ++ (if c.1 ≠ 0 ∨ ts = [] then [pdC c] else [])
theorem sgL_is (z : Int × Int) (u : List Nat) : sgL z ++ u = 32 :: (if decide (z.1 < 0) = true then 45 else 43) :: 32 :: u := by
  unfold sgL
  by_cases h : z.1 < 0
  · rw [if_pos h, if_pos (decide_eq_true h)]
    rfl
  · rw [if_neg h, if_neg (fun y => h (of_decide_eq_true y))]
    rfl
theorem prL_is (ts : Ts) (c : Int × Int) : (prL ts c).flatten = restL (pdL ts c) := by
  unfold prL pdL restL
  rw [List.map_append, List.flatten_append, List.flatten_append]
  refine congr (congrArg _ ?_) ?_
  · rw [List.map_map]
    refine congrArg List.flatten (List.map_congr_left fun t _ => ?_)
    exact sgL_is t.2 _
  · split
    · refine congrArg List.flatten (congrArg (· :: []) ?_)
      exact sgL_is c _
    · rfl
theorem fmL_is {ts : Ts} {c : Int × Int} {p : Bool × List Nat × Fq} {ps : List (Bool × List Nat × Fq)} (h : pdL ts c = p :: ps) : fmL ts c = preB p.1 ++ p.2.1 ++ restL ps := by
  unfold fmL
  rw [prL_is, h]
  have e : restL (p :: ps) = 32 :: (if p.1 = true then 45 else 43) :: 32 :: (p.2.1 ++ restL ps) := rfl
  rw [e]
  cases p.1 with
  | true =>
    rw [if_pos rfl]
    rfl
  | false =>
    refine (if_neg (fun y => ?_)).trans ((if_pos rfl).trans rfl)
    injection y with _ y
    injection y with y _
    exact absurd y (by decide)
theorem pdL_ne (ts : Ts) (c : Int × Int) : ∃ p ps, pdL ts c = p :: ps := by
  unfold pdL
  cases ts with
  | nil => exact ⟨pdC c, [], by rw [if_pos (.inr rfl)]; rfl⟩
  | cons t ts => exact ⟨_, _, rfl⟩
theorem rd_first {ns : List Str} {t : Str × (Int × Int)} (hr : Red t.2) (hs : Short t.2) (hw : NmOk ns t.1.cps.toList) : RdP ns .prd (preB (pdT t).1 ++ (pdT t).2.1) (sclQ (sgB (pdT t).1) (pdT t).2.2) ∧ RdP ns .prd (pdT t).2.1 (pdT t).2.2 := by
  have e : ∀ r s : Rat, sclQ r (sclQ s (celQ t.1)) = sclQ (r * s) (celQ t.1) := fun r s => by
    unfold sclQ
    refine Prod.ext (funext fun x => ?_) ?_
    · show r * (s * (celQ t.1).1 x) = r * s * (celQ t.1).1 x
      grind
    · show r * (s * (celQ t.1).2) = r * s * (celQ t.1).2
      grind
  refine ⟨?_, ?_⟩
  · have z := rd_term (decide (t.2.1 < 0)) hr hs hw
    rw [strS_eq] at z
    show RdP ns .prd _ (sclQ (sgB (decide (t.2.1 < 0))) (sclQ (magQ t.2) (celQ t.1)))
    rw [e]
    exact z
  · have z := rd_term false hr hs hw
    rw [strS_eq, show sgB false * magQ t.2 = magQ t.2 by show 1 * magQ t.2 = _; grind] at z
    exact z
theorem rd_firstC {ns : List Str} {c : Int × Int} (hr : Red c) (hs : Short c) : RdP ns .prd (preB (pdC c).1 ++ (pdC c).2.1) (sclQ (sgB (pdC c).1) (pdC c).2.2) ∧ RdP ns .prd (pdC c).2.1 (pdC c).2.2 := by
  refine ⟨?_, ?_⟩
  · show RdP ns .prd _ (sclQ (sgB (decide (c.1 < 0))) (conQ (magQ c)))
    rw [scl_con]
    exact rd_const _ hr hs
  · have z := rd_const (ns := ns) false hr hs
    rw [show sgB false * magQ c = magQ c by show 1 * magQ c = _; grind] at z
    exact z
/-- a form's text reads as the sum of its parts -/
theorem fm_read {ns : List Str} {ts : Ts} {c : Int × Int} (ht : ∀ t ∈ ts, Red t.2 ∧ Short t.2 ∧ NmOk ns t.1.cps.toList) (hr : Red c) (hs : Short c) : RdP ns .sm (fmL ts c) (restQ (conQ 0) (pdL ts c)) := by
  obtain ⟨p, ps, e⟩ := pdL_ne ts c
  have all : ∀ q ∈ pdL ts c, RdP ns .prd (preB q.1 ++ q.2.1) (sclQ (sgB q.1) q.2.2) ∧ RdP ns .prd q.2.1 q.2.2 := fun q hq => by
    unfold pdL at hq
    rcases List.mem_append.mp hq with hq | hq
    · obtain ⟨t, m, rfl⟩ := List.mem_map.mp hq
      obtain ⟨h1, h2, h3⟩ := ht t m
      exact rd_first h1 h2 h3
    · split at hq
      · obtain rfl := List.mem_singleton.mp hq
        exact rd_firstC hr hs
      · cases hq
  rw [fmL_is e]
  rw [e] at all ⊢
  have z := rd_all ps (rd_sm (all p (List.mem_cons_self ..)).1) fun q hq => (all q (List.mem_cons_of_mem _ hq)).2
  have e2 : restQ (conQ 0) (p :: ps) = restQ (sclQ (sgB p.1) p.2.2) ps := by
    show restQ (addQ (conQ 0) (sclQ (sgB p.1) p.2.2)) ps = _
    rw [add_zero_con]
  rw [e2]
  exact z
theorem sg_mag {z : Int × Int} (hr : Red z) : sgB (decide (z.1 < 0)) * magQ z = qv z := by
  have p := hr.pos
  have e2 : ((z.2.natAbs : Nat) : Rat) = ((z.2 : Int) : Rat) := by
    rw [← Rat.intCast_natCast]
    exact congrArg (fun i : Int => (i : Rat)) (by omega)
  unfold magQ qv
  rw [e2]
  by_cases h : z.1 < 0
  · have e1 : ((z.1.natAbs : Nat) : Rat) = -((z.1 : Int) : Rat) := by
      rw [← Rat.intCast_natCast, ← Rat.intCast_neg]
      exact congrArg (fun i : Int => (i : Rat)) (by omega)
    rw [e1, decide_eq_true h]
    show (-1 : Rat) * _ = _
    grind
  · have e1 : ((z.1.natAbs : Nat) : Rat) = ((z.1 : Int) : Rat) := by
      rw [← Rat.intCast_natCast]
      exact congrArg (fun i : Int => (i : Rat)) (by omega)
    rw [e1, decide_eq_false h]
    show (1 : Rat) * _ = _
    grind
theorem rest_terms : ∀ (ts : Ts) (a : Fq), (ts.map (·.1)).Nodup → (∀ t ∈ ts, Red t.2) → (∀ x, (restQ a (ts.map pdT)).1 x = a.1 x + cq ts x) ∧ (restQ a (ts.map pdT)).2 = a.2
  | [], a, _, _ => ⟨fun x => by show a.1 x = a.1 x + 0; grind, rfl⟩
  | t :: ts, a, nd, h => by
    rw [List.map_cons] at nd
    obtain ⟨n1, n2⟩ := List.nodup_cons.mp nd
    have z := rest_terms ts (addQ a (sclQ (sgB (pdT t).1) (pdT t).2.2)) n2 fun u hu => h u (List.mem_cons_of_mem _ hu)
    have q := sg_mag (h t (List.mem_cons_self ..))
    refine ⟨fun x => ?_, ?_⟩
    · refine (z.1 x).trans ?_
      show a.1 x + sgB (decide (t.2.1 < 0)) * (magQ t.2 * (if t.1 = x then 1 else 0)) + cq ts x = a.1 x + cq (t :: ts) x
      rw [cq_cons]
      by_cases e : t.1 = x
      · rw [if_pos e, if_pos e, cq_off (by rw [← e]; exact n1), ← q]
        grind
      · rw [if_neg e, if_neg e]
        grind
    · refine z.2.trans ?_
      show a.2 + sgB (decide (t.2.1 < 0)) * (magQ t.2 * 0) = a.2
      grind
theorem rest_all {ns : List Str} {k : Nat} {ts : Ts} {c : Int × Int} (f : FormK ns k ts c) : (∀ x, (restQ (conQ 0) (pdL ts c)).1 x = cq ts x) ∧ (restQ (conQ 0) (pdL ts c)).2 = qv c := by
  have z := rest_terms ts (conQ 0) f.nodup fun t ht => (f.terms t ht).1
  have e : ∀ (a : Fq) (ps qs : List (Bool × List Nat × Fq)), restQ a (ps ++ qs) = restQ (restQ a ps) qs := fun a ps qs => List.foldl_append
  unfold pdL
  rw [e]
  by_cases h : c.1 ≠ 0 ∨ ts = []
  · rw [if_pos h]
    have q := sg_mag f.const.1
    refine ⟨fun x => ?_, ?_⟩
    · show (restQ (conQ 0) (ts.map pdT)).1 x + sgB (decide (c.1 < 0)) * 0 = _
      rw [z.1 x]
      show 0 + cq ts x + _ = _
      grind
    · show (restQ (conQ 0) (ts.map pdT)).2 + sgB (decide (c.1 < 0)) * magQ c = _
      rw [z.2, q]
      show 0 + qv c = _
      grind
  · rw [if_neg h]
    have c0 : c.1 = 0 := by
      rcases Decidable.em (c.1 = 0) with y | y
      · exact y
      · exact absurd (.inl y) h
    refine ⟨fun x => ?_, ?_⟩
    · refine (z.1 x).trans ?_
      show 0 + cq ts x = _
      grind
    · refine z.2.trans ?_
      rw [(qv_top f.const.1).mpr c0]
      rfl
/-- what parse_formula gives of a form's text: the form -/
theorem parse_text {K : PySem.W.Frag} {Cf Cl Cd : Addr} {H : Hp} {Q : VK} {E : XK} {ns ms : List Str} {k : Nat} {ts : Ts} {c : Int × Int} (hl : (fmL ts c).length ≤ 60000) (hn : ∀ x ∈ ns, PyData.strOk x = true) (hns : ns.length ≤ 60)
    (f : FormK ms k ts c) (ht : ∀ t ∈ ts, Short t.2 ∧ NmOk ns t.1.cps.toList) (hs : Short c) (q : ∀ r H', Same H H' → FormAt K H' r ts c → Q r H') : spParse K Cf Cl Cd [tx (fmL ts c)] H Q E := by
  obtain ⟨tk, ss, g, lx⟩ := fm_read (ns := ns) (fun t m => ⟨(f.terms t m).1, ht t m⟩) f.const.1 hs 0
  have l0 := lx [] [] (fun x hx => by cases hx) .nil
  rw [List.append_nil, List.append_nil] at l0
  have tks := lex_toks l0 [] rfl
  obtain ⟨r1, r2⟩ := rest_all f
  refine parse_yes hl hn hns tks g fun r H' s h => ?_
  obtain ⟨us, d, fa, gk, e1, e2, _⟩ := h
  have eu : us = ts := form_ext gk f fun x => (e1 x).trans (r1 x)
  have ed : d = c := qv_inj gk.const.1 f.const.1 (e2.trans r2)
  rw [eu, ed] at fa
  exact q r H' s fa

end Bs
namespace Bs
open PySem L2
theorem name_az {x : List Nat} (h : nameL x = true) {c : Nat} (hc : c ∈ x) : az c = true := by
  unfold nameL at h
  simp only [Bool.and_eq_true] at h
  exact List.all_eq_true.mp h.1.1.2 c hc
theorem name_no {x : List Nat} (h : nameL x = true) {c : Nat} (hc : az c = false) : c ∉ x := fun z => by
  rw [name_az h z] at hc
  cases hc
theorem name_len {x : List Nat} (h : nameL x = true) : x.length < 9 ∧ x ≠ [] := by
  unfold nameL at h
  simp only [Bool.and_eq_true] at h
  exact ⟨of_decide_eq_true h.1.1.1.2, of_decide_eq_true h.1.1.1.1⟩

/-! ### enumerate over a list or a tuple -/
section
open PySem.Spec PyProof.Rows
set_option maxHeartbeats 1000000 in
theorem enumNew1 {u : Value} {ob : Obj} {Hq : Heap → Prop} (B : Begins u ob Hq) :
    Meets (Builtin.«enumerate.__new__» ⟨[.type "enumerate", u], []⟩) (fun _ R z => Hq z.heap ∧
      R (.ok (.ret (.ref (z.heap.push ob).objs.size)))
        { z with heap := (z.heap.push ob).push { cls := .type "enumerate", data := .fields #[.none, .bool false, .ref z.heap.objs.size, rawInt 0, .none, .none] } }) :=
  .of_wp fun P w A R z h => by
    obtain ⟨hp, gs, ds, tk, os⟩ := z
    obtain ⟨hq, h⟩ := h
    have hsu := sub_enumerate
    have step : ∀ {A2 : Around} {E : Value → Shared → Prop} {Q : Value → Shared → Prop}, Q (.ref hp.objs.size) ⟨hp.push ob, gs, ds, tk, os⟩ → wpAny (model P w) A2 (pyIter u) Q E ⟨hp, gs, ds, tk, os⟩ :=
      fun q => B.iter P w _ _ ⟨hp, gs, ds, tk, os⟩ _ hq q
    wp_walk using step
    refine wpAny_stack_any fun st => wpAny_pure ?_
    split
    · rename_i c _ _ _ _ _
      cases (c == Value.type "enumerate")
      · wp_walk using step
        exact ⟨_, rfl, h⟩
      · wp_walk using step
        exact ⟨_, rfl, h⟩
    · wp_walk using step
      exact ⟨_, rfl, h⟩
theorem enumCall1 {P : Program} {w : World} {A : Around} {E : Value → Shared → Prop} {z : Shared} {u : Value} {ob : Obj} {Hq : Heap → Prop} {Q : Value → Shared → Prop} (B : Begins u ob Hq) (hq : Hq z.heap)
    (h : ∀ h', IsEnum h' (z.heap.objs.size + 1) z.heap.objs.size 0 .none → h'.get? z.heap.objs.size = some ob →
      (∀ b o, z.heap.get? b = some o → h'.get? b = some o) → Q (.ref (z.heap.objs.size + 1)) { z with heap := h' }) :
    wpAny (model P w) A (call (.type "enumerate") [u]) Q E z := by
  refine callType_new F.called_enumerate (by decide) (F.typeCall_enumerate_1 _) (F.newCall_enumerate_1 _) (fun o => F.args_object_init_2 o _) F.entry_enumerate_new
    (enumNew1 B) ⟨hq, ?_⟩
  have sz : (z.heap.push ob).objs.size = z.heap.objs.size + 1 := Heap.size_push ..
  show _ ∧ _
  rw [sz]
  have ie : IsEnum ((z.heap.push ob).push { cls := .type "enumerate", data := .fields #[.none, .bool false, .ref z.heap.objs.size, rawInt 0, .none, .none] }) (z.heap.objs.size + 1) z.heap.objs.size 0 .none := by
    have y := Heap.get?_push_size (z.heap.push ob) (o := { cls := .type "enumerate", data := .fields #[.none, .bool false, .ref z.heap.objs.size, rawInt 0, .none, .none] }) rfl
    rw [sz] at y
    exact y
  exact ⟨⟨_, ie, rfl⟩, h _ ie (Heap.get?_push_of_some _ (Heap.get?_push_size _ B.free)) fun b o x => Heap.get?_push_of_some _ (Heap.get?_push_of_some _ x)⟩
theorem done_enumT {P : Program} {w : World} {A : Around} {E : Value → Shared → Prop} {z : Shared} {e it a : Addr} {i : Nat} {its : Array Value} {old : Value} {Q : Option Value → Shared → Prop} (hh : A.handled = none)
    (he : IsEnum z.heap e it i old) (hit : z.heap.IsTupleIter it a i) (ht : z.heap.IsTuple a its) (hx : its[i]? = none)
    (hQ : ∀ h', Heap.ExtBut it z.heap h' → Q none { z with heap := h' }) : wpAny (model P w) A (pyNext (.ref e)) Q E z := by
  have ty : z.TypeIs (.ref e) "enumerate" := ⟨_, he, rfl⟩
  unfold pyNext
  refine wpAny_bind (wpAny_attempt (wpAny_callSpecial?_slot (name := Str.ofString "__next__") ty F.slot_enumerate_next (wpAny_call_entry F.slot_enumerate_next ty F.entry_enumerate_next ?_ (F.args_enumerate_next_1 _))))
  refine wpAny_bind (m := field (.ref e) 2) (wpAny_field he rfl (x := .ref it) rfl ?_)
  refine wpAny_bind (wpAny_nextOf_tuple_end hh hit ht hx fun h' y he' hy => ?_)
  obtain ⟨o, ho, hc⟩ := hy
  exact wpAny_bind (wpAny_isInstance (T := "StopIteration") (b := true) ⟨o, ho, hc⟩ isSubtype_stop (wpAny_pure (hQ _ he')))
/-- the tuple at a, each item in a new pair -/
def IteT (K : PySem.W.Frag) (a : Addr) : It :=
  ⟨fun i H => ∃ (xs : List V) (x : V), SqT K H a xs ∧ xs[i]? = some x, fun i H v H' => ∃ T x, v = .ref T ∧ H T = none ∧ H' = upd H T (.tup [.int (i : Nat), x]) ∧ ∀ xs, SqT K H a xs → xs[i]? = some x,
    fun i H => ∃ xs : List V, SqT K H a xs ∧ xs.length ≤ i⟩
theorem two_mem {b e it : Addr} (h : b ∈ [e, it]) : b = e ∨ b = it := by simpa using h
theorem turn_enumT {P : Program} {w : World} {K : PySem.W.Frag} {elts : List Expr} {kk : Nat} {tpos : Pos} (a e it : Addr) :
    Turn P w K (.Tuple elts kk tpos) (IteT K a) [e, it] e (fun i h => (∃ old, IsEnum h e it ((i : Nat) : Int) old) ∧ h.IsTupleIter it a i ∧ e ≠ it) where
  mem := by simp
  obj := fun i h st b hb => by
    obtain ⟨⟨old, he⟩, ⟨o, ho, hc, hd⟩, _⟩ := st
    rcases two_mem hb with y | y
    · rw [y]
      exact ⟨_, he, fun v q => nomatch q⟩
    · rw [y]
      exact ⟨o, ho, fun v q => by rw [hd] at q; cases q⟩
  keep := fun i h h' st k => by
    obtain ⟨⟨old, he⟩, hi, n⟩ := st
    exact ⟨⟨old, k e (by simp) _ he⟩, hi.at fun o q => k it (by simp) o q, n⟩
  item := by
    intro X hP hw hK hc i pins s σ H E I hf st hg
    subst hP hw hK
    obtain ⟨⟨old, he⟩, hit, ne⟩ := st
    obtain ⟨xs, x, hq, hx⟩ := hg
    obtain ⟨its, rv, p, hz⟩ := I.tuple hq
    have pt : s.heap.IsTuple a its.toArray := p
    obtain ⟨u, hu, ru⟩ := rv.get hx
    have hel : e < s.heap.objs.size := Heap.lt_size he
    have hil : it < s.heap.objs.size := by
      obtain ⟨_, y, _⟩ := hit
      exact Heap.lt_size y
    have nai : a ≠ it := fun z => by
      obtain ⟨o, h1, h2, _⟩ := hit
      obtain ⟨o', h3, h4, _⟩ := pt
      rw [z, h1] at h3
      cases h3
      rw [h2] at h4
      injection h4 with h5
      exact absurd h5 (by decide)
    have nae : e ≠ a := fun z => by
      obtain ⟨o', h3, h4, _⟩ := pt
      rw [← z, he] at h3
      cases h3
      injection h4 with h5
      exact absurd h5 (by decide)
    have hlen : i < its.toArray.size := by
      have y := (List.getElem?_eq_some_iff.mp hu).1
      simpa using y
    refine wpAny_pyNext_enum_itemD (Draws.tuple (A := X.A.in1) (I.ok.hd hc) it a nai its.toArray) he ⟨hit, pt⟩ hlen ne (fun z => ?_) fun x' h' tk hx' ho st' hT hsz hk => ?_
    · rcases two_mem z with y | y
      · exact ne y
      · exact nae y
    · have ex : x' = u := by
        have y : its.toArray[i]? = some x' := hx'
        rw [show its.toArray[i]? = its[i]? by simp, hu] at y
        exact (Option.some.inj y).symm
      subst ex
      refine ⟨_, rfl, wpAny_letOwnedTupleGo_enum (s := { s with heap := h', toks := tk + 1 }) ho fun h2 he2 sb => ?_⟩
      have hT2 : h2.get? s.heap.objs.size = some { cls := .type "tuple", data := .seq #[.int i tk, x'] } := (sb.2 _ (Nat.ne_of_gt hel)).trans hT
      have new : ObjOk X.prog X.w (upd H s.heap.objs.size (.tup [.int (i : Nat), x])) h2 s.heap.objs.size (.tup [.int (i : Nat), x]) :=
        ⟨by show 2 ≤ sizeLine; decide, [.int i tk, x'], .cons ⟨_, rfl⟩ (.cons ru .nil), ⟨_, hT2, rfl, _, rfl⟩⟩
      have I1 : Inv X pins σ (upd H s.heap.objs.size (.tup [.int (i : Nat), x])) { s with heap := h2, toks := tk + 1 } :=
        I.turnedNew (ch := [e, it]) (fun b ob hb y => (sb.2 b (fun z => hb (by simp [z]))).trans (hk b ob (fun z => hb (by simp [z])) (fun z => hb (by simp [z])) y)) hf (Nat.le_refl _) new
      refine ⟨.ref s.heap.objs.size, _, I1, rfl, ⟨_, x, rfl, I.hok.fresh (Nat.le_refl _), rfl, fun ys hy => by rw [I.tuple_inj hy hq]; exact hx⟩, ⟨⟨x', ?_⟩, st'.1.at fun o y => (sb.2 it (Ne.symm ne)).trans y, ne⟩, fun b hb => ?_⟩
      · rw [show ((i + 1 : Nat) : Int) = (i : Int) + 1 by omega]
        exact he2
      · have lt : b < s.heap.objs.size := by
          rcases two_mem hb with y | y
          · rw [y]
            exact hel
          · rw [y]
            exact hil
        rw [upd_ne (Nat.ne_of_lt lt)]
        exact (hf b hb).1
  done := by
    intro X hP hw hK hc i pins s σ H E I hf st hg
    subst hP hw hK
    obtain ⟨⟨old, he⟩, hit, ne⟩ := st
    obtain ⟨xs, hq, hx⟩ := hg
    obtain ⟨its, rv, p, hz⟩ := I.tuple hq
    have pt : s.heap.IsTuple a its.toArray := p
    obtain ⟨f0, f1, f2, f3, f4, f5⟩ := hf it (by simp)
    have hl := rv.length
    exact done_enumT (I.ok.hd hc) he hit pt (by simp; omega) fun h' eb => ⟨rfl, I.turned (t' := s.toks) (fun b o hb y => eb b o hb y) f0 f1 f3 f4 f5⟩
  self := fun A i s Q E st h => by
    obtain ⟨⟨_, he⟩, _⟩ := st
    exact wpAny_pyIter_enum he h

/-- what enumerate goes over: a list or a tuple -/
def iEnumQ (K : PySem.W.Frag) (ta : TA) : TI := fun σ H R => ta σ H fun vs H1 => ∃ a, vs = [.ref a] ∧ ((∃ xs, SqL K H1 a xs ∧ R (Ite K a) H1) ∨ (∃ xs, SqT K H1 a xs ∧ R (IteT K a) H1))
theorem pi_enumQ {X : Cx} {e : Expr} {ta : TA} {p pos tpos : Pos} {elts : List Expr} {kk : Nat} (hg : Gl X "enumerate") (hm : X.mg "enumerate" = none) (ha : PA X [e] ta) (hs : starEach [e] X.env = [(false, eval e X.env)] := by rfl) :
    PI X (.Tuple elts kk tpos) (.Call (.Name "enumerate" p) [e] [] pos) (iEnumQ X.K ta) := by
  refine ⟨fun pins s σ H R I h => ?_⟩
  refine Call_ (ld_blt I hg hm boot_enumerate (PyProof.Rows.callWith_type1 (thn (ha.run pos pins s σ H _ I h) fun us s1 ⟨vs, H1, I1, r1, q1⟩ => ?_) hs rfl))
  obtain ⟨a, ex, q1⟩ := q1
  subst ex
  cases r1 with
  | cons r rr =>
    cases rr
    cases r
    have near : ∀ b, b ∈ [s1.heap.objs.size + 1, s1.heap.objs.size] → s1.heap.objs.size ≤ b := fun b hb => by
      rcases two_mem hb with y | y
      · rw [y]
        exact Nat.le_add_right _ _
      · rw [y]
        exact Nat.le_refl _
    rcases q1 with ⟨xs, hq, q⟩ | ⟨xs, hq, q⟩
    · obtain ⟨its, rv, p', hz⟩ := I1.list hq
      refine call_enumerate_list p'.isList fun h' he hit hsz hk => wpAny_pyIter_enum he ?_
      exact ⟨s1.heap.objs.size + 1, [s1.heap.objs.size + 1, s1.heap.objs.size], _, _, H1, rfl, (I1.kept (t' := s1.toks) hk : Inv X pins σ H1 { s1 with heap := h' }), turn_enum a (s1.heap.objs.size + 1) s1.heap.objs.size, ⟨⟨.none, he⟩, hit, Nat.succ_ne_self _⟩,
        fun b hb => I1.fpOk (near b hb) (I1.hok.fresh (near b hb)), q⟩
    · obtain ⟨its, rv, p', hz⟩ := I1.tuple hq
      have pt : s1.heap.IsTuple a its.toArray := p'
      refine enumCall1 (begins_tuple a its.toArray) pt fun h' he hit hk => wpAny_pyIter_enum he ?_
      exact ⟨s1.heap.objs.size + 1, [s1.heap.objs.size + 1, s1.heap.objs.size], _, _, H1, rfl, (I1.kept (t' := s1.toks) hk : Inv X pins σ H1 { s1 with heap := h' }), turn_enumT a (s1.heap.objs.size + 1) s1.heap.objs.size,
        ⟨⟨.none, he⟩, ⟨_, hit, rfl, rfl⟩, Nat.succ_ne_self _⟩, fun b hb => I1.fpOk (near b hb) (I1.hok.fresh (near b hb)), q⟩
theorem walk_enumT {K : PySem.W.Frag} {a : Addr} {xs : List V} : Walk (IteT K a) xs.length (fun H => SqT K H a xs) (YPair (fun i => some (.int (i : Nat))) (fun i => xs[i]?)) where
  goes := fun i _ hi q => ⟨xs, xs[i], q, List.getElem?_eq_getElem hi⟩
  stops := fun _ q => ⟨xs, q, Nat.le_refl _⟩
  yields := fun i H v H' _ q y => by
    obtain ⟨T, x, h1, h2, h3, h4⟩ := y
    exact ⟨T, .int (i : Nat), x, h1, h2, h3, rfl, h4 xs q⟩
end

/-! ### an attribute as one target of many; d.update(e); a dict made by a walk -/
section
open PySem.Spec PyProof.Rows
def gAtt (K : PySem.W.Frag) (to : TE) (f : Str) : TG := fun v σ H Q => to σ H fun x H1 => ∃ a C dx fs, x = .ref a ∧ H1 a = some (.ins C dx fs) ∧ Cls K C ∧ NoAttr K C f ∧ fs.length < 1000 ∧ Q σ (upd H1 a (.ins C dx (putF f v fs)))
theorem pg_att {X : Cx} {o : Expr} {f : Str} {pos : Pos} {to : TE} (ho : PE X o to) : PG X (.Attribute o f pos) (gAtt X.K to f) := by
  refine ⟨fun pins s σ H v u Q I r h => ?_⟩
  show wpAny _ _ ((do
    let ov ← holding [u] (eval o X.env)
    standAt pos.atName
    holding [u, ov] (setAttr ov f u)
    release [u, ov] [] : Sem Unit)) _ _ _
  refine wpAny_bind (wpAny_holding (thn (ho.run pins s σ H _ I h) fun ov s1 ⟨x, H1, I1, rx, a, C, dx, fs, ex, ea, c, n, l, q⟩ => ?_))
  subst ex
  obtain rfl : ov = Value.ref a := rx
  refine wpAny_bind (wpAny_standAt (wpAny_bind (wpAny_holding (setattr_ok I1 ea c n l r fun s2 I2 => ?_))))
  exact wpAny_release ⟨σ, _, I2, q⟩
def rUpdK : V → List V → Hp → VK → Prop := fun x vs H Q => ∃ (a b : Addr) (ks ls : List (Key × V)), x = .ref a ∧ vs = [.ref b] ∧ a ≠ b ∧ H a = some (.dK ks) ∧ H b = some (.dK ls) ∧ ks.length + ls.length ≤ sizeLine ∧ Q .non (upd H a (.dK (mergeK ks ls)))
theorem mt_updateK {X : Cx} : MtR X "dict.update" rUpdK := by
  intro pins s σ H x vs v us Q I rx rv h
  obtain ⟨a, b, ks, ls, ex, ev, ne, ha, hb, hl, q⟩ := h
  subst ex
  subst ev
  obtain rfl : v = Value.ref a := rx
  obtain ⟨u, hu, ru⟩ := vals1 rv
  subst hu
  obtain rfl : u = Value.ref b := ru
  obtain ⟨za, sa, va, ra, da⟩ := dk_of I.hok ha
  obtain ⟨zb, sb, vb, rb, db⟩ := dk_of I.hok hb
  have l1 := ra.length
  have l2 := rb.length
  refine call_meetsIn PySem.F.slot_dict_update da.typeIs PySem.F.entry_dict_update (PySem.F.args_dict_update_2 _ _) (meets_dict_update (mixKind X.prog X.w) a b ne sb)
    ⟨va, vb, da, db, by rw [← l1, ← l2]; exact hl, fun h' da' db' hs => ?_⟩
  have he : ∃ o, h'.get? a = some o := by
    obtain ⟨o, _, _, ho, _⟩ := da'
    exact ⟨o, ho⟩
  refine ⟨.non, _, d_write (t' := s.toks) I (by rw [ha]; exact True.intro) hs he (dk_new ?_ sa (KV.merge rb ra) da'), rfl, q⟩
  exact Nat.le_trans (length_mergeK ls ks) hl
end
/-- a dict comprehension over a walk -/
theorem dc_it {J : It} {n : Nat} {G : Hp → Prop} {Y : Nat → Hp → V → Hp → Prop} (w : Walk J n G Y) {g : TG} {tt : TT} {tk tv : TE} {vs : List Nat} {σ : St} {H1 : Hp} {D : Addr} {Qd : Hp → Prop} (Pv : Nat → Hp → Prop) (h0 : Pv 0 (upd H1 D (.dK []))) (hG : ∀ i H, i ≤ n → Pv i H → G H)
    (hs : ∀ i x H H', i < n → Pv i H → Y i H x H' → g x (wipe σ vs) H' fun σ2 H2 => wipe σ2 vs = wipe σ vs ∧ tt σ2 H2 fun b H3 =>
      if b = true then tk σ2 H3 fun y H4 => tv σ2 H4 fun z H5 => ∃ kvs k, y = kV k ∧ H5 D = some (.dK kvs) ∧ kvs.length < sizeLine ∧ Pv (i + 1) (upd H5 D (.dK (putK kvs k z))) else Pv (i + 1) H3) (hd : ∀ H, Pv n H → Qd H) :
    ∃ W : Nat → Nat → Hp → Prop, (∃ m, W 0 m (upd H1 D (.dK []))) ∧ ∀ i m H, W i m H →
      (J.stop i H ∧ Qd H) ∨ (J.go i H ∧ ∃ Nx : Hp → Prop, (∀ H', Nx H' → ∃ m', m' < m ∧ W (i + 1) m' H') ∧ ∀ x H', J.yld i H x H' → g x (wipe σ vs) H' fun σ2 H2 => wipe σ2 vs = wipe σ vs ∧ tt σ2 H2 fun b H3 =>
        if b = true then tk σ2 H3 fun y H4 => tv σ2 H4 fun z H5 => ∃ kvs k, y = kV k ∧ H5 D = some (.dK kvs) ∧ kvs.length < sizeLine ∧ Nx (upd H5 D (.dK (putK kvs k z))) else Nx H3) := by
  refine ⟨fun i m H => m + i = n ∧ Pv i H, ⟨n, rfl, h0⟩, ?_⟩
  rintro i m H ⟨e, p⟩
  cases m with
  | zero =>
    have e : i = n := by omega
    subst e
    exact .inl ⟨w.stops H (hG i H (Nat.le_refl _) p), hd H p⟩
  | succ m =>
    have lt : i < n := by omega
    have gd := hG i H (Nat.le_of_lt lt) p
    exact .inr ⟨w.goes i H lt gd, Pv (i + 1), fun H' p' => ⟨m, Nat.lt_succ_self m, by omega, p'⟩, fun x H' y => hs i x H H' lt p (w.yields i H x H' lt gd y)⟩
theorem op_inDict {X : Cx} (hu : X.A.units + 1 < cLine) : OpR X (compareOp .In) (fun x y H Q => ∃ a o, y = .ref a ∧ DGet H a x o ∧ Q (.bl o.isSome) H) := by
  intro pins s σ H x y v u Q I rx ry h
  obtain ⟨a, o, rfl, g, q⟩ := h
  cases ry
  exact d_in hu I g rx fun s' J => ⟨.bl _, H, J, rfl, q⟩
theorem pe_fldK {X : Cx} {K : PySem.W.Frag} {e : Expr} {f : Str} {pos : Pos} {ta : TE} (hK : X.K = K) (he : PE X e ta) (hb : attributeBase e f X.env (eval e X.env) = eval e X.env) : PE X (.Attribute e f pos) (tFld K ta f) := by
  subst hK
  exact pe_fld he hb
section
open PySem.Spec PyProof.Rows
variable {X : Cx}
theorem sw_trueD {kx vx : Expr} {gs : List Comprehension} {scope : Scope} {pos py : Pos} {y : Str} {l : Nat} {env : Env} (hk : env.scope.kind = .function) (hy : env.scope.names.lookup y = some .local) (hl : (py.line == pos.line) = true)
    (ha : (scope.names.any fun (n, k) => n == y && (k == .local || k == .cell)) = false) : swapsWith (.DictComp kx vx gs scope pos) (some (.Name y py)) l env = pure true := by
  have k1 : env.kindOf y = some .local := hy
  have k2 : env.blockKind = .function := by
    unfold Env.blockKind
    rw [hk]
    rfl
  unfold swapsWith
  simp only [k1, k2, ha, hl, Expr.pos]
  rfl
/-- a dict comprehension, stored in a name of its own -/
theorem ps_setDc {i : Nat} {y : Str} {py : Pos} {kx vx tg iter : Expr} {ifs : List Expr} {scope : Scope} {own : List (Str × Nat)} {pos spos : Pos} {wi : TI} {g : TG} {tt : TT} {tk tv : TE} (hc : X.calm = true) (hN : X.N.Nodup) (hy : X.N[i]? = some y) (hyl : X.env.scope.names.lookup y = some .local)
    (hsw : swapsWith (.DictComp kx vx [⟨tg, iter, ifs, 0⟩] scope pos) (some (.Name y py)) spos.line X.env = pure true) (hi : PI X tg iter wi) (ok : BlkOk X.N X.env.scope scope own)
    (hg : ∀ (s : Shared) (H : Hp) (C : Addr) (cl : List (Str × Addr)) (fp : List Addr), PG (X.blk s H scope (compEnvC scope cl C X.env) fp) tg g) (ht : ∀ (s : Shared) (H : Hp) (C : Addr) (cl : List (Str × Addr)) (fp : List Addr), PTs (X.blk s H scope (compEnvC scope cl C X.env) fp) ifs tt)
    (hk : ∀ (s : Shared) (H : Hp) (C : Addr) (cl : List (Str × Addr)) (fp : List Addr), PE (X.blk s H scope (compEnvC scope cl C X.env) fp) kx tk)
    (he : ∀ (s : Shared) (H : Hp) (C : Addr) (cl : List (Str × Addr)) (fp : List Addr), PE (X.blk s H scope (compEnvC scope cl C X.env) fp) vx tv) (hs : ∀ x, foldedSetIterable iter X.env x = pure x := by intro _; rfl) :
    PS X (.Assign [.Name y py] (.DictComp kx vx [⟨tg, iter, ifs, 0⟩] scope pos) spos) (tAsg (tDc wi g tt tk tv (own.map (·.2))) (gName i)) := by
  refine ⟨fun pins s σ H D I h => ?_⟩
  rw [exec_Assign_Name_used _ _ _ _ hsw]
  refine wpAny_bind (wpAny_standAt (wpAny_bind (m := comprehension (.DictComp kx vx [⟨tg, iter, ifs, 0⟩] scope pos) scope X.env (firstIterPos [⟨tg, iter, ifs, 0⟩] pos) newDict false (eval iter X.env) (some (assign (.Name y py) X.env)) >>= fun _ => pure ()) ?_))
  have h : tDc wi g tt tk tv (own.map (·.2)) σ H (fun x H1 => gName i x σ H1 D.nx) := h
  refine wpAny_bind (thn (dc_core (Qf := fun _ s' => SP X pins D .next s') hc hN I hi ok hg ht hk he hs h fun L C s' m H' I' q hn f => ?_) fun _ s' hq => wpAny_pure (wpAny_pure hq))
  show wpAny _ _ (assign (.Name y py) X.env (.ref L)) _ _ _
  refine wpAny_assign_Name (store_ok2 (v := V.ref L) I' hN hy (.inl hyl) rfl (fun s2 I2 ⟨a, sb, ha⟩ => ?_) (.inr hyl))
  obtain ⟨f0, f1, f2, f3, f4, f5⟩ := f
  have ca : C ≠ a := by
    rcases ha with z | z
    · rw [z]
      exact f1
    · exact fun e => f4 y a z e.symm
  exact ⟨m, hn.sameBut sb ca, fun h3 sb3 => ⟨_, H', I2.turned (t' := s2.toks) (fun b o hb e => (sb3.2 b hb).trans e) f0 f1 f3 f4 f5, q⟩⟩
end

end Bs
namespace Bs
open PySem L2
/-! ### the rows of a sheet, read -/
theorem ps_never {X : Cx} {st : Stmt} : PS X st (fun _ _ _ => False) := ⟨fun _ _ _ _ _ _ h => h.elim⟩
inductive Cel
  | inp (d : PyData) (z : Int × Int)
  | frm (l : List Nat) (g : Fq)
abbrev Rw := Str × Cel
def rowIn (r : Rw) : PyData := match r.2 with | .inp d _ => rowD r.1 (.inl d) | .frm l _ => rowD r.1 (.inr (SX.S l))
def rowOut (r : Rw) : PyData := match r.2 with | .inp _ z => .tuple [.str r.1, .str "input", numD z] | .frm l _ => rowD r.1 (.inr (SX.S l))
def cellF (r : Rw) : Fq × Nat := match r.2 with | .inp _ _ => (celQ r.1, 1) | .frm l g => (g, 17 * l.length)
structure RowOk (ns : List Str) (r : Rw) : Prop where
  nm : nameL r.1.cps.toList = true
  mem : r.1 ∈ ns
  inp : ∀ d z, r.2 = .inp d z → numOf d = some z
  frm : ∀ l g, r.2 = .frm l g → l.length ≤ 60000 ∧ ∃ ts ss, Toks l 0 ts ∧ GrV ns .sm ts ss [g]
def fOf (rows : List Rw) (x : Str) : Fq × Nat := ((rows.find? fun r => decide (r.1 = x)).map cellF).getD (conQ 0, 1)
theorem find_nd {rows : List Rw} (nd : (rows.map (·.1)).Nodup) {r : Rw} (h : r ∈ rows) : rows.find? (fun q => decide (q.1 = r.1)) = some r := by
  induction rows with
  | nil => cases h
  | cons q rows ih =>
    rw [List.map_cons, List.nodup_cons] at nd
    rcases List.mem_cons.mp h with rfl | h
    · rw [List.find?_cons_of_pos (by exact decide_eq_true rfl)]
    · have ne : q.1 ≠ r.1 := fun e => nd.1 (by rw [e]; exact List.mem_map.mpr ⟨r, h, rfl⟩)
      rw [List.find?_cons_of_neg (by simpa using ne)]
      exact ih nd.2 h
theorem fOf_mem {rows : List Rw} (nd : (rows.map (·.1)).Nodup) {r : Rw} (h : r ∈ rows) : fOf rows r.1 = cellF r := by
  unfold fOf
  rw [find_nd nd h]
  rfl
def spReadRows (K : PySem.W.Frag) : Sp := fun vs H Q _ => ∃ (a : Addr) (xs : List V) (rows : List Rw) (ns : List Str), vs = [.ref a] ∧ (SqL K H a xs ∨ SqT K H a xs) ∧ DpAll K H xs (rows.map rowIn) ∧ (rows.map (·.1)).Nodup ∧ (∀ r ∈ rows, RowOk ns r) ∧
  rows.length ≤ 60 ∧ ns.length ≤ 60 ∧ (∀ x ∈ ns, PyData.strOk x = true) ∧
  ∀ p pr pf H', Same H H' → H' p = some (.tup [.ref pr, .ref pf]) → Dp K H' (.ref pr) (.tuple (rows.map rowOut)) → DX (FmR K ns (fOf rows)) H' pf (rows.map (·.1)) → H pf = none → Q (.ref p) H'
theorem short_name {x : Str} (h : nameL x.cps.toList = true) : shortD (.str x) = true := by
  show decide (x.length ≤ 100) = true
  have e : x.length = x.cps.toList.length := by simp [Str.length]
  have l := (name_len h).1
  exact decide_eq_true (by omega)
theorem nL_num {d : PyData} {z : Int × Int} (h : numOf d = some z) : noL d = true := by
  cases d with
  | tuple ds =>
    have e := ratOf_is (d := .tuple ds) h
    rw [e]
    rfl
  | int i => rfl
  | none => cases h
  | bool b => cases h
  | str b => cases h
  | list b => cases h
  | dict b => cases h
theorem nL_rowOut (r : Rw) : noL (rowOut r) = true := by
  obtain ⟨x, c⟩ := r
  cases c <;> rfl
section
variable {P : Program} {w : World} {K : PySem.W.Frag} {mg : Str → Option Value} {base : Heap}
theorem ok_read_rows {Ci : Addr} (T : Bt mg) (Te : mg "enumerate" = none) (GR : Kn P w K mg base CX0 "is_row" 36 ["value"] (spRow K)) (GN : Kn P w K mg base CX0 "is_name" 33 ["value"] (spDS K nameD))
    (GC : Kn P w K mg base CX0 "cell_form" 33 ["name"] (spCell K)) (GA : Kn P w K mg base (L2.CX P w) "as_ratio" 35 ["value"] (spAsRatio K Ci)) (GF : Kn P w K mg base CX0 "formula_form" 43 ["name", "text"] (spForm K))
    (D : Df K mg "read_rows" s_read_rows ["rows"]) : Kn P w K mg base CX0 "read_rows" 44 ["rows"] (spReadRows K) := by
  obtain ⟨f, fd, F, hm, hb⟩ := D
  obtain ⟨f_is_row, fd_is_row, G_is_row, m_is_row, k_is_row, b_is_row⟩ := GR
  obtain ⟨f_is_name, fd_is_name, G_is_name, m_is_name, k_is_name, b_is_name⟩ := GN
  obtain ⟨f_cell_form, fd_cell_form, G_cell_form, m_cell_form, k_cell_form, b_cell_form⟩ := GC
  obtain ⟨f_as_ratio, fd_as_ratio, G_as_ratio, m_as_ratio, k_as_ratio, b_as_ratio⟩ := GA
  obtain ⟨f_formula_form, fd_formula_form, G_formula_form, m_formula_form, k_formula_form, b_formula_form⟩ := GF
  refine ⟨f, fd, F.ok sc_read_rows (fun vs H Q E h => ?_) (fun cdv A outer s H vs Q E hr h => ?_), hm, F.kp, hb⟩
  · obtain ⟨a, xs, rows, ns, rfl, _⟩ := h
    rfl
  · obtain ⟨a, xs, rows, ns, rfl, hs, hall, nd, ok, hl, hns, hn, q⟩ := h
    refine ⟨_, (pss_cons (ps_set (i := 1) sc_read_rows.nd rfl (Or.inl rfl) (pe_lst pa_nil))
      (pss_cons (ps_set (i := 2) sc_read_rows.nd rfl (Or.inl rfl) pe_dnewK)
      (pss_cons (ps_for PassesOwn.never rfl (pi_enumQ rfl Te (pa_cons (pv 0) pa_nil)) (pg_tup (by rfl) (pgs_cons (pg_name (i := 3) sc_read_rows.nd rfl (Or.inl rfl)) (pgs_cons (pg_name (i := 4) sc_read_rows.nd rfl (Or.inl rfl)) pgs_nil)))
        (pss_cons (ps_if (pt_not (pt_val (pe_call G_is_row (hr.mono (by omega)) rfl m_is_row k_is_row b_is_row .nil pass0 (pa_cons (pv 4) pa_nil)))) (pss_one ps_never) pss_nil)
      (pss_cons (ps_asg (pv 4) (pg_tup (by rfl) (pgs_cons (pg_name (i := 5) sc_read_rows.nd rfl (Or.inl rfl)) (pgs_cons (pg_name (i := 6) sc_read_rows.nd rfl (Or.inl rfl)) (pgs_cons (pg_name (i := 7) sc_read_rows.nd rfl (Or.inl rfl)) pgs_nil)))))
      (pss_cons (ps_if (pt_not (pt_val (pe_call G_is_name (hr.mono (by omega)) rfl m_is_name k_is_name b_is_name .nil pass0 (pa_cons (pv 5) pa_nil)))) (pss_one ps_never) pss_nil)
      (pss_cons (ps_if (pt_cmpR (op_inDict (hu_of hr)) (pv 5) (pv 2) (by rfl)) (pss_one ps_never) pss_nil)
      (pss_one (ps_if (pt_cmpR op_eq (pv 6) pe_str (nomark _)) (pss_cons (ps_dput (hu_of hr) (pv 2) (pv 5) (pe_call G_cell_form (hr.mono (by omega)) rfl m_cell_form k_cell_form b_cell_form .nil pass0 (pa_cons (pv 5) pa_nil)) rfl)
      (pss_one (ps_expr (pe_bm PySem.F.plainAttrs_list PySem.F.slot_list_append PySem.F.type_list_append mt_append (pv 1) (pa_cons (pe_tup (pa_cons (pv 5) (pa_cons (pv 6) (pa_cons (pe_call G_as_ratio (hr.mono (by omega)) rfl m_as_ratio k_as_ratio b_as_ratio .nil passL (pa_cons (pv 7) pa_nil)) pa_nil)))) pa_nil))))) (pss_cons (ps_dput (hu_of hr) (pv 2) (pv 5) (pe_call G_formula_form (hr.mono (by omega)) rfl m_formula_form k_formula_form b_formula_form .nil pass0 (pa_cons (pv 5) (pa_cons (pv 7) pa_nil))) rfl)
      (pss_one (ps_expr (pe_bm PySem.F.plainAttrs_list PySem.F.slot_list_append PySem.F.type_list_append mt_append (pv 1) (pa_cons (pv 4) pa_nil))))))))))))
      (pss_one (ps_ret (pe_tup (pa_cons (pe_callTy call_tuple_of (by rfl) T.n_tuple (by decide +kernel) (pa_cons (pv 1) pa_nil)) (pa_cons (pv 2) pa_nil)))))))), ?_⟩
    refine ⟨(by show 0 ≤ sizeLine; decide), fun pg npg => ?_⟩
    refine fun pf npf => ?_
    have gf : pg ≠ pf := fun e => by
      rw [← e, upd_same] at npf
      cases npf
    have hpf : H pf = none := by
      rw [upd_ne gf.symm] at npf
      exact npf
    have s0 : Same H (upd (upd H pg (.lst [])) pf (.dK [])) := same_upd (same_new npg _) hpf
    have lx := dps_len hall
    rw [List.length_map] at lx
    rcases hs with hs | hs
    all_goals
      first
        | refine ⟨_, rfl, a, rfl, .inl ⟨xs, s0.seq hs, ?_⟩⟩
        | refine ⟨_, rfl, a, rfl, .inr ⟨xs, same_seqT s0 hs, ?_⟩⟩
      refine for_it (Y := YPair (fun i => some (.int (i : Nat))) (fun i => xs[i]?)) (G := fun G => Same H G) (n := xs.length)
        (by first
          | exact (walk_enum (K := K) (a := a) (xs := xs)).mono (fun G s => Same.seq s hs) (fun _ _ _ _ _ _ y => y)
          | exact (walk_enumT (K := K) (a := a) (xs := xs)).mono (fun G s => same_seqT s hs) (fun _ _ _ _ _ _ y => y))
        (fun i σ G => ∃ (o3 o4 o5 o6 o7 : Option V) (gs : List V) (kvs : List (Key × V)), σ = [some (.ref a), some (.ref pg), some (.ref pf), o3, o4, o5, o6, o7] ∧ Same H G ∧ G pg = some (.lst gs) ∧ DpAll K (tps G) gs ((rows.take i).map rowOut) ∧ G pf = some (.dK kvs) ∧ DX (FmR K ns (fOf rows)) G pf ((rows.take i).map (·.1)))
        ⟨none, none, none, none, none, [], [], rfl, s0, by rw [upd_ne gf]; exact upd_same, .nil, upd_same, DX.new⟩ (fun i σ G _ h => by obtain ⟨_, _, _, _, _, _, _, _, s, _⟩ := h; exact s) ?_ ?_
      · rintro i v σ G G1 hi ⟨o3, o4, o5, o6, o7, gs, kvs, rfl, s1, hg, hga, hk, hd⟩ ⟨tp, w1, x, rfl, ntp, rfl, e1, hx⟩
        cases e1
        obtain ⟨dt, hdt, hdx⟩ := dps_get hall hx
        rw [List.getElem?_map] at hdt
        obtain ⟨r, hr, rfl⟩ : ∃ r, rows[i]? = some r ∧ rowIn r = dt := by
          cases z : rows[i]? with
          | none => rw [z] at hdt; cases hdt
          | some r => rw [z] at hdt; exact ⟨r, rfl, Option.some.inj hdt⟩
        have hrm := List.mem_of_getElem? hr
        have okr := ok r hrm
        have nin : r.1 ∉ (rows.take i).map (·.1) := fun hm => by
          obtain ⟨r2, h2, e2⟩ := List.mem_map.mp hm
          obtain ⟨j, hj, ej⟩ := List.mem_iff_getElem.mp h2
          rw [List.length_take] at hj
          rw [List.getElem_take] at ej
          have lj : j < (rows.map (·.1)).length := by rw [List.length_map]; omega
          have li : i < (rows.map (·.1)).length := by rw [List.length_map, ← lx]; exact hi
          have z := (List.getElem_inj (h₀ := lj) (h₁ := li) nd).mp (by
            rw [List.getElem_map, List.getElem_map, ej, e2]
            rw [List.getElem?_eq_getElem (by omega)] at hr
            rw [Option.some.inj hr])
          omega
        have tk : (rows.take (i + 1)).map (·.1) = addN ((rows.take i).map (·.1)) r.1 := by
          rw [take_more hr, List.map_append]
          unfold addN
          rw [if_neg nin]
          rfl
        have few : kvs.length ≤ 60 := by
          rw [hd.len hk, List.length_map, List.length_take]
          omega
        have fewg : gs.length ≤ 60 := by
          rw [dps_len hga, List.length_map, List.length_take]
          omega
        have sp := same_new ntp (.tup [.int (i : Nat), x])
        have hdx1 := dp_same (s1.trans sp) _ _ hdx
        have fr := fOf_mem nd hrm
        refine ⟨tp, _, rfl, SqT.of upd_same, rfl, _, _, rfl, _, _, rfl, rfl, ?_⟩
        obtain ⟨nm, c⟩ := r
        cases c with
        | inp d z =>
          have hnum := okr.inp d z rfl
          have hdx2 : Dp K _ x (rowD nm (.inl d)) := hdx1
          refine ⟨_, rfl, x, nm, .inl d, rfl, hdx2, fun e he => by cases he; show (numOf d).isSome = true; rw [hnum]; rfl, fun G2 s2 => ⟨_, rfl, ?_⟩⟩
          refine ite2 (fun c => by cases c) (fun _ => ?_)
          cases hdx2 with
          | @tup ax xs3 _ hs3 ha3 =>
            cases ha3 with
            | cons h1 ha3 =>
              cases ha3 with
              | cons h2 ha3 =>
                cases ha3 with
                | @cons x3 _ _ _ h3 ha3 =>
                  cases ha3
                  cases h1
                  cases h2
                  refine ⟨_, rfl, ax, _, rfl, same_seqT s2 hs3, rfl, _, _, rfl, _, _, rfl, _, _, rfl, rfl, ?_⟩
                  refine ⟨_, rfl, .str nm, .str nm, rfl, .str nm, short_name okr.nm, fun G3 s3 => ⟨_, rfl, ?_⟩⟩
                  refine ite2 (fun c => absurd okr.nm (by have z : (!nameL nm.cps.toList) = true := c; rw [Bool.not_eq_true'] at z; rw [z]; exact Bool.false_ne_true)) (fun _ => ?_)
                  have sg3 := sp.trans (s2.trans s3)
                  have hd3 := hd.keep (FmR.st K ns _) sg3
                  refine ⟨_, rfl, _, rfl, pf, none, rfl, hd3.miss nin, _, rfl, ?_⟩
                  refine ite2 (fun c => by cases c) (fun _ => ?_)
                  refine ⟨_, rfl, rfl, _, rfl, ?_⟩
                  refine ite2 (fun _ => ?_) (fun c => absurd (show decide (V.str (Str.ofString "input") = V.str (Str.ofString "input")) = true from by decide +kernel) c)
                  refine ⟨_, rfl, nm, ns, rfl, okr.mem, fun rv G4 s4 f4 => ?_⟩
                  have sg4 := sg3.trans s4
                  have hk4 := sg4 _ _ hk
                  refine ⟨_, rfl, _, rfl, pf, _, rfl, .inl ⟨kvs, Sum.inr nm, hk4, rfl, small1000 (by omega), rfl⟩, ?_⟩
                  have hd5 := (hd.keep (FmR.st K ns _) sg4).put (FmR.st K ns (fOf rows)) hk4 (x := nm) (v := rv) (by show FmA K ns G4 rv (fOf rows nm).1 (fOf rows nm).2; rw [fr]; exact f4) (fun _ _ _ h => h)
                  have s5 := same_upd (o := .dK (putK kvs (Sum.inr nm) rv)) (s1.trans sg4) hpf
                  have hg5 : upd G4 pf (.dK (putK kvs (Sum.inr nm) rv)) pg = some (.lst gs) := by
                    rw [upd_ne gf]
                    exact sg4 _ _ hg
                  have t45 : TS G4 (upd G4 pf (.dK (putK kvs (Sum.inr nm) rv))) := TS.upd hk4 rfl
                  have h35 : Dp K (upd G4 pf (.dK (putK kvs (Sum.inr nm) rv))) x3 d := dp_same (tps_sub _) _ _ (dp_same t45 _ _ (dp_tps _ _ (nL_num hnum) (dp_same ((s2.trans s3).trans s4) _ _ h3)))
                  refine ⟨_, rfl, .inl ⟨rfl, _, SqL.of hg5⟩, _, rfl, _, rfl, _, rfl, x3, d, rfl, h35, fun t m rr G6 e s6 hr6 => ?_, fun e => by rw [hnum] at e; cases e⟩
                  refine ⟨(by show 3 ≤ sizeLine; decide), fun pt npt => ?_⟩
                  have hg6 := s6 _ _ hg5
                  have gp : pg ≠ pt := ne_of_none hg6 npt
                  have hg7 : upd G6 pt (.tup [.str nm, .str "input", rr]) pg = some (.lst gs) := by
                    rw [upd_ne gp]
                    exact hg6
                  refine ⟨pg, gs, _, rfl, rfl, hg7, small1000 (by omega), ?_⟩
                  have s67 := same_new npt (.tup [.str nm, .str "input", rr])
                  have t78 := TS.upd (u := .lst (gs ++ [.ref pt])) hg7 rfl
                  have t58 := (TS.of (s6.trans s67)).trans t78
                  have hpt : upd (upd G6 pt (.tup [.str nm, .str "input", rr])) pg (.lst (gs ++ [.ref pt])) pt = some (.tup [.str nm, .str "input", rr]) := by
                    rw [upd_ne gp.symm]
                    exact upd_same
                  obtain rfl : z = (t, m) := Option.some.inj (hnum.symm.trans e)
                  have hk8 : upd (upd G6 pt (.tup [.str nm, .str "input", rr])) pg (.lst (gs ++ [.ref pt])) pf = upd G4 pf (.dK (putK kvs (Sum.inr nm) rv)) pf := by
                    have z5 := upd_same (H := G4) (a := pf) (o := .dK (putK kvs (Sum.inr nm) rv))
                    have z6 := s6 _ _ z5
                    rw [upd_ne gf.symm, upd_ne (ne_of_none z6 npt), z6, z5]
                  refine ⟨_, _, _, _, _, _, _, rfl, same_upd (s5.trans (s6.trans s67)) npg, upd_same, ?_, hk8.trans upd_same, ?_⟩
                  · rw [take_more hr, List.map_append]
                    refine dps_snoc (dps_same (((TS.of sg4).trans t45).trans t58) _ _ hga) ?_
                    exact .tup (SqT.of (tps_at hpt rfl)) (.cons (.str _) (.cons (.str _) (.cons (dp_same ((TS.of s67).trans t78) _ _ (dp_tps _ _ rfl hr6)) .nil)))
                  · rw [tk]
                    exact hd5.keepT (FmR.st K ns _) hk8 t58
        | frm l g =>
          obtain ⟨ll, ts, ss, htk, hgr⟩ := okr.frm l g rfl
          have hdx2 : Dp K _ x (rowD nm (.inr (SX.S l))) := hdx1
          have hdx3 := hdx2
          refine ⟨_, rfl, x, nm, .inr (SX.S l), rfl, hdx2, (fun e he => by cases he), fun G2 s2 => ⟨_, rfl, ?_⟩⟩
          refine ite2 (fun c => by cases c) (fun _ => ?_)
          cases hdx2 with
          | @tup ax xs3 _ hs3 ha3 =>
            cases ha3 with
            | cons h1 ha3 =>
              cases ha3 with
              | cons h2 ha3 =>
                cases ha3 with
                | @cons x3 _ _ _ h3 ha3 =>
                  cases ha3
                  cases h1
                  cases h2
                  cases (show Dp K _ x3 (.str (SX.S l)) from h3)
                  refine ⟨_, rfl, ax, _, rfl, same_seqT s2 hs3, rfl, _, _, rfl, _, _, rfl, _, _, rfl, rfl, ?_⟩
                  refine ⟨_, rfl, .str nm, .str nm, rfl, .str nm, short_name okr.nm, fun G3 s3 => ⟨_, rfl, ?_⟩⟩
                  refine ite2 (fun c => absurd okr.nm (by have z : (!nameL nm.cps.toList) = true := c; rw [Bool.not_eq_true'] at z; rw [z]; exact Bool.false_ne_true)) (fun _ => ?_)
                  have sg3 := sp.trans (s2.trans s3)
                  have hd3 := hd.keep (FmR.st K ns _) sg3
                  refine ⟨_, rfl, _, rfl, pf, none, rfl, hd3.miss nin, _, rfl, ?_⟩
                  refine ite2 (fun c => by cases c) (fun _ => ?_)
                  refine ⟨_, rfl, rfl, _, rfl, ?_⟩
                  refine ite2 (fun c => absurd c (show ¬ decide (V.str (Str.ofString "formula") = V.str (Str.ofString "input")) = true from by decide +kernel)) (fun _ => ?_)
                  refine ⟨_, rfl, _, rfl, nm, l, ns, ts, ss, g, rfl, ll, hn, hns, htk, hgr, fun rv G4 s4 f4 => ?_⟩
                  have sg4 := sg3.trans s4
                  have hk4 := sg4 _ _ hk
                  refine ⟨_, rfl, _, rfl, pf, _, rfl, .inl ⟨kvs, Sum.inr nm, hk4, rfl, small1000 (by omega), rfl⟩, ?_⟩
                  have hd5 := (hd.keep (FmR.st K ns _) sg4).put (FmR.st K ns (fOf rows)) hk4 (x := nm) (v := rv) (by show FmA K ns G4 rv (fOf rows nm).1 (fOf rows nm).2; rw [fr]; exact f4) (fun _ _ _ h => h)
                  have s5 := same_upd (o := .dK (putK kvs (Sum.inr nm) rv)) (s1.trans sg4) hpf
                  have hg5 : upd G4 pf (.dK (putK kvs (Sum.inr nm) rv)) pg = some (.lst gs) := by
                    rw [upd_ne gf]
                    exact sg4 _ _ hg
                  have t45 : TS G4 (upd G4 pf (.dK (putK kvs (Sum.inr nm) rv))) := TS.upd hk4 rfl
                  refine ⟨_, rfl, .inl ⟨rfl, _, SqL.of hg5⟩, _, rfl, pg, gs, _, rfl, rfl, hg5, small1000 (by omega), ?_⟩
                  have t58 := TS.upd (u := .lst (gs ++ [.ref ax])) hg5 rfl
                  have hk8 : upd (upd G4 pf (.dK (putK kvs (Sum.inr nm) rv))) pg (.lst (gs ++ [.ref ax])) pf = upd G4 pf (.dK (putK kvs (Sum.inr nm) rv)) pf := upd_ne gf.symm
                  refine ⟨_, _, _, _, _, _, _, rfl, same_upd s5 npg, upd_same, ?_, hk8.trans upd_same, ?_⟩
                  · rw [take_more hr, List.map_append]
                    refine dps_snoc (dps_same (((TS.of sg4).trans t45).trans t58) _ _ hga) ?_
                    exact dp_same ((TS.of ((s2.trans s3).trans s4)).trans (t45.trans t58)) _ _ (dp_tps _ _ rfl hdx3)
                  · rw [tk]
                    exact hd5.keepT (FmR.st K ns _) hk8 t58
      · rintro σ G ⟨o3, o4, o5, o6, o7, gs, kvs, rfl, s1, hg, hga, hk, hd⟩
        rw [lx, List.take_length] at hga hd
        refine ⟨_, rfl, pg, gs, rfl, .inl ⟨SqL.of hg, fun pr npr => ?_⟩⟩
        have s2 := same_new npr (.tup gs)
        refine ⟨_, rfl, (by show 2 ≤ sizeLine; decide), fun p np => ?_⟩
        have s3 := same_new np (.tup [.ref pr, .ref pf])
        refine q p pr pf _ (s1.trans (s2.trans s3)) upd_same (.tup (SqT.of (s3 _ _ upd_same)) (dps_same ((tps_sub G).trans (s2.trans s3)) _ _ hga)) (hd.keep (FmR.st K ns _) (s2.trans s3)) hpf
end

end Bs
namespace Bs
open PySem L2
/-! ### the names to which a form leads -/
theorem dps_str_inv {K : PySem.W.Frag} {H : Hp} : ∀ {xs : List V} {ls : List Str}, DpAll K H xs (ls.map PyData.str) → xs = ls.map V.str
  | [], [], _ => rfl
  | [], _ :: _, h => by cases h
  | _ :: _, [], h => by cases h
  | x :: xs, l :: ls, h => by
    cases h with
    | cons h1 h2 =>
      cases h1
      rw [dps_str_inv h2]
      rfl
/-- a dict with these keys, whatever its values -/
structure KA (H : Hp) (d : Addr) (R : List Str) : Prop where
  nd : R.Nodup
  at_ : ∃ kvs, H d = some (.dK kvs) ∧ kvs.map (·.1) = R.map Sum.inr
theorem sqt_ts {K : PySem.W.Frag} {H H' : Hp} {a : Addr} {xs : List V} (t : TS H H') (h : SqT K H a xs) : SqT K H' a xs := by
  rcases h with (h | ⟨o, h⟩) | h
  · exact .inl (.inl (tps_of (t _ _ (tps_at h rfl))).1)
  · exact .inl (.inr ⟨o, (tps_of (t _ _ (tps_at h rfl))).1⟩)
  · exact .inr h
theorem nd_inr {l : List Str} (h : l.Nodup) : (l.map (Sum.inr : Str → Key)).Nodup := List.pairwise_map.mpr (h.imp fun ne e => ne (Sum.inr.inj e))
theorem KA.keepE {H H' : Hp} {d : Addr} {R : List Str} (D : KA H d R) (e : H' d = H d) : KA H' d R := by
  obtain ⟨kvs, h1, h2⟩ := D.at_
  exact ⟨D.nd, kvs, by rw [e]; exact h1, h2⟩
theorem KA.keep {H H' : Hp} {d : Addr} {R : List Str} (D : KA H d R) (s : Same H H') : KA H' d R := by
  obtain ⟨kvs, h1, h2⟩ := D.at_
  exact ⟨D.nd, kvs, s _ _ h1, h2⟩
theorem valV_some {kvs : List (Key × V)} {k : Key} (h : k ∈ kvs.map (·.1)) : ∃ v, valV kvs k = some v := by
  obtain ⟨q, hq, rfl⟩ := List.mem_map.mp h
  unfold valV
  cases e : kvs.find? (fun kv => decide (kv.1 = q.1)) with
  | none => exact absurd (List.find?_eq_none.mp e q hq) (by simp)
  | some r => exact ⟨r.2, rfl⟩
theorem KA.get {H : Hp} {d : Addr} {R : List Str} (D : KA H d R) (y : Str) : ∃ o, DGet H d (.str y) o ∧ o.isSome = decide (y ∈ R) := by
  obtain ⟨kvs, h1, h2⟩ := D.at_
  by_cases hy : y ∈ R
  · obtain ⟨v, ev⟩ := valV_some (kvs := kvs) (k := Sum.inr y) (by rw [h2]; exact mem_inr.mpr hy)
    exact ⟨some v, .inl ⟨kvs, Sum.inr y, .inl h1, rfl, ev.symm⟩, by rw [decide_eq_true hy]; rfl⟩
  · exact ⟨none, .inl ⟨kvs, Sum.inr y, .inl h1, rfl, (valV_keys h2 hy).symm⟩, by rw [decide_eq_false hy]; rfl⟩
/-- a dict of values by names that is read only, also while it is locked -/
structure DXR (R : Hp → V → Str → Prop) (H : Hp) (d : Addr) (ks : List Str) : Prop where
  nd : ks.Nodup
  at_ : ∃ kvs, Rd H d (.dK kvs) ∧ kvs.map (·.1) = ks.map Sum.inr ∧ ∀ x ∈ ks, ∃ v, valV kvs (Sum.inr x) = some v ∧ R H v x
theorem DX.rd {R : Hp → V → Str → Prop} {H : Hp} {d : Addr} {ks : List Str} (D : DX R H d ks) : DXR R H d ks := by
  obtain ⟨kvs, h1, h2, h3⟩ := D.at_
  exact ⟨D.nd, kvs, .inl h1, h2, h3⟩
theorem DXR.keepT {R : Hp → V → Str → Prop} (st : StabT R) {H H' : Hp} {d : Addr} {ks : List Str} (D : DXR R H d ks) (e : H' d = H d) (t : TS H H') : DXR R H' d ks := by
  obtain ⟨kvs, h1, h2, h3⟩ := D.at_
  refine ⟨D.nd, kvs, ?_, h2, fun x hx => ?_⟩
  · rcases h1 with h | ⟨o, h⟩
    · exact .inl (e.trans h)
    · exact .inr ⟨o, e.trans h⟩
  · obtain ⟨v, ev, hv⟩ := h3 x hx
    exact ⟨v, ev, st _ _ _ _ t hv⟩
theorem DXR.keep {R : Hp → V → Str → Prop} (st : StabT R) {H H' : Hp} {d : Addr} {ks : List Str} (D : DXR R H d ks) (s : Same H H') : DXR R H' d ks := by
  obtain ⟨kvs, h1, h2, h3⟩ := D.at_
  refine D.keepT st ?_ (TS.of s)
  rcases h1 with h | ⟨o, h⟩ <;> rw [h, s _ _ h]
theorem DXR.get {R : Hp → V → Str → Prop} {H : Hp} {d : Addr} {ks : List Str} (D : DXR R H d ks) {x : Str} (hx : x ∈ ks) : ∃ v, DGet H d (.str x) (some v) ∧ R H v x := by
  obtain ⟨kvs, h1, h2, h3⟩ := D.at_
  obtain ⟨v, e, hv⟩ := h3 x hx
  exact ⟨v, .inl ⟨kvs, Sum.inr x, h1, rfl, e.symm⟩, hv⟩
theorem DXR.has {R : Hp → V → Str → Prop} {H : Hp} {d : Addr} {ks : List Str} (D : DXR R H d ks) (y : Str) : ∃ o, DGet H d (.str y) o ∧ o.isSome = decide (y ∈ ks) := by
  obtain ⟨kvs, h1, h2, h3⟩ := D.at_
  by_cases hy : y ∈ ks
  · obtain ⟨v, ev, _⟩ := h3 y hy
    exact ⟨some v, .inl ⟨kvs, Sum.inr y, h1, rfl, ev.symm⟩, by rw [decide_eq_true hy]; rfl⟩
  · exact ⟨none, .inl ⟨kvs, Sum.inr y, h1, rfl, (valV_keys h2 hy).symm⟩, by rw [decide_eq_false hy]; rfl⟩
theorem DXR.nolst {R : Hp → V → Str → Prop} {H : Hp} {d p : Addr} {ks : List Str} {xs : List V} (D : DXR R H d ks) (h : H p = some (.lst xs)) : d ≠ p := fun e => by
  obtain ⟨kvs, h1, _⟩ := D.at_
  rw [← e] at h
  rcases h1 with h2 | ⟨o, h2⟩ <;> (rw [h] at h2; cases h2)
theorem DX.ka {R : Hp → V → Str → Prop} {H : Hp} {d : Addr} {ks : List Str} (D : DX R H d ks) : KA H d ks := by
  obtain ⟨kvs, h1, h2, _⟩ := D.at_
  exact ⟨D.nd, kvs, h1, h2⟩
def addAll (R ls : List Str) : List Str := ls.foldl addN R
theorem mem_addAll {y : Str} : ∀ {ls R : List Str}, y ∈ addAll R ls ↔ y ∈ R ∨ y ∈ ls
  | [], R => by simp [addAll]
  | l :: ls, R => by
    show y ∈ addAll (addN R l) ls ↔ _
    rw [mem_addAll, mem_addN, List.mem_cons, or_assoc]
theorem nd_addAll : ∀ {ls R : List Str}, R.Nodup → (addAll R ls).Nodup
  | [], _, h => h
  | l :: ls, R, h => nd_addAll (ls := ls) (nd_addN h)
theorem merge_keys : ∀ {ls R : List Str} {kvs : List (Key × V)} {f : Str → V}, kvs.map (·.1) = R.map Sum.inr → (mergeK kvs (ls.map fun y => (Sum.inr y, f y))).map (·.1) = (addAll R ls).map Sum.inr
  | [], _, _, _, h => h
  | l :: ls, R, kvs, f, h => by
    show (mergeK (putK kvs (Sum.inr l) (f l)) (ls.map fun y => (Sum.inr y, f y))).map (·.1) = (addAll (addN R l) ls).map Sum.inr
    refine merge_keys ?_
    unfold addN
    by_cases hx : l ∈ R
    · rw [if_pos hx, putK_old _ _ _ (by rw [h]; exact mem_inr.mpr hx), h]
    · rw [if_neg hx, putK_more _ _ _ (by rw [h]; exact fun w => hx (mem_inr.mp w)), h, List.map_append]
      rfl
abbrev stepF (ks : List Str) (ff : Str → Fq × Nat) (x y : Str) : Prop := x ∈ ks ∧ (ff x).1.1 y ≠ 0
/-- what is known of the walk: names that wait, names that were reached -/
structure Rch (ks : List Str) (ff : Str → Fq × Nat) (name : Str) (W R : List Str) : Prop where
  r : ∀ y ∈ R, Relation.TransGen (stepF ks ff) name y
  w : ∀ x ∈ W, x ∈ ks ∧ (x = name ∨ x ∈ R)
  c : ∀ x ∈ ks, x = name ∨ x ∈ R → x ∈ W ∨ ∀ y, stepF ks ff x y → y ∈ R
  nd : R.Nodup
def left (ks R : List Str) : List Str := ks.filter fun k => decide (k ∉ R)
theorem Rch.step {ks : List Str} {ff : Str → Fq × Nat} {name w : Str} {W R ls : List Str} (h : Rch ks ff name (W ++ [w]) R) (hl : ∀ y, y ∈ ls ↔ (ff w).1.1 y ≠ 0) (nl : ls.Nodup) (nk : ks.Nodup) :
    Rch ks ff name (W ++ ls.filter fun y => decide (y ∈ ks) && decide (y ∉ R)) (addAll R ls) ∧ (W ++ ls.filter fun y => decide (y ∈ ks) && decide (y ∉ R)).length + (left ks (addAll R ls)).length < (W ++ [w]).length + (left ks R).length := by
  have hw := h.w w (List.mem_append_right _ (List.mem_singleton.mpr rfl))
  refine ⟨⟨fun y hy => ?_, fun x hx => ?_, fun x hx hr => ?_, nd_addAll h.nd⟩, ?_⟩
  · rcases mem_addAll.mp hy with hy | hy
    · exact h.r y hy
    · have st : stepF ks ff w y := ⟨hw.1, (hl y).mp hy⟩
      rcases hw.2 with e | e
      · rw [e] at st
        exact .single st
      · exact .tail (h.r w e) st
  · rcases List.mem_append.mp hx with hx | hx
    · have := h.w x (List.mem_append_left _ hx)
      exact ⟨this.1, this.2.imp id fun z => mem_addAll.mpr (.inl z)⟩
    · have := List.mem_filter.mp hx
      have q := Bool.and_eq_true_iff.mp this.2
      exact ⟨of_decide_eq_true q.1, .inr (mem_addAll.mpr (.inr this.1))⟩
  · by_cases old : x = name ∨ x ∈ R
    · rcases h.c x hx old with q | q
      · rcases List.mem_append.mp q with q | q
        · exact .inl (List.mem_append_left _ q)
        · have e := List.mem_singleton.mp q
          subst e
          exact .inr fun y hy => mem_addAll.mpr (.inr ((hl y).mpr hy.2))
      · exact .inr fun y hy => mem_addAll.mpr (.inl (q y hy))
    · have xl : x ∈ ls := by
        rcases hr with e | e
        · exact absurd (.inl e) old
        · rcases mem_addAll.mp e with e | e
          · exact absurd (.inr e) old
          · exact e
      exact .inl (List.mem_append_right _ (List.mem_filter.mpr ⟨xl, Bool.and_eq_true_iff.mpr ⟨decide_eq_true hx, decide_eq_true fun z => old (.inr z)⟩⟩))
  · have sub : ((ls.filter fun y => decide (y ∈ ks) && decide (y ∉ R)) ++ left ks (addAll R ls)).length ≤ (left ks R).length := by
      refine sub_len (List.nodup_append.mpr ⟨nl.filter _, nk.filter _, fun a ha b hb e => ?_⟩) fun y hy => ?_
      · have q1 := (List.mem_filter.mp ha).1
        have q2 := of_decide_eq_true (List.mem_filter.mp hb).2
        rw [e] at q1
        exact q2 (mem_addAll.mpr (.inr q1))
      · rcases List.mem_append.mp hy with q | q
        · have q1 := Bool.and_eq_true_iff.mp (List.mem_filter.mp q).2
          exact List.mem_filter.mpr ⟨of_decide_eq_true q1.1, q1.2⟩
        · have q1 := List.mem_filter.mp q
          exact List.mem_filter.mpr ⟨q1.1, decide_eq_true fun z => of_decide_eq_true q1.2 (mem_addAll.mpr (.inl z))⟩
    rw [List.length_append] at sub
    rw [List.length_append, List.length_append, List.length_singleton]
    omega
theorem Rch.all {ks : List Str} {ff : Str → Fq × Nat} {name : Str} {R : List Str} (h : Rch ks ff name [] R) (y : Str) : y ∈ R ↔ Relation.TransGen (stepF ks ff) name y := by
  refine ⟨h.r y, fun t => ?_⟩
  have cl : ∀ x, x = name ∨ x ∈ R → ∀ y, stepF ks ff x y → y ∈ R := fun x hx y hy => (h.c x hy.1 hx).resolve_left (fun z => by cases z) y hy
  induction t with
  | single s => exact cl name (.inl rfl) _ s
  | tail _ s ih => exact cl _ (.inr ih) _ s
def spReach (K : PySem.W.Frag) : Sp := fun vs H Q _ => ∃ (d : Addr) (name : Str) (ns ks : List Str) (ff : Str → Fq × Nat), vs = [.ref d, .str name] ∧ DXR (FmR K ns ff) H d ks ∧ name ∈ ks ∧ ns.length ≤ 60 ∧ (∀ x ∈ ns, PyData.strOk x = true) ∧ (∀ x ∈ ks, PyData.strOk x = true) ∧ ks.length ≤ 60 ∧
  ∀ (r : Addr) (ys : List Str) (H' : Hp), Same H H' → H' r = some (.lst (ys.map V.str)) → (∀ y ∈ ys, PyData.strOk y = true) → ys.length ≤ 60 → (∀ y, y ∈ ys ↔ Relation.TransGen (stepF ks ff) name y) → Q (.ref r) H'
section
variable {P : Program} {w : World} {K : PySem.W.Frag} {mg : Str → Option Value} {base : Heap}
theorem ok_reached_names (T : Bt mg) (GN : Kn P w K mg base CX0 "names_in" 33 ["form"] (spNamesIn K)) (D : Df K mg "reached_names" s_reached_names ["formulas", "name"]) : Kn P w K mg base CX0 "reached_names" 35 ["formulas", "name"] (spReach K) := by
  obtain ⟨f, fd, F, hm, hb⟩ := D
  obtain ⟨f_names_in, fd_names_in, G_names_in, m_names_in, k_names_in, b_names_in⟩ := GN
  refine ⟨f, fd, F.ok sc_reached_names (fun vs H Q E h => ?_) (fun cdv A outer s H vs Q E hr h => ?_), hm, F.kp, hb⟩
  · obtain ⟨d, name, ns, ks, ff, rfl, _⟩ := h
    rfl
  · obtain ⟨d, name, ns, ks, ff, rfl, hd, hname, hns, hn, hkn, hkl, q⟩ := h
    refine ⟨_, (pss_cons (ps_set (i := 2) sc_reached_names.nd rfl (Or.inr rfl) pe_dnewK)
      (pss_cons (ps_set (i := 3) sc_reached_names.nd rfl (Or.inl rfl) (pe_lst (pa_cons (pv 1) pa_nil)))
      (pss_cons (ps_while PassesOwn.never (pt_cmpR (op_neD hr.units) (pv 3) (pe_lst pa_nil) (nomark _)) (pss_cons (ps_set (i := 4) sc_reached_names.nd rfl (Or.inl rfl) (pe_call G_names_in (hr.mono (by omega)) rfl m_names_in k_names_in b_names_in .nil pass0 (pa_cons (pe_dget (hu_of hr) (pv 0) (pe_bm0 PySem.F.plainAttrs_list PySem.F.slot_list_pop PySem.F.type_list_pop mt_pop (pv 3)) (fun _ _ => rfl)) pa_nil)))
      (pss_cons (ps_expr (pe_bm PySem.F.plainAttrs_list PySem.F.slot_list_extend PySem.F.type_list_extend mt_extend (pv 3) (pa_cons (pe_lc (own := [("driver", 5)]) rfl sc_reached_names.nd (pi_tup (pv 4)) (blkOk_by (N := ["formulas", "name", "reached", "waiting", "drivers", "driver"]) (sc := defScope s_reached_names) (by decide +kernel)) (fun _ _ _ _ _ => (pg_name (i := 5) sc_reached_names.nd rfl (Or.inl rfl))) (fun _ _ _ _ _ => (pts_one (PW.pt (pw_and (pt_cmpR (op_inDict (hu_of hr)) (pv 5) (pv 0) (by rfl)) (pw_and1 (pt_cmpR (op_notInDict (hu_of hr)) (pv 5) (pv 2) (by rfl))))))) (fun _ _ _ _ _ => (pv 5))) pa_nil)))
      (pss_one (ps_expr (pe_bm PySem.F.plainAttrs_dict PySem.F.slot_dict_update PySem.F.type_dict_update mt_updateK (pv 2) (pa_cons (pe_dc (own := [("driver", 5)]) rfl sc_reached_names.nd (pi_tup (pv 4)) (blkOk_by (N := ["formulas", "name", "reached", "waiting", "drivers", "driver"]) (sc := defScope s_reached_names) (by decide +kernel)) (fun _ _ _ _ _ => (pg_name (i := 5) sc_reached_names.nd rfl (Or.inl rfl))) (fun _ _ _ _ _ => pts_nil) (fun _ _ _ _ _ => (pv 5)) (fun _ _ _ _ _ => pe_bl)) pa_nil)))))))
      (pss_one (ps_ret (pe_callTy (call_listD rfl) (by rfl) T.n_list (by decide +kernel) (pa_cons (pv 2) pa_nil))))))), ?_⟩
    refine fun pd npd => ?_
    refine ⟨_, rfl, (by show 1 ≤ sizeLine; decide), fun pw npw => ?_⟩
    have hpw : H pw = none := by
      by_cases e : pw = pd
      · rw [e, upd_same] at npw
        cases npw
      · rw [upd_ne e] at npw
        exact npw
    have dw : pd ≠ pw := fun e => by
      rw [← e, upd_same] at npw
      cases npw
    have s0 : Same H (upd (upd H pd (.dK [])) pw (.lst [.str name])) := same_upd (same_new npd _) hpw
    refine ⟨fun m σ G => ∃ (W R : List Str) (o4 o5 : Option V), m = W.length + (left ks R).length ∧ m ≤ 61 ∧ σ = [some (.ref d), some (.str name), some (.ref pd), some (.ref pw), o4, o5] ∧ Same H G ∧ KA G pd R ∧ G pw = some (.lst (W.map V.str)) ∧ Rch ks ff name W R ∧ (∀ y ∈ R, y ∈ ns),
      ⟨1 + (left ks []).length, [name], [], none, none, rfl, ?_, rfl, s0, ⟨List.nodup_nil, [], by rw [upd_ne dw]; exact upd_same, rfl⟩, upd_same, ⟨(fun y hy => by cases hy), fun x hx => ?_, fun x hx hr => ?_, List.nodup_nil⟩, fun y hy => by cases hy⟩, ?_⟩
    · have := List.length_filter_le (fun k => decide (k ∉ ([] : List Str))) ks
      show 1 + (ks.filter _).length ≤ 61
      omega
    · rw [List.mem_singleton.mp hx]
      exact ⟨hname, .inl rfl⟩
    · rcases hr with e | e
      · exact .inl (by rw [e]; exact List.mem_singleton.mpr rfl)
      · cases e
    · rintro m σ G ⟨W, R, o4, o5, hm, hm61, rfl, s1, hR, hW, rc, hRn⟩
      refine ⟨_, rfl, (by show 0 ≤ sizeLine; decide), fun p1 np1 => ?_⟩
      have s2 := same_new np1 (.lst [])
      have hWD : Dp K (upd G p1 (.lst [])) (.ref pw) (.list (W.map PyData.str)) := .lst (SqL.of (s2 _ _ hW)) (dps_strs W)
      refine ⟨.list (W.map PyData.str), .list [], hWD, .lst (SqL.of upd_same) .nil, shp_strs fun x hx => hkn x (rc.w x hx).1, rfl, _, rfl, ?_⟩
      have s12 := s1.trans s2
      have hR2 := hR.keep s2
      have hW2 := s2 _ _ hW
      generalize upd G p1 (.lst []) = G2 at *
      rcases List.eq_nil_or_concat W with rfl | ⟨W', x0, eW⟩
      · refine ite2 (fun c => absurd c (by decide)) (fun _ => ?_)
        obtain ⟨kvs, hk, hkeys⟩ := hR2.at_
        refine ⟨_, rfl, pd, kvs, rfl, .inl hk, fun r nr => ?_⟩
        have er : kvs.map (fun kv => kV kv.1) = R.map V.str := by
          have z := congrArg (List.map kV) hkeys
          rw [List.map_map, List.map_map] at z
          exact z
        rw [er]
        refine q r R _ (s12.trans (same_new nr _)) upd_same (fun y hy => hn y (hRn y hy)) (Nat.le_trans (sub_len rc.nd hRn) hns) rc.all
      · rw [List.concat_eq_append] at eW
        subst eW
        have h0 := rc.w x0 (List.mem_append_right _ (List.mem_singleton.mpr rfl))
        refine ite2 (fun _ => ?_) (fun c => absurd (by rw [List.map_append]; show (!PyData.eqv (.list (W'.map PyData.str ++ [.str x0])) (.list [])) = true; rw [eqv_snoc]; rfl) c)
        refine ⟨fun σ' G' => ∃ m', m' < m ∧ ∃ (W R : List Str) (o4 o5 : Option V), m' = W.length + (left ks R).length ∧ m' ≤ 61 ∧ σ' = [some (.ref d), some (.str name), some (.ref pd), some (.ref pw), o4, o5] ∧ Same H G' ∧ KA G' pd R ∧ G' pw = some (.lst (W.map V.str)) ∧ Rch ks ff name W R ∧ (∀ y ∈ R, y ∈ ns), fun σ' G' h => h, ?_⟩
        have dpw : d ≠ pw := (hd.keep (FmR.st K ns ff) s12).nolst hW2
        have last : ((W' ++ [x0]).map V.str)[((W' ++ [x0]).map V.str).length - 1]? = some (V.str x0) := by
          rw [List.map_append]
          exact last_at _ _
        have dl : ((W' ++ [x0]).map V.str).dropLast = W'.map V.str := by
          rw [List.map_append]
          exact List.dropLast_concat
        have s13 : Same H (upd G2 pw (.lst (W'.map V.str))) := same_upd s12 hpw
        have hd3 : DXR (FmR K ns ff) (upd G2 pw (.lst (W'.map V.str))) d ks := (hd.keep (FmR.st K ns ff) s12).keepT (FmR.st K ns ff) (upd_ne dpw) (TS.upd hW2 rfl)
        have hR3 : KA (upd G2 pw (.lst (W'.map V.str))) pd R := hR2.keepE (upd_ne dw)
        obtain ⟨v0, hget0, ts, c, fv, gt, eg, ec, _⟩ := hd3.get h0.1
        have hlen := sub_len rc.nd hRn
        refine ⟨_, rfl, _, rfl, .inl ⟨rfl, _, SqL.of hW2⟩, pw, _, .str x0, rfl, rfl, hW2, last, ?_⟩
        rw [dl]
        have hW3 : upd G2 pw (.lst (W'.map V.str)) pw = some (.lst (W'.map V.str)) := upd_same
        generalize upd G2 pw (.lst (W'.map V.str)) = G3 at *
        refine ⟨d, v0, rfl, hget0, v0, ts, c, rfl, fv.dp, Nat.le_trans gt.few hns, fun r G4 s4 hr4 => ?_⟩
        cases hr4 with
        | @tup p xs _ hs4 ha4 =>
          have ex := dps_str_inv ha4
          have nl : (ts.map (·.1)).Nodup := gt.nodup
          have hls : ∀ y, y ∈ ts.map (·.1) ↔ (ff x0).1.1 y ≠ 0 := fun y => by
            rw [← eg]
            exact gt.not0 y
          have hlsn : ∀ y ∈ ts.map (·.1), y ∈ ns := fun y hy => by
            obtain ⟨t, ht, rfl⟩ := List.mem_map.mp hy
            exact gt.names t ht
          have lsl : (ts.map (·.1)).length ≤ 60 := Nat.le_trans (sub_len nl hlsn) hns
          generalize ts.map (·.1) = ls at *
          subst ex
          have hd4 := hd3.keep (FmR.st K ns ff) s4
          have hR4 := hR3.keep s4
          have hW4 := s4 _ _ hW3
          refine ⟨_, rfl, .inl ⟨rfl, _, SqL.of hW4⟩, _, rfl, p, rfl, ⟨_, hs4⟩, fun Dl nDl => ?_⟩
          refine lc_it (walk_tup (K := K) (a := p) (xs := ls.map V.str)) (fun i G' => Same G4 G' ∧ G' Dl = some (.lst (((ls.take i).filter fun y => decide (y ∈ ks) && decide (y ∉ R)).map V.str))) ⟨same_new nDl _, upd_same⟩ (fun i G' _ h => same_seqT h.1 hs4) ?_ ?_
          · rintro i x G5 G5' hi ⟨s5, hD5⟩ ⟨rfl, hx⟩
            rw [List.getElem?_map] at hx
            obtain ⟨y, hy, rfl⟩ : ∃ y, ls[i]? = some y ∧ V.str y = x := by
              cases z : ls[i]? with
              | none => rw [z] at hx; cases hx
              | some y => rw [z] at hx; exact ⟨y, rfl, Option.some.inj hx⟩
            have etk := take_more hy
            obtain ⟨o1, g1, e1⟩ := (hd4.keep (FmR.st K ns ff) s5).has y
            obtain ⟨o2, g2, e2⟩ := (hR4.keep s5).get y
            have noadd : (decide (y ∈ ks) && decide (y ∉ R)) = false → ((ls.take (i + 1)).filter fun y => decide (y ∈ ks) && decide (y ∉ R)) = (ls.take i).filter fun y => decide (y ∈ ks) && decide (y ∉ R) := fun z => by
              rw [etk, List.filter_append, List.filter_cons_of_neg (by simp only [z]; exact Bool.false_ne_true), List.filter_nil, List.append_nil]
            refine ⟨rfl, _, rfl, _, rfl, d, o1, rfl, g1, _, rfl, ?_⟩
            rw [e1]
            by_cases hyk : y ∈ ks
            · rw [decide_eq_true hyk]
              refine iteT ⟨_, rfl, _, rfl, pd, o2, rfl, g2, _, rfl, ?_⟩
              rw [e2]
              by_cases hyR : y ∈ R
              · rw [decide_eq_true hyR]
                refine iteF ⟨s5, ?_⟩
                rw [noadd (by rw [decide_eq_true hyk, decide_eq_false (fun z => z hyR)]; rfl)]
                exact hD5
              · rw [decide_eq_false hyR]
                refine iteT ⟨_, rfl, _, hD5, ?_, same_upd s5 nDl, ?_⟩
                · rw [List.length_map]
                  have z1 := List.length_filter_le (fun y => decide (y ∈ ks) && decide (y ∉ R)) (ls.take i)
                  rw [List.length_take] at z1
                  exact small1000 (by omega)
                · rw [upd_same, etk, List.filter_append, List.filter_cons_of_pos (by rw [decide_eq_true hyk, decide_eq_true hyR]; rfl), List.filter_nil, List.map_append]
                  rfl
            · rw [decide_eq_false hyk]
              refine iteF (iteF ⟨s5, ?_⟩)
              rw [noadd (by rw [decide_eq_false hyk]; rfl)]
              exact hD5
          · rintro G6 ⟨s6, hD6⟩
            rw [List.length_map, List.take_length] at hD6
            have hW6 := s6 _ _ hW4
            have hfl := List.length_filter_le (fun y => decide (y ∈ ks) && decide (y ∉ R)) ls
            refine ⟨pw, Dl, _, _, rfl, rfl, hW6, hD6, ?_, ?_⟩
            · rw [List.length_map, List.length_map]
              rw [List.length_append, List.length_singleton] at hm
              exact Nat.le_of_lt (small1000 (by omega))
            have hs6 := same_seqT s6 hs4
            have hR6 := hR4.keep s6
            have s06 : Same H (upd G6 pw (.lst (W'.map V.str ++ (ls.filter fun y => decide (y ∈ ks) && decide (y ∉ R)).map V.str))) := same_upd (s13.trans (s4.trans s6)) hpw
            have hs7 := sqt_ts (TS.upd (u := .lst (W'.map V.str ++ (ls.filter fun y => decide (y ∈ ks) && decide (y ∉ R)).map V.str)) hW6 rfl) hs6
            have hR7 : KA (upd G6 pw (.lst (W'.map V.str ++ (ls.filter fun y => decide (y ∈ ks) && decide (y ∉ R)).map V.str))) pd R := hR6.keepE (upd_ne dw)
            have hW7 : upd G6 pw (.lst (W'.map V.str ++ (ls.filter fun y => decide (y ∈ ks) && decide (y ∉ R)).map V.str)) pw = some (.lst ((W' ++ ls.filter fun y => decide (y ∈ ks) && decide (y ∉ R)).map V.str)) := by
              rw [upd_same, List.map_append]
            generalize upd G6 pw (.lst (W'.map V.str ++ (ls.filter fun y => decide (y ∈ ks) && decide (y ∉ R)).map V.str)) = G7 at *
            obtain ⟨kv7, hk7, _⟩ := hR7.at_
            refine ⟨_, rfl, .inr (.inr (.inl ⟨rfl, .inl ⟨_, hk7⟩⟩)), _, rfl, p, rfl, ⟨_, hs7⟩, fun Dd nDd => ?_⟩
            refine dc_it (walk_tup (K := K) (a := p) (xs := ls.map V.str)) (fun i G' => Same G7 G' ∧ G' Dd = some (.dK ((ls.take i).map fun y => (Sum.inr y, V.bl true)))) ⟨same_new nDd _, upd_same⟩ (fun i G' _ h => same_seqT h.1 hs7) ?_ ?_
            · rintro i x G8 G8' hi ⟨s8, hD8⟩ ⟨rfl, hx⟩
              rw [List.getElem?_map] at hx
              obtain ⟨y, hy, rfl⟩ : ∃ y, ls[i]? = some y ∧ V.str y = x := by
                cases z : ls[i]? with
                | none => rw [z] at hx; cases hx
                | some y => rw [z] at hx; exact ⟨y, rfl, Option.some.inj hx⟩
              have etk := take_more hy
              refine ⟨rfl, _, rfl, _, Sum.inr y, rfl, hD8, ?_, same_upd s8 nDd, ?_⟩
              · rw [List.length_map, List.length_take]
                exact small1000 (by omega)
              · have mn := merge_new (more := [(Sum.inr y, V.bl true)]) (kvs := (ls.take i).map fun y => ((Sum.inr y : Key), V.bl true)) (by
                  rw [List.map_append, List.map_map]
                  have z := nd_inr ((nl.sublist (List.take_sublist (i + 1) ls)))
                  rw [etk, List.map_append] at z
                  exact z)
                rw [upd_same, etk, List.map_append]
                exact congrArg (fun l => some (HO.dK l)) mn
            · rintro G9 ⟨s9, hD9⟩
              rw [List.length_map, List.take_length] at hD9
              have hR9 := hR7.keep s9
              obtain ⟨kv9, hk9, hkeys⟩ := hR9.at_
              have l9 : kv9.length ≤ 60 := by
                have z := congrArg List.length hkeys
                rw [List.length_map, List.length_map] at z
                omega
              obtain ⟨rc2, lt⟩ := rc.step hls nl hd.nd
              have pdD : pd ≠ Dd := ne_of_none hk7 nDd
              refine ⟨pd, Dd, kv9, _, rfl, rfl, pdD, hk9, hD9, ?_, ?_⟩
              · rw [List.length_map]
                exact Nat.le_of_lt (small1000 (by omega))
              · refine ⟨_, by rw [hm]; exact lt, _, _, _, _, rfl, by omega, rfl, same_upd (s06.trans s9) npd, ⟨nd_addAll hR9.nd, _, upd_same, merge_keys hkeys⟩, ?_, rc2, fun y hy => ?_⟩
                · rw [upd_ne dw.symm]
                  exact s9 _ _ hW7
                · rcases mem_addAll.mp hy with h | h
                  · exact hRn y h
                  · exact hlsn y h
end

end Bs
namespace Bs
open PySem L2
/-! ### the first cell that leads back to itself -/
theorem inV_ss (x : Str) : ∀ ns : List Str, inV (.str x) (ns.map V.str) = decide (x ∈ ns)
  | [] => rfl
  | n :: ns => by
    show ((n == x) || inV (.str x) (ns.map V.str)) = _
    rw [inV_ss x ns]
    by_cases e : n = x
    · subst e
      rw [beq_self_eq_true, decide_eq_true (List.mem_cons_self ..), Bool.true_or]
    · have b : (n == x) = false := beq_eq_false_iff_ne.mpr e
      rw [b, Bool.false_or]
      refine decide_eq_decide.mpr ⟨List.mem_cons_of_mem _, fun h => ?_⟩
      rcases List.mem_cons.mp h with h | h
      · exact absurd h.symm e
      · exact h
def spCircles (K : PySem.W.Frag) (Cc : Addr) : Sp := fun vs H Q E => ∃ (d : Addr) (ns ks : List Str) (ff : Str → Fq × Nat), vs = [.ref d] ∧ DX (FmR K ns ff) H d ks ∧ ns.length ≤ 60 ∧ (∀ x ∈ ns, PyData.strOk x = true) ∧ (∀ x ∈ ks, PyData.strOk x = true) ∧ ks.length ≤ 60 ∧
  ((∀ x ∈ ks, ¬ Relation.TransGen (stepF ks ff) x x) → ∀ H', Same H H' → Q .non H') ∧
  ∀ (i : Nat) (x : Str), ks[i]? = some x → (∀ y ∈ ks.take i, ¬ Relation.TransGen (stepF ks ff) y y) → Relation.TransGen (stepF ks ff) x x → ∀ dx H', Same (hide d H) H' → H' dx = some (.xd [("name", .str x)]) → E (.ref Cc) (some dx) H'
section
variable {P : Program} {w : World} {K : PySem.W.Frag} {mg : Str → Option Value} {base : Heap}
theorem ok_check_circles {Cc : Addr} (Ti : ErrF P w K mg base "CircularCell" "name" Cc) (GN : Kn P w K mg base CX0 "reached_names" 35 ["formulas", "name"] (spReach K)) (D : Df K mg "check_circles" s_check_circles ["formulas"]) :
    Kn P w K mg base (L2.CX P w) "check_circles" 36 ["formulas"] (spCircles K Cc) := by
  obtain ⟨f, fd, F, hm, hb⟩ := D
  obtain ⟨fI, fdI, iC, tI, F1, b1⟩ := Ti.ini
  obtain ⟨f_reached_names, fd_reached_names, G_reached_names, m_reached_names, k_reached_names, b_reached_names⟩ := GN
  refine ⟨f, fd, F.okX sc_check_circles (fun vs H Q E h => ?_) (fun cdv A outer s H vs Q E hr h => ?_), hm, F.kp, hb⟩
  · obtain ⟨d, ns, ks, ff, rfl, _⟩ := h
    rfl
  · obtain ⟨d, ns, ks, ff, rfl, hd, hns, hn, hkn, hkl, q, qe⟩ := h
    refine ⟨_, (pss_one (ps_lock (ps_for (passes_of rfl) rfl (pi_keys (pv 0)) (pg_name (i := 1) sc_check_circles.nd rfl (Or.inl rfl))
        (pss_one (ps_if (pt_cmpR (op_inK (K := K) rfl) (pv 1) (pe_call G_reached_names (hr.mono (by omega)) rfl m_reached_names k_reached_names b_reached_names .nil pass0 (pa_cons (pv 0) (pa_cons (pv 1) pa_nil))) (by rfl)) (pss_one (ps_raise rfl (takes_of rfl rfl rfl rfl) (pmk_oex Ti.ox iC tI F1 (hr.mono (by omega)) b1 .nil pass0 rfl Ti.gC (pa_cons (pv 1) pa_nil)))) pss_nil))))), ?_⟩
    obtain ⟨kvs, hk, hkeys, hvals⟩ := hd.at_
    refine ⟨d, .dK kvs, hk, trivial, fun od => ?_⟩
    have ts0 : TS H (upd H d (.frz od (.dK kvs))) := TS.upd hk rfl
    have hd0 : DXR (FmR K ns ff) (upd H d (.frz od (.dK kvs))) d ks := by
      refine ⟨hd.nd, kvs, .inr ⟨od, upd_same⟩, hkeys, fun x hx => ?_⟩
      obtain ⟨v, ev, hv⟩ := hvals x hx
      exact ⟨v, ev, FmA.ts hv ts0⟩
    have lk := hd.len hk
    refine ⟨_, rfl, d, od, rfl, .inl ⟨kvs, upd_same, ?_⟩⟩
    refine for_keys (fun n τ G => ∃ o1, τ = [some (.ref d), o1] ∧ Same (upd H d (.frz od (.dK kvs))) G ∧ ∀ y ∈ ks.take n, ¬ Relation.TransGen (stepF ks ff) y y) ⟨none, rfl, Same.refl _, fun y hy => by cases hy⟩ (fun n τ G _ h => by obtain ⟨_, _, s, _⟩ := h; exact s _ _ upd_same) ?_ ?_
    · rintro n k v τ G hn' ⟨o1, rfl, s1, hno⟩
      obtain ⟨x, hx, hxn, rfl⟩ := key_at hkeys hn'
      refine ⟨_, rfl, _, rfl, _, rfl, d, x, ns, ks, ff, rfl, hd0.keep (FmR.st K ns ff) s1, hx, hns, hn, hkn, hkl, fun r ys G2 s2 hr2 hys lys hall => ?_⟩
      refine ⟨r, _, rfl, .inl (SqL.of hr2), rfl, ?_, _, rfl, ?_⟩
      · rw [List.all_map]
        exact List.all_eq_true.mpr fun _ _ => rfl
      · refine ite2 (fun c => ?_) (fun c => ?_)
        · have cyc := (hall x).mp (of_decide_eq_true ((inV_ss x ys).symm.trans c))
          refine ⟨_, rfl, (by show 1 ≤ 1000; decide), fun ea na => ?_⟩
          refine ⟨ea, _, rfl, upd_same, fun xd hdx nx => ⟨rfl, xd, [("name", .str x)], upd_same, ?_, ?_, ?_⟩⟩
          · rw [upd_ne nx, upd_same]
            rfl
          · rw [upd_ne nx] at hdx
            exact hdx
          · rw [upd_ne nx] at hdx
            refine qe n x hxn hno cyc xd _ ?_ upd_same
            refine Same.trans (fun a u h => ?_) ((s1.trans s2).trans (raised_same na hdx nx))
            have ne : a ≠ d := fun e => by
              rw [e] at h
              have z : (if d = d then none else H d) = some u := h
              rw [if_pos rfl] at z
              cases z
            rw [upd_ne ne]
            exact hide_sub d H a u h
        · refine ⟨_, rfl, s1.trans s2, fun y hy => ?_⟩
          rw [take_more hxn] at hy
          rcases List.mem_append.mp hy with h | h
          · exact hno y h
          · rw [List.mem_singleton.mp h]
            exact fun z => c ((inV_ss x ys).trans (decide_eq_true ((hall x).mpr z)))
    · rintro τ G ⟨o1, rfl, s1, hno⟩
      refine ⟨s1 _ _ upd_same, q (fun x hx => hno x (by rw [lk, List.take_length]; exact hx)) _ fun a u h => ?_⟩
      by_cases e : a = d
      · rw [e, hk] at h
        rw [e, upd_same]
        exact h
      · rw [upd_ne e]
        exact s1 _ _ (by rw [upd_ne e]; exact h)
end

end Bs
namespace Bs
open PySem L2
/-! ### the forms by inputs -/
theorem FmA.eq {K : PySem.W.Frag} {ns : List Str} {H : Hp} {v : V} {g g' : Fq} {k k' : Nat} (h : FmA K ns H v g k) (e1 : ∀ y, g.1 y = g'.1 y) (e2 : g.2 = g'.2) (l : k ≤ k') : FmA K ns H v g' k' := by
  obtain ⟨ts, c, h1, h2, h3, h4, h5⟩ := h
  exact ⟨ts, c, h1, h2.mono l, fun y => (h3 y).trans (e1 y), h4.trans e2, by omega⟩
theorem FmA.supp {K : PySem.W.Frag} {ns ms : List Str} {H : Hp} {v : V} {g : Fq} {k : Nat} (h : FmA K ns H v g k) (hs : ∀ y, g.1 y ≠ 0 → y ∈ ms) : FmA K ms H v g k := by
  obtain ⟨ts, c, h1, h2, h3, h4, h5⟩ := h
  refine ⟨ts, c, h1, ⟨fun t ht => hs t.1 ?_, h2.terms, h2.order, h2.const⟩, h3, h4, h5⟩
  rw [← h3]
  exact (h2.not0 t.1).mp (List.mem_map.mpr ⟨t, ht, rfl⟩)
theorem FmA.names {K : PySem.W.Frag} {ns : List Str} {H : Hp} {v : V} {g : Fq} {k : Nat} (h : FmA K ns H v g k) {y : Str} (hy : g.1 y ≠ 0) : y ∈ ns := by
  obtain ⟨ts, c, h1, h2, h3, h4, h5⟩ := h
  rw [← h3] at hy
  obtain ⟨t, ht, rfl⟩ := List.mem_map.mp ((h2.not0 y).mpr hy)
  exact h2.names t ht
theorem sum_le {φ : Str → Nat} : ∀ {l m : List Str}, l.Nodup → (∀ x ∈ l, x ∈ m) → (l.map φ).sum ≤ (m.map φ).sum
  | [], _, _, _ => Nat.zero_le _
  | x :: l, m, nd, h => by
    rw [List.nodup_cons] at nd
    obtain ⟨a, b, rfl⟩ := List.append_of_mem (h x (List.mem_cons_self ..))
    have z := sum_le (φ := φ) (l := l) (m := a ++ b) nd.2 fun y hy => by
      rcases List.mem_append.mp (h y (List.mem_cons_of_mem _ hy)) with q | q
      · exact List.mem_append_left _ q
      · rcases List.mem_cons.mp q with q | q
        · rw [q] at hy
          exact absurd hy nd.1
        · exact List.mem_append_right _ q
    simp only [List.map_append, List.sum_append, List.map_cons, List.sum_cons] at z ⊢
    omega
theorem subQ_one (ff : Str → Fq × Nat) (y : Str) : ∀ (ts : Ts) (a : Fq), (ts.foldl (fun a t => addQ a (sclQ (qv t.2) (ff t.1).1)) a).1 y = a.1 y + (ts.map fun t => qv t.2 * (ff t.1).1.1 y).sum
  | [], a => by
    simp only [List.foldl_nil, List.map_nil, List.sum_nil]
    grind
  | t :: ts, a => by
    rw [List.foldl_cons, subQ_one ff y ts]
    simp only [List.map_cons, List.sum_cons, addQ, sclQ]
    grind
theorem subQ_two (ff : Str → Fq × Nat) : ∀ (ts : Ts) (a : Fq), (ts.foldl (fun a t => addQ a (sclQ (qv t.2) (ff t.1).1)) a).2 = a.2 + (ts.map fun t => qv t.2 * (ff t.1).1.2).sum
  | [], a => by
    simp only [List.foldl_nil, List.map_nil, List.sum_nil]
    grind
  | t :: ts, a => by
    rw [List.foldl_cons, subQ_two ff ts]
    simp only [List.map_cons, List.sum_cons, addQ, sclQ]
    grind
/-- bf: what the cells' forms ff come to by inputs alone -/
structure ByIn (ns ks cs ins : List Str) (ff bf : Str → Fq × Nat) (rk : Str → Nat) : Prop where
  sub : ∀ x ∈ cs, x ∈ ks
  inp : ∀ x ∈ ks, x ∉ cs → (∀ y, (bf x).1.1 y = (ff x).1.1 y) ∧ (bf x).1.2 = (ff x).1.2 ∧ (ff x).2 ≤ (bf x).2
  frm1 : ∀ x ∈ cs, ∀ y, (bf x).1.1 y = (ns.map fun d => (ff x).1.1 d * (bf d).1.1 y).sum
  frm2 : ∀ x ∈ cs, (bf x).1.2 = (ff x).1.2 + (ns.map fun d => (ff x).1.1 d * (bf d).1.2).sum
  bits : ∀ x ∈ cs, ((ns.filter fun d => decide ((ff x).1.1 d ≠ 0)).map fun d => (ff x).2 + (bf d).2 + 1).sum + (ff x).2 ≤ (bf x).2
  big : ∀ x ∈ ks, (bf x).2 ≤ 39999990
  ins : ∀ x ∈ ks, ∀ y, (bf x).1.1 y ≠ 0 → y ∈ ins
  rank : ∀ x ∈ cs, ∀ y, (ff x).1.1 y ≠ 0 → y ∈ ks ∧ rk y < rk x
theorem ByIn.form {ns ks cs ins : List Str} {ff bf : Str → Fq × Nat} {rk : Str → Nat} (B : ByIn ns ks cs ins ff bf rk) (nd : ns.Nodup) {x : Str} (hx : x ∈ cs) {ts : Ts} {c : Int × Int} (f : FormK ns (ff x).2 ts c) (e1 : ∀ y, cq ts y = (ff x).1.1 y) (e2 : qv c = (ff x).1.2) :
    (∀ y, (subQ ts (qv c) bf).1 y = (bf x).1.1 y) ∧ (subQ ts (qv c) bf).2 = (bf x).1.2 ∧ subK (ff x).2 ts bf ≤ (bf x).2 := by
  refine ⟨fun y => ?_, ?_, ?_⟩
  · unfold subQ
    rw [subQ_one, B.frm1 x hx y, sum_terms nd (fun d => (bf d).1.1 y) f.nodup f.names]
    simp only [conQ, e1]
    grind
  · unfold subQ
    rw [subQ_two, B.frm2 x hx, sum_terms nd (fun d => (bf d).1.2) f.nodup f.names]
    simp only [conQ, e1, e2]
  · refine Nat.le_trans ?_ (B.bits x hx)
    unfold subK
    have z := sum_le (φ := fun d => (ff x).2 + (bf d).2 + 1) (l := ts.map (·.1)) (m := ns.filter fun d => decide ((ff x).1.1 d ≠ 0)) f.nodup fun y hy => by
      refine List.mem_filter.mpr ⟨?_, decide_eq_true (by rw [← e1]; exact (f.not0 y).mp hy)⟩
      obtain ⟨t, ht, rfl⟩ := List.mem_map.mp hy
      exact f.names t ht
    rw [List.map_map] at z
    exact Nat.add_le_add_right z _
theorem all_in {F ks : List Str} (nd : F.Nodup) (sub : ∀ x ∈ F, x ∈ ks) (l : ks.length ≤ F.length) (x : Str) (hx : x ∈ ks) : x ∈ F := by
  by_cases h : x ∈ F
  · exact h
  · have z := sub_len (l := x :: F) (m := ks) (List.nodup_cons.mpr ⟨h, nd⟩) fun y hy => by
      rcases List.mem_cons.mp hy with q | q
      · rw [q]
        exact hx
      · exact sub y q
    rw [List.length_cons] at z
    omega
def Topo (cs : List Str) (ff : Str → Fq × Nat) (F : List Str) : Prop := ∀ (i : Nat) (x : Str), F[i]? = some x → x ∈ cs → ∀ y, (ff x).1.1 y ≠ 0 → y ∈ F.take i
theorem Topo.snoc {cs : List Str} {ff : Str → Fq × Nat} {F : List Str} {x : Str} (h : Topo cs ff F) (hx : ∀ y, (ff x).1.1 y ≠ 0 → y ∈ F) : Topo cs ff (F ++ [x]) := fun i z hz hc y hy => by
  by_cases e : i < F.length
  · rw [List.getElem?_append_left e] at hz
    rw [List.take_append_of_le_length (Nat.le_of_lt e)]
    exact h i z hz hc y hy
  · have ei : i = F.length := by
      have l := get_lt hz
      rw [List.length_append, List.length_singleton] at l
      omega
    subst ei
    rw [List.getElem?_append_right (Nat.le_refl _), Nat.sub_self] at hz
    obtain rfl : x = z := Option.some.inj hz
    rw [List.take_append_of_le_length (Nat.le_refl _), List.take_length]
    exact hx y hy
/-- a walk over all formulas finds one more -/
theorem found_more {ns ks cs ins F F' : List Str} {ff bf : Str → Fq × Nat} {rk : Str → Nat} (B : ByIn ns ks cs ins ff bf rk) (hin : ∀ x ∈ ks, x ∉ cs → x ∈ F) (hp : ∀ y ∈ cs, y ∈ F' ∨ ∃ d, (ff y).1.1 d ≠ 0 ∧ d ∉ F) :
    ∀ (n : Nat) (x : Str), rk x < n → x ∈ ks → x ∉ F → F' ≠ F
  | 0, _, h, _, _ => absurd h (Nat.not_lt_zero _)
  | n + 1, x, h, hx, hn => fun e => by
    have hc : x ∈ cs := by
      by_cases z : x ∈ cs
      · exact z
      · exact absurd (hin x hx z) hn
    rcases hp x hc with q | ⟨d, hd, hdF⟩
    · rw [e] at q
      exact hn q
    · have r := B.rank x hc d hd
      exact found_more B hin hp n d (by omega) r.1 hdF e
def spByIn (K : PySem.W.Frag) : Sp := fun vs H Q _ => ∃ (pf pm : Addr) (ns ks cs ins : List Str) (ff bf : Str → Fq × Nat) (rk : Str → Nat), vs = [.ref pf, .ref pm] ∧ pf ≠ pm ∧ DX (FmR K ns ff) H pf ks ∧ DX (FmR K ns ff) H pm cs ∧ ByIn ns ks cs ins ff bf rk ∧
  ns.Nodup ∧ ns.length ≤ 60 ∧ ins.length ≤ 60 ∧ ks.length ≤ 60 ∧
  ∀ (pb : Addr) (ord : List Str) (H' : Hp), Same H H' → H pb = none → DX (FmR K ins bf) H' pb ord → (∀ x, x ∈ ord ↔ x ∈ ks) → Topo cs ff ord → Q (.ref pb) H'
section
variable {P : Program} {w : World} {K : PySem.W.Frag} {mg : Str → Option Value} {base : Heap}
theorem ok_forms_by_inputs (T : Bt mg) (GN : Kn P w K mg base CX0 "names_in" 33 ["form"] (spNamesIn K)) (GR : Kn P w K mg base CX0 "replaced_form" 38 ["form", "found"] (spRepl K)) (D : Df K mg "forms_by_inputs" s_forms_by_inputs ["forms", "formulas"]) :
    Kn P w K mg base CX0 "forms_by_inputs" 39 ["forms", "formulas"] (spByIn K) := by
  obtain ⟨f, fd, F, hm, hb⟩ := D
  obtain ⟨f_names_in, fd_names_in, G_names_in, m_names_in, k_names_in, b_names_in⟩ := GN
  obtain ⟨f_replaced_form, fd_replaced_form, G_replaced_form, m_replaced_form, k_replaced_form, b_replaced_form⟩ := GR
  refine ⟨f, fd, F.ok sc_forms_by_inputs (fun vs H Q E h => ?_) (fun cdv A outer s H vs Q E hr h => ?_), hm, F.kp, hb⟩
  · obtain ⟨pf, pm, ns, ks, cs, ins, ff, bf, rk, rfl, _⟩ := h
    rfl
  · obtain ⟨pf, pm, ns, ks, cs, ins, ff, bf, rk, rfl, npm, hf, hc, B, nd, hns, hins, hks, q⟩ := h
    refine ⟨_, (pss_cons (ps_lock (ps_set (i := 2) sc_forms_by_inputs.nd rfl (Or.inr rfl) (pe_dc (own := [("name", 3)]) rfl sc_forms_by_inputs.nd (pi_keys (pv 0)) (blkOk_by (N := ["forms", "formulas", "found", "name", "driver"]) (sc := defScope s_forms_by_inputs) (by decide +kernel)) (fun _ _ _ _ _ => (pg_name (i := 3) sc_forms_by_inputs.nd rfl (Or.inl rfl))) (fun _ _ _ _ _ => (pts_one (pt_cmpR (op_notInDict (hu_of hr)) (pv 3) (pv 1) (by rfl)))) (fun _ _ _ _ _ => (pv 3)) (fun _ _ _ _ _ => (pe_dget (hu_of hr) (pv 0) (pv 3) (fun _ _ => rfl))))))
      (pss_cons (ps_while PassesOwn.never (pt_cmpR op_lt (pe_callB call_lenD (by rfl) T.n_len (by decide +kernel) (pa_cons (pv 2) pa_nil)) (pe_callB call_lenD (by rfl) T.n_len (by decide +kernel) (pa_cons (pv 0) pa_nil)) (nomark _)) (pss_one (ps_lock (ps_for PassesOwn.never rfl (pi_keys (pv 1)) (pg_name (i := 3) sc_forms_by_inputs.nd rfl (Or.inl rfl))
        (pss_one (ps_if (PW.pt (pw_and (pt_cmpR (op_notInDict (hu_of hr)) (pv 3) (pv 2) (by rfl)) (pw_and1 (pt_val (pe_callB (cr_all rfl) (by rfl) T.n_all (by decide +kernel) (pa_cons (pe_lc (own := [("driver", 4)]) rfl sc_forms_by_inputs.nd (pi_tup (pe_call G_names_in (hr.mono (by omega)) rfl m_names_in k_names_in b_names_in .nil pass0 (pa_cons (pe_dget (hu_of hr) (pv 0) (pv 3) (fun _ _ => rfl)) pa_nil))) (blkOk_by (N := ["forms", "formulas", "found", "name", "driver"]) (sc := defScope s_forms_by_inputs) (by decide +kernel)) (fun _ _ _ _ _ => (pg_name (i := 4) sc_forms_by_inputs.nd rfl (Or.inl rfl))) (fun _ _ _ _ _ => pts_nil) (fun _ _ _ _ _ => (pe_cmpR (op_inDict (hu_of hr)) (pv 4) (pv 2) (by rfl)))) pa_nil)))))) (pss_one (ps_dput (hu_of hr) (pv 2) (pv 3) (pe_call G_replaced_form (hr.mono (by omega)) rfl m_replaced_form k_replaced_form b_replaced_form .nil pass0 (pa_cons (pe_dget (hu_of hr) (pv 0) (pv 3) (fun _ _ => rfl)) (pa_cons (pv 2) pa_nil))) rfl)) pss_nil))))))
      (pss_one (ps_ret (pv 2))))), ?_⟩
    obtain ⟨kf, hkf, hkeys, hvals⟩ := hf.at_
    obtain ⟨km, hkm, hkeym, hvalm⟩ := hc.at_
    have lf := hf.len hkf
    have lm := hc.len hkm
    refine ⟨pf, .dK kf, hkf, trivial, fun od => ?_⟩
    have ts0 : TS H (upd H pf (.frz od (.dK kf))) := TS.upd hkf rfl
    have hfR : DXR (FmR K ns ff) (upd H pf (.frz od (.dK kf))) pf ks := by
      refine ⟨hf.nd, kf, .inr ⟨od, upd_same⟩, hkeys, fun x hx => ?_⟩
      obtain ⟨v, ev, hv⟩ := hvals x hx
      exact ⟨v, ev, FmA.ts hv ts0⟩
    have hcR : DXR (FmR K ns ff) (upd H pf (.frz od (.dK kf))) pm cs := hc.rd.keepT (FmR.st K ns ff) (upd_ne npm.symm) ts0
    refine ⟨_, rfl, pf, od, rfl, .inl ⟨kf, upd_same, fun pb nb => ?_⟩⟩
    have bf_ne : pb ≠ pf := fun e => by
      rw [e, upd_same] at nb
      cases nb
    have hpb : H pb = none := by
      rw [upd_ne bf_ne] at nb
      exact nb
    refine dc_it (walk_keys (d := pf) (o := od) (kvs := kf)) (fun n G => Same (upd H pf (.frz od (.dK kf))) G ∧ ∃ kb, G pb = some (.dK kb) ∧ DX (FmR K ins bf) G pb ((ks.take n).filter fun x => decide (x ∉ cs))) ⟨same_new nb _, [], upd_same, DX.new⟩ (fun n G _ h => h.1 _ _ upd_same) ?_ ?_
    · rintro n x0 G G' hn ⟨s1, kb, hkb, hd⟩ ⟨rfl, k, v, hkv, rfl⟩
      obtain ⟨x, hx, hxn, rfl⟩ := key_at hkeys hkv
      obtain ⟨o, gm, em⟩ := (hcR.keep (FmR.st K ns ff) s1).has x
      have etk := take_more hxn
      refine ⟨rfl, _, rfl, _, rfl, pm, o, rfl, gm, _, rfl, ?_⟩
      rw [em]
      by_cases hxc : x ∈ cs
      · rw [decide_eq_true hxc]
        refine iteF ⟨s1, kb, hkb, ?_⟩
        rw [etk, List.filter_append, List.filter_cons_of_neg (by rw [decide_eq_false (fun z => z hxc)]; exact Bool.false_ne_true), List.filter_nil, List.append_nil]
        exact hd
      · rw [decide_eq_false hxc]
        obtain ⟨v', gf, fv⟩ := (hfR.keep (FmR.st K ns ff) s1).get hx
        have bi := B.inp x hx hxc
        have fb : FmA K ins _ v' (bf x).1 (bf x).2 := (FmA.supp fv fun y hy => B.ins x hx y (by rw [bi.1 y]; exact hy)).eq (fun y => (bi.1 y).symm) bi.2.1.symm bi.2.2
        have nin : x ∉ (ks.take n).filter fun x => decide (x ∉ cs) := fun h => by
          have h1 := (List.mem_filter.mp h).1
          have z := hf.nd.sublist (List.take_sublist (n + 1) ks)
          rw [etk] at z
          exact (List.nodup_append.mp z).2.2 x h1 x (List.mem_singleton.mpr rfl) rfl
        have lkb : kb.length ≤ 60 := by
          rw [hd.len hkb]
          refine Nat.le_trans (List.length_filter_le _ _) ?_
          rw [List.length_take]
          omega
        refine iteT ⟨_, rfl, _, rfl, _, rfl, pf, v', rfl, gf, kb, Sum.inr x, rfl, hkb, small1000 (by omega), same_upd s1 nb, _, upd_same, ?_⟩
        have z := hd.put (FmR.st K ins bf) hkb (x := x) (v := v') fb (fun _ _ _ h => h)
        unfold addN at z
        rw [if_neg nin] at z
        rw [etk, List.filter_append, List.filter_cons_of_pos (by rw [decide_eq_true hxc]), List.filter_nil]
        exact z
    · rintro G ⟨s1, kb, hkb, hd⟩
      rw [lf, List.take_length] at hd
      refine ⟨s1 _ _ upd_same, ?_⟩
      have s2 : Same H (upd G pf (.dK kf)) := fun a u h => by
        by_cases e : a = pf
        · rw [e, hkf] at h
          rw [e, upd_same]
          exact h
        · rw [upd_ne e]
          exact s1 _ _ (by rw [upd_ne e]; exact h)
      have hd2 : DX (FmR K ins bf) (upd G pf (.dK kf)) pb (ks.filter fun x => decide (x ∉ cs)) := hd.keepT (FmR.st K ins bf) (upd_ne bf_ne) (TS.upd (s1 _ _ upd_same) rfl)
      generalize upd G pf (.dK kf) = G1 at *
      have fsub : ∀ x ∈ ks.filter (fun x => decide (x ∉ cs)), x ∈ ks := fun x hx => (List.mem_filter.mp hx).1
      refine ⟨fun m σ G => ∃ (F : List Str) (o3 o4 : Option V), m = ks.length - F.length ∧ σ = [some (.ref pf), some (.ref pm), some (.ref pb), o3, o4] ∧ Same H G ∧ DX (FmR K ins bf) G pb F ∧ (∀ x ∈ F, x ∈ ks) ∧ (∀ x ∈ ks, x ∉ cs → x ∈ F) ∧ Topo cs ff F,
        ⟨_, _, none, none, rfl, rfl, s2, hd2, fsub, fun x hx hxc => List.mem_filter.mpr ⟨hx, decide_eq_true hxc⟩, fun i x hx hxc => absurd hxc (of_decide_eq_true (List.mem_filter.mp (List.mem_of_getElem? hx)).2)⟩, ?_⟩
      rintro m σ G ⟨F, o3, o4, hm, rfl, s3, hF, hFk, hFi, hT⟩
      obtain ⟨kb, hkb, _⟩ := hF.at_
      have lkb := hF.len hkb
      have hkf3 := s3 _ _ hkf
      have hkm3 := s3 _ _ hkm
      refine ⟨_, rfl, pb, kb, rfl, hkb, _, rfl, pf, kf, rfl, hkf3, _, _, rfl, rfl, _, rfl, ?_⟩
      refine ite2 (fun c => ?_) (fun c => ?_)
      · have hlt : F.length < ks.length := by
          have z := of_decide_eq_true c
          omega
        refine ⟨fun σ' G' => ∃ m', m' < m ∧ ∃ (F : List Str) (o3 o4 : Option V), m' = ks.length - F.length ∧ σ' = [some (.ref pf), some (.ref pm), some (.ref pb), o3, o4] ∧ Same H G' ∧ DX (FmR K ins bf) G' pb F ∧ (∀ x ∈ F, x ∈ ks) ∧ (∀ x ∈ ks, x ∉ cs → x ∈ F) ∧ Topo cs ff F, fun σ' G' h => h, ?_⟩
        refine ⟨pm, .dK km, hkm3, trivial, fun od2 => ?_⟩
        have bm_ne : pb ≠ pm := (ne_of_none hkm hpb).symm
        refine ⟨_, rfl, pm, od2, rfl, .inl ⟨km, upd_same, ?_⟩⟩
        refine for_keys (fun n τ G' => ∃ (F' : List Str) (o3 o4 : Option V), τ = [some (.ref pf), some (.ref pm), some (.ref pb), o3, o4] ∧ (∀ a u, H a = some u → a ≠ pm → G' a = some u) ∧ G' pm = some (.frz od2 (.dK km)) ∧ TS H G' ∧ DX (FmR K ins bf) G' pb F' ∧ (∀ x ∈ F', x ∈ ks) ∧ (∀ x ∈ F, x ∈ F') ∧ F.length ≤ F'.length ∧ (F'.length = F.length → F' = F) ∧ Topo cs ff F' ∧ ∀ y ∈ cs.take n, y ∈ F' ∨ ∃ d, (ff y).1.1 d ≠ 0 ∧ d ∉ F)
          ⟨F, o3, o4, rfl, fun a u h ne => by rw [upd_ne ne]; exact s3 _ _ h, upd_same, (TS.of s3).trans (TS.upd hkm3 rfl), hF.keepT (FmR.st K ins bf) (upd_ne bm_ne) (TS.upd hkm3 rfl), hFk, fun x hx => hx, Nat.le_refl _, fun _ => rfl, hT, fun y hy => by cases hy⟩ (fun n τ G' _ h => by obtain ⟨_, _, _, _, _, h, _⟩ := h; exact h) ?_ ?_
        · rintro n k v τ G' hkv ⟨F', o3, o4, rfl, hA, hB, hC, hF', hFk', hFF, lFF, eFF, hT', hp⟩
          obtain ⟨x, hx, hxn, rfl⟩ := key_at hkeym hkv
          have etk := take_more hxn
          have hxk := B.sub x hx
          obtain ⟨kb', hkb', _⟩ := hF'.at_
          obtain ⟨o, go, eo⟩ := hF'.rd.has x
          have hf' : DX (FmR K ns ff) G' pf ks := hf.keepT (FmR.st K ns ff) (by rw [hkf]; exact hA _ _ hkf npm) hC
          have stay : ∀ (F2 : List Str), (∀ z ∈ F', z ∈ F2) → (x ∈ F2 ∨ ∃ d, (ff x).1.1 d ≠ 0 ∧ d ∉ F) → ∀ y ∈ cs.take (n + 1), y ∈ F2 ∨ ∃ d, (ff y).1.1 d ≠ 0 ∧ d ∉ F := fun F2 h1 h2 y hy => by
            rw [etk] at hy
            rcases List.mem_append.mp hy with q | q
            · exact (hp y q).imp (h1 y) id
            · rw [List.mem_singleton.mp q]
              exact h2
          refine ⟨_, rfl, _, rfl, pb, o, rfl, go, _, rfl, ?_⟩
          rw [eo]
          by_cases hxF : x ∈ F'
          · rw [decide_eq_true hxF]
            refine iteF (iteF ?_)
            exact ⟨F', _, _, rfl, hA, hB, hC, hF', hFk', hFF, lFF, eFF, hT', stay F' (fun z h => h) (.inl hxF)⟩
          · rw [decide_eq_false hxF]
            refine iteT ?_
            obtain ⟨v', gf, ts, c0, fv, gt, eg, ec, k1⟩ := hf'.get hxk
            refine ⟨_, rfl, _, rfl, pf, v', rfl, gf, v', ts, c0, rfl, fv.dp, Nat.le_trans gt.few hns, fun r G2 sg2 hr2 => ?_⟩
            cases hr2 with
            | @tup p xs _ hs ha =>
              have ex := dps_str_inv ha
              subst ex
              have lts : ts.length ≤ 60 := Nat.le_trans gt.few hns
              refine ⟨p, rfl, ⟨_, hs⟩, fun Dl nDl => ?_⟩
              have hF2 := hF'.keep (FmR.st K ins bf) sg2
              refine lc_it (walk_tup (K := K) (a := p) (xs := (ts.map (·.1)).map V.str)) (fun i G3 => Same G2 G3 ∧ G3 Dl = some (.lst ((((ts.map (·.1)).take i).map fun y => decide (y ∈ F')).map V.bl))) ⟨same_new nDl _, upd_same⟩ (fun i G3 _ h => same_seqT h.1 hs) ?_ ?_
              · rintro i z G3 G4 hi ⟨sg3, hDl⟩ ⟨rfl, hz⟩
                rw [List.getElem?_map] at hz
                obtain ⟨y, hy, rfl⟩ : ∃ y, (ts.map (·.1))[i]? = some y ∧ V.str y = z := by
                  cases w0 : (ts.map (·.1))[i]? with
                  | none => rw [w0] at hz; cases hz
                  | some y => rw [w0] at hz; exact ⟨y, rfl, Option.some.inj hz⟩
                obtain ⟨o2, g2, e2⟩ := (hF2.keep (FmR.st K ins bf) sg3).rd.has y
                refine ⟨rfl, _, rfl, _, rfl, pb, o2, rfl, g2, _, hDl, ?_, same_upd sg3 nDl, ?_⟩
                · rw [List.length_map, List.length_map, List.length_take, List.length_map]
                  exact small1000 (by omega)
                · rw [upd_same, take_more hy, List.map_append, List.map_append, e2]
                  rfl
              · rintro G3 ⟨sg3, hDl⟩
                rw [List.length_map, List.take_length] at hDl
                refine ⟨Dl, _, rfl, SqL.of hDl, _, rfl, ?_⟩
                have hall : (((ts.map (·.1)).map fun y => decide (y ∈ F')).all id = true) ↔ ∀ y, (ff x).1.1 y ≠ 0 → y ∈ F' := by
                  rw [List.all_map, List.all_eq_true]
                  constructor
                  · intro h y hy
                    exact of_decide_eq_true (h y ((gt.not0 y).mpr (by rw [eg]; exact hy)))
                  · intro h y hy
                    exact decide_eq_true (h y (by rw [← eg]; exact (gt.not0 y).mp hy))
                have sgA := sg2.trans sg3
                refine ite2 (fun c2 => ?_) (fun c2 => ?_)
                · have hdr := hall.mp c2
                  obtain ⟨v2, gf2, ts2, c3, fv2, gt2, eg2, ec2, k2⟩ := (hf'.keep (FmR.st K ns ff) sgA).get hxk
                  obtain ⟨b1, b2, b3⟩ := B.form nd hx gt2 eg2 ec2
                  have bx := B.big x hxk
                  have hF3 := hF'.keep (FmR.st K ins bf) sgA
                  refine ⟨_, rfl, _, rfl, pf, v2, rfl, gf2, _, rfl, v2, pb, ins, ns, ts2, c3, (ff x).2, F', bf, rfl, fv2, gt2, k2, hns, hins, hF3, fun t ht => hdr t.1 (by rw [← eg2]; exact (gt2.not0 t.1).mp (List.mem_map.mpr ⟨t, ht, rfl⟩)), by omega, fun r5 G5 s5 f5 => ?_⟩
                  have hkb5 := s5 _ _ (sgA _ _ hkb')
                  have lkb' : kb'.length ≤ 60 := by
                    rw [hF'.len hkb']
                    exact Nat.le_trans (sub_len hF'.nd hFk') hks
                  refine ⟨_, rfl, _, rfl, pb, _, rfl, .inl ⟨kb', Sum.inr x, hkb5, rfl, small1000 (by omega), rfl⟩, ?_⟩
                  have hput := (hF3.keep (FmR.st K ins bf) s5).put (FmR.st K ins bf) hkb5 (x := x) (v := r5) (f5.eq b1 b2 b3) (fun _ _ _ h => h)
                  unfold addN at hput
                  rw [if_neg hxF] at hput
                  have sAll := sgA.trans s5
                  refine ⟨F' ++ [x], _, _, rfl, fun a u h ne => ?_, ?_, (hC.trans (TS.of sAll)).trans (TS.upd hkb5 rfl), hput, fun y hy => ?_, fun y hy => List.mem_append_left _ (hFF y hy), ?_, fun e => ?_, hT'.snoc hdr, stay _ (fun z h => List.mem_append_left _ h) (.inl (List.mem_append_right _ (List.mem_singleton.mpr rfl)))⟩
                  · rw [upd_ne (ne_of_none h hpb)]
                    exact sAll _ _ (hA a u h ne)
                  · rw [upd_ne bm_ne.symm]
                    exact sAll _ _ hB
                  · rcases List.mem_append.mp hy with q | q
                    · exact hFk' y q
                    · rw [List.mem_singleton.mp q]
                      exact hxk
                  · rw [List.length_append]
                    omega
                  · rw [List.length_append, List.length_singleton] at e
                    omega
                · refine ⟨F', _, _, rfl, fun a u h ne => sgA _ _ (hA a u h ne), sgA _ _ hB, hC.trans (TS.of sgA), hF'.keep (FmR.st K ins bf) sgA, hFk', hFF, lFF, eFF, hT', stay F' (fun z h => h) ?_⟩
                  by_cases ex : ∃ d, (ff x).1.1 d ≠ 0 ∧ d ∉ F
                  · exact .inr ex
                  · exact absurd (hall.mpr fun y hy => hFF y (by
                      by_cases q : y ∈ F
                      · exact q
                      · exact absurd ⟨y, hy, q⟩ ex)) c2
        · rintro τ G' ⟨F', o3, o4, rfl, hA, hB, hC, hF', hFk', hFF, lFF, eFF, hT', hp⟩
          rw [lm, List.take_length] at hp
          refine ⟨hB, ?_⟩
          have more : F.length < F'.length := by
            refine Nat.lt_of_le_of_ne lFF fun e => ?_
            obtain ⟨x, hx, hxF⟩ : ∃ x, x ∈ ks ∧ x ∉ F := by
              by_cases ex : ∃ x, x ∈ ks ∧ x ∉ F
              · exact ex
              · have z := sub_len (l := ks) (m := F) hf.nd fun x hx => by
                  by_cases q : x ∈ F
                  · exact q
                  · exact absurd ⟨x, hx, q⟩ ex
                omega
            exact found_more B hFi hp (rk x + 1) x (Nat.lt_succ_self _) hx hxF (eFF e.symm)
          refine ⟨_, by rw [hm]; omega, F', _, _, rfl, rfl, fun a u h => ?_, hF'.keepT (FmR.st K ins bf) (upd_ne bm_ne) (TS.upd hB rfl), hFk', fun x hx hxc => hFF x (hFi x hx hxc), hT'⟩
          by_cases e : a = pm
          · rw [e, hkm] at h
            rw [e, upd_same]
            exact h
          · rw [upd_ne e]
            exact hA a u h e
      · have hge : ks.length ≤ F.length := by
          by_cases z : F.length < ks.length
          · exact absurd (decide_eq_true (by omega)) c
          · omega
        exact ⟨_, rfl, q pb F G s3 hpb hF (fun x => ⟨hFk x, all_in hF.nd hFk hge x⟩) hT⟩
end

end Bs
namespace Bs
open PySem L2
/-! ### a sheet, as mathematics -/
def isF (r : Rw) : Bool := match r.2 with | .inp _ _ => false | .frm _ _ => true
def nsOf (rows : List Rw) : List Str := rows.map (·.1)
def csOf (rows : List Rw) : List Str := (rows.filter isF).map (·.1)
def insOf (rows : List Rw) : List Str := (rows.filter fun r => !isF r).map (·.1)
def zOf (rows : List Rw) (x : Str) : Int × Int := ((rows.find? fun r => decide (r.1 = x)).map fun r => match r.2 with | .inp _ z => z | .frm _ _ => (0, 1)).getD (0, 1)
def evS (ns : List Str) (g : Fq) (b : Str → Fq) : Fq := (fun y => (ns.map fun d => g.1 d * (b d).1 y).sum, g.2 + (ns.map fun d => g.1 d * (b d).2).sum)
def evQ (ns : List Str) (g : Fq) (z : Str → Rat) : Rat := g.2 + (ns.map fun y => g.1 y * z y).sum
structure ShOk (rows : List Rw) (rk bk : Str → Nat) (val : Str → Rat) (m : Nat) : Prop where
  nd : (nsOf rows).Nodup
  ok : ∀ r ∈ rows, RowOk (nsOf rows) r
  len : rows.length ≤ 60
  supp : ∀ r ∈ rows, ∀ l g, r.2 = .frm l g → ∀ y, g.1 y ≠ 0 → y ∈ nsOf rows ∧ rk y < rk r.1
  bits : ∀ r ∈ rows, ∀ l g, r.2 = .frm l g → (((nsOf rows).filter fun d => decide (g.1 d ≠ 0)).map fun d => 17 * l.length + bk d + 1).sum + 17 * l.length ≤ bk r.1
  one : ∀ r ∈ rows, isF r = false → 1 ≤ bk r.1
  big : ∀ r ∈ rows, bk r.1 ≤ 39999990
  sz : ∀ r ∈ rows, ∀ d z, r.2 = .inp d z → Sz m z
  tot : ∀ r ∈ rows, bk r.1 + (insOf rows).length * (bk r.1 + m + 1) ≤ 40000000
  vin : ∀ r ∈ rows, ∀ d z, r.2 = .inp d z → val r.1 = qv z
  vfr : ∀ r ∈ rows, ∀ l g, r.2 = .frm l g → val r.1 = evQ (nsOf rows) g val
theorem mem_ns {rows : List Rw} {x : Str} (h : x ∈ nsOf rows) : ∃ r ∈ rows, r.1 = x := List.mem_map.mp h
theorem mem_cs {rows : List Rw} {x : Str} (h : x ∈ csOf rows) : ∃ r ∈ rows, r.1 = x ∧ isF r = true := by
  obtain ⟨r, hr, e⟩ := List.mem_map.mp h
  have := List.mem_filter.mp hr
  exact ⟨r, this.1, e, this.2⟩
theorem nd_row {rows : List Rw} (nd : (nsOf rows).Nodup) {r q : Rw} (hr : r ∈ rows) (hq : q ∈ rows) (e : r.1 = q.1) : r = q := by
  have a := find_nd nd hr
  have b := find_nd nd hq
  rw [e, b] at a
  exact (Option.some.inj a).symm
theorem cs_iff {rows : List Rw} (nd : (nsOf rows).Nodup) {r : Rw} (hr : r ∈ rows) : r.1 ∈ csOf rows ↔ isF r = true := by
  constructor
  · intro h
    obtain ⟨q, hq, e, f⟩ := mem_cs h
    rw [← nd_row nd hq hr e]
    exact f
  · intro h
    exact List.mem_map.mpr ⟨r, List.mem_filter.mpr ⟨hr, h⟩, rfl⟩
theorem ins_iff {rows : List Rw} (nd : (nsOf rows).Nodup) {r : Rw} (hr : r ∈ rows) : r.1 ∈ insOf rows ↔ isF r = false := by
  constructor
  · intro h
    obtain ⟨q, hq, e⟩ := List.mem_map.mp h
    have f := List.mem_filter.mp hq
    rw [← nd_row nd f.1 hr e]
    simpa using f.2
  · intro h
    exact List.mem_map.mpr ⟨r, List.mem_filter.mpr ⟨hr, by simp [h]⟩, rfl⟩
theorem isF_frm {r : Rw} (h : isF r = true) : ∃ l g, r.2 = .frm l g := by
  obtain ⟨x, c⟩ := r
  cases c with
  | inp d z => cases h
  | frm l g => exact ⟨l, g, rfl⟩
theorem isF_inp {r : Rw} (h : isF r = false) : ∃ d z, r.2 = .inp d z := by
  obtain ⟨x, c⟩ := r
  cases c with
  | inp d z => exact ⟨d, z, rfl⟩
  | frm l g => cases h
theorem cellF_frm {r : Rw} {l : List Nat} {g : Fq} (h : r.2 = .frm l g) : cellF r = (g, 17 * l.length) := by
  unfold cellF
  rw [h]
theorem cellF_inp {r : Rw} {d : PyData} {z : Int × Int} (h : r.2 = .inp d z) : cellF r = (celQ r.1, 1) := by
  unfold cellF
  rw [h]
theorem zOf_mem {rows : List Rw} (nd : (nsOf rows).Nodup) {r : Rw} (hr : r ∈ rows) {d : PyData} {z : Int × Int} (h : r.2 = .inp d z) : zOf rows r.1 = z := by
  unfold zOf
  rw [find_nd nd hr]
  show (match r.2 with | .inp _ z => z | .frm _ _ => (0, 1)) = z
  rw [h]
def bq (rows : List Rw) : Nat → Str → Fq
  | 0, x => celQ x
  | n + 1, x => if x ∈ csOf rows then evS (nsOf rows) (fOf rows x).1 (bq rows n) else celQ x
theorem sum_eq {f g : Str → Rat} : ∀ {l : List Str}, (∀ x ∈ l, f x = g x) → (l.map f).sum = (l.map g).sum
  | [], _ => rfl
  | x :: l, h => by
    rw [List.map_cons, List.map_cons, List.sum_cons, List.sum_cons, h x (List.mem_cons_self ..), sum_eq fun y hy => h y (List.mem_cons_of_mem _ hy)]
theorem sum_zero' : ∀ (l : List Str), (l.map fun _ => (0 : Rat)).sum = 0
  | [] => rfl
  | x :: l => by
    rw [List.map_cons, List.sum_cons, sum_zero' l]
    grind
theorem sum_swap (f : Str → Str → Rat) : ∀ (l m : List Str), (l.map fun x => (m.map fun y => f x y).sum).sum = (m.map fun y => (l.map fun x => f x y).sum).sum
  | [], m => by
    simp only [List.map_nil, List.sum_nil]
    exact (sum_zero' m).symm
  | x :: l, m => by
    rw [List.map_cons, List.sum_cons, sum_swap f l m, ← sum_add]
    refine sum_eq fun y _ => ?_
    rw [List.map_cons, List.sum_cons]
theorem evQ_evS (ns ins : List Str) (g : Fq) (b : Str → Fq) (z : Str → Rat) : evQ ins (evS ns g b) z = evQ ns g (fun d => evQ ins (b d) z) := by
  unfold evQ evS
  have e : (ins.map fun y => (ns.map fun d => g.1 d * (b d).1 y).sum * z y).sum = (ns.map fun d => g.1 d * (ins.map fun y => (b d).1 y * z y).sum).sum := by
    have h1 : (ins.map fun y => (ns.map fun d => g.1 d * (b d).1 y).sum * z y).sum = (ins.map fun y => (ns.map fun d => g.1 d * ((b d).1 y * z y)).sum).sum := by
      refine sum_eq fun y _ => ?_
      have := sum_mul ns (z y) (fun d => g.1 d * (b d).1 y)
      rw [show (ns.map fun d => g.1 d * (b d).1 y).sum * z y = z y * (ns.map fun d => g.1 d * (b d).1 y).sum by grind, ← this]
      exact sum_eq fun d _ => by grind
    rw [h1, sum_swap (fun y d => g.1 d * ((b d).1 y * z y)) ins ns]
    exact sum_eq fun d _ => sum_mul ins (g.1 d) (fun y => (b d).1 y * z y)
  rw [e]
  have e2 : (ns.map fun d => g.1 d * ((b d).2 + (ins.map fun y => (b d).1 y * z y).sum)).sum = (ns.map fun d => g.1 d * (b d).2).sum + (ns.map fun d => g.1 d * (ins.map fun y => (b d).1 y * z y).sum).sum := by
    rw [← sum_add]
    exact sum_eq fun d _ => by grind
  rw [e2]
  grind
section
variable {rows : List Rw} {rk bk : Str → Nat} {val : Str → Rat} {m : Nat}
theorem ShOk.low (S : ShOk rows rk bk val m) {x : Str} (hx : x ∈ csOf rows) {y : Str} (hy : (fOf rows x).1.1 y ≠ 0) : y ∈ nsOf rows ∧ rk y < rk x := by
  obtain ⟨r, hr, rfl, hf⟩ := mem_cs hx
  obtain ⟨l, g, e⟩ := isF_frm hf
  rw [fOf_mem S.nd hr, cellF_frm e] at hy
  exact S.supp r hr l g e y hy
/-- far enough, nothing changes -/
theorem ShOk.fix (S : ShOk rows rk bk val m) : ∀ (n : Nat) (x : Str), rk x < n → (∀ y, (bq rows n x).1 y = (bq rows (n + 1) x).1 y) ∧ (bq rows n x).2 = (bq rows (n + 1) x).2
  | 0, _, h => absurd h (Nat.not_lt_zero _)
  | n + 1, x, h => by
    by_cases hx : x ∈ csOf rows
    · have key : ∀ d, (fOf rows x).1.1 d ≠ 0 → (∀ y, (bq rows n d).1 y = (bq rows (n + 1) d).1 y) ∧ (bq rows n d).2 = (bq rows (n + 1) d).2 := fun d hd => by
        have := (S.low hx hd).2
        exact S.fix n d (by omega)
      have e1 : bq rows (n + 1) x = evS (nsOf rows) (fOf rows x).1 (bq rows n) := if_pos hx
      have e2 : bq rows (n + 1 + 1) x = evS (nsOf rows) (fOf rows x).1 (bq rows (n + 1)) := if_pos hx
      rw [e1, e2]
      refine ⟨fun y => sum_eq fun d _ => ?_, ?_⟩
      · by_cases hd : (fOf rows x).1.1 d = 0
        · rw [hd]
          grind
        · rw [(key d hd).1 y]
      · show _ + _ = _ + _
        congr 1
        refine sum_eq fun d _ => ?_
        by_cases hd : (fOf rows x).1.1 d = 0
        · rw [hd]
          grind
        · rw [(key d hd).2]
    · have e1 : bq rows (n + 1) x = celQ x := if_neg hx
      have e2 : bq rows (n + 1 + 1) x = celQ x := if_neg hx
      rw [e1, e2]
      exact ⟨fun _ => rfl, rfl⟩
theorem ShOk.bins (S : ShOk rows rk bk val m) : ∀ (n : Nat) (x : Str), rk x < n → x ∈ nsOf rows → ∀ y, (bq rows n x).1 y ≠ 0 → y ∈ insOf rows
  | 0, _, h, _, _, _ => absurd h (Nat.not_lt_zero _)
  | n + 1, x, h, hx, y, hy => by
    by_cases hc : x ∈ csOf rows
    · have e1 : bq rows (n + 1) x = evS (nsOf rows) (fOf rows x).1 (bq rows n) := if_pos hc
      rw [e1] at hy
      by_cases ex : ∃ d, (fOf rows x).1.1 d ≠ 0 ∧ (bq rows n d).1 y ≠ 0
      · obtain ⟨d, h1, h2⟩ := ex
        have lo := S.low hc h1
        exact S.bins n d (by omega) lo.1 y h2
      · refine absurd ?_ hy
        show ((nsOf rows).map fun d => (fOf rows x).1.1 d * (bq rows n d).1 y).sum = 0
        rw [← sum_zero' (nsOf rows)]
        refine sum_eq fun d _ => ?_
        by_cases h1 : (fOf rows x).1.1 d = 0
        · rw [h1]
          grind
        · by_cases h2 : (bq rows n d).1 y = 0
          · rw [h2]
            grind
          · exact absurd ⟨d, h1, h2⟩ ex
    · have e1 : bq rows (n + 1) x = celQ x := if_neg hc
      rw [e1] at hy
      have e : x = y := by
        by_cases e : x = y
        · exact e
        · exact absurd (if_neg e) hy
      subst e
      obtain ⟨r, hr, rfl⟩ := mem_ns hx
      refine (ins_iff S.nd hr).mpr ?_
      cases z : isF r with
      | false => rfl
      | true => exact absurd ((cs_iff S.nd hr).mpr z) hc
theorem sum_one {l : List Str} (nd : l.Nodup) {x : Str} (hx : x ∈ l) (f : Str → Rat) : (l.map fun y => (if x = y then 1 else 0) * f y).sum = f x := by
  have h := sum_at nd hx (f x) (fun _ => 0)
  have e : (l.map fun y => (if x = y then 1 else 0) * f y).sum = (l.map fun y => if x = y then f x else 0).sum := sum_eq fun y _ => by
    by_cases e : x = y
    · rw [if_pos e, if_pos e, e]
      grind
    · rw [if_neg e, if_neg e]
      grind
  rw [e, h]
  have z : (l.map fun y => if x = y then (0 : Rat) else 0).sum = 0 := by
    refine Eq.trans (sum_eq (g := fun _ => (0 : Rat)) fun y _ => ?_) (sum_zero' l)
    split <;> rfl
  rw [z]
  grind
theorem ShOk.ndI (S : ShOk rows rk bk val m) : (insOf rows).Nodup := S.nd.sublist (List.Sublist.map _ List.filter_sublist)
theorem ShOk.ndC (S : ShOk rows rk bk val m) : (csOf rows).Nodup := S.nd.sublist (List.Sublist.map _ List.filter_sublist)
theorem ShOk.bval (S : ShOk rows rk bk val m) : ∀ (n : Nat) (x : Str), rk x < n → x ∈ nsOf rows → evQ (insOf rows) (bq rows n x) (fun y => qv (zOf rows y)) = val x
  | 0, _, h, _ => absurd h (Nat.not_lt_zero _)
  | n + 1, x, h, hx => by
    obtain ⟨r, hr, rfl⟩ := mem_ns hx
    cases hf : isF r with
    | false =>
      obtain ⟨d, z, e⟩ := isF_inp hf
      have hc : r.1 ∉ csOf rows := fun q => by rw [(cs_iff S.nd hr).mp q] at hf; cases hf
      have e1 : bq rows (n + 1) r.1 = celQ r.1 := if_neg hc
      rw [e1, S.vin r hr d z e]
      show (0 : Rat) + ((insOf rows).map fun y => (if r.1 = y then 1 else 0) * qv (zOf rows y)).sum = _
      rw [sum_one S.ndI ((ins_iff S.nd hr).mpr hf) (fun y => qv (zOf rows y)), zOf_mem S.nd hr e]
      grind
    | true =>
      obtain ⟨l, g, e⟩ := isF_frm hf
      have hc := (cs_iff S.nd hr).mpr hf
      have e1 : bq rows (n + 1) r.1 = evS (nsOf rows) (fOf rows r.1).1 (bq rows n) := if_pos hc
      rw [e1, evQ_evS, S.vfr r hr l g e, fOf_mem S.nd hr, cellF_frm e]
      show _ + _ = _ + _
      congr 1
      refine sum_eq fun d _ => ?_
      by_cases hd : g.1 d = 0
      · rw [hd]
        grind
      · have lo := S.supp r hr l g e d hd
        show g.1 d * evQ (insOf rows) (bq rows n d) (fun y => qv (zOf rows y)) = _
        rw [S.bval n d (by omega) lo.1]
end
def topR (rk : Str → Nat) : List Str → Nat
  | [] => 0
  | x :: l => max (rk x + 1) (topR rk l)
theorem lt_topR {rk : Str → Nat} : ∀ {l : List Str} {x : Str}, x ∈ l → rk x < topR rk l
  | y :: l, x, h => by
    show rk x < max (rk y + 1) (topR rk l)
    rcases List.mem_cons.mp h with e | e
    · rw [e]
      omega
    · have := lt_topR (rk := rk) e
      omega
/-- the forms by inputs, with their bits -/
def bfOf (rows : List Rw) (rk bk : Str → Nat) (x : Str) : Fq × Nat := (bq rows (topR rk (nsOf rows)) x, bk x)
theorem ShOk.byIn {rows : List Rw} {rk bk : Str → Nat} {val : Str → Rat} {m : Nat} (S : ShOk rows rk bk val m) : ByIn (nsOf rows) (nsOf rows) (csOf rows) (insOf rows) (fOf rows) (bfOf rows rk bk) rk where
  sub := fun x hx => by
    obtain ⟨r, hr, rfl, _⟩ := mem_cs hx
    exact List.mem_map.mpr ⟨r, hr, rfl⟩
  inp := fun x hx hc => by
    obtain ⟨r, hr, rfl⟩ := mem_ns hx
    have hf : isF r = false := by
      cases z : isF r with
      | false => rfl
      | true => exact absurd ((cs_iff S.nd hr).mpr z) hc
    obtain ⟨d, z, e⟩ := isF_inp hf
    have t := lt_topR (rk := rk) hx
    obtain ⟨m, em⟩ : ∃ m, topR rk (nsOf rows) = m + 1 := ⟨topR rk (nsOf rows) - 1, by omega⟩
    have e1 : bq rows (m + 1) r.1 = celQ r.1 := if_neg hc
    unfold bfOf
    rw [em, e1, fOf_mem S.nd hr, cellF_inp e]
    exact ⟨fun _ => rfl, rfl, S.one r hr hf⟩
  frm1 := fun x hx y => by
    have lx : rk x < topR rk (nsOf rows) := lt_topR (by obtain ⟨r, hr, rfl, _⟩ := mem_cs hx; exact List.mem_map.mpr ⟨r, hr, rfl⟩)
    show (bq rows (topR rk (nsOf rows)) x).1 y = _
    rw [(S.fix _ x lx).1 y]
    have e2 : bq rows (topR rk (nsOf rows) + 1) x = evS (nsOf rows) (fOf rows x).1 (bq rows (topR rk (nsOf rows))) := if_pos hx
    rw [e2]
    rfl
  frm2 := fun x hx => by
    have lx : rk x < topR rk (nsOf rows) := lt_topR (by obtain ⟨r, hr, rfl, _⟩ := mem_cs hx; exact List.mem_map.mpr ⟨r, hr, rfl⟩)
    show (bq rows (topR rk (nsOf rows)) x).2 = _
    rw [(S.fix _ x lx).2]
    have e2 : bq rows (topR rk (nsOf rows) + 1) x = evS (nsOf rows) (fOf rows x).1 (bq rows (topR rk (nsOf rows))) := if_pos hx
    rw [e2]
    rfl
  bits := fun x hx => by
    obtain ⟨r, hr, rfl, hf⟩ := mem_cs hx
    obtain ⟨l, g, e⟩ := isF_frm hf
    rw [fOf_mem S.nd hr, cellF_frm e]
    exact S.bits r hr l g e
  big := fun x hx => by
    obtain ⟨r, hr, rfl⟩ := mem_ns hx
    exact S.big r hr
  ins := fun x hx y hy => S.bins _ x (lt_topR hx) hx y hy
  rank := fun x hx y hy => S.low hx hy
theorem ShOk.value {rows : List Rw} {rk bk : Str → Nat} {val : Str → Rat} {m : Nat} (S : ShOk rows rk bk val m) {x : Str} (hx : x ∈ nsOf rows) : evQ (insOf rows) (bfOf rows rk bk x).1 (fun y => qv (zOf rows y)) = val x := S.bval _ x (lt_topR hx) hx
/-- no cell leads back to itself -/
theorem ShOk.nocirc {rows : List Rw} {rk bk : Str → Nat} {val : Str → Rat} {m : Nat} (S : ShOk rows rk bk val m) (x : Str) : ¬ Relation.TransGen (stepF (csOf rows) (fOf rows)) x x := fun t => by
  have key : ∀ y, Relation.TransGen (stepF (csOf rows) (fOf rows)) x y → rk y < rk x := fun y t => by
    induction t with
    | single s => exact (S.low s.1 s.2).2
    | tail _ s ih =>
      have := (S.low s.1 s.2).2
      omega
  exact Nat.lt_irrefl _ (key x t)

end Bs
namespace Bs
open PySem L2
/-! ### the class of sheets -/
structure Shc (K : PySem.W.Frag) (C : Addr) : Prop where
  c : Cls K C
  n1 : NoAttr K C "_rows"
  n2 : NoAttr K C "_forms"
  n3 : NoAttr K C "_by_inputs"
  n4 : NoAttr K C "_table"
abbrev shA (pr pf : Addr) (rest : List (Str × V)) : List (Str × V) := ("_rows", .ref pr) :: ("_forms", .ref pf) :: rest
def spCompN (K : PySem.W.Frag) (C : Addr) (names : List Rw → List Str) : Sp := fun vs H Q _ => ∃ (o dx pr pf : Addr) (rest : List (Str × V)) (rows : List Rw), vs = [.ref o] ∧ H o = some (.ins C dx (shA pr pf rest)) ∧ Dp K H (.ref pr) (.tuple (rows.map rowOut)) ∧ rows.length ≤ 60 ∧
  ∀ p H', Same H H' → NdT H' p ((names rows).map V.str) → Q (.ref p) H'
def spCheckN (K : PySem.W.Frag) (C Cu : Addr) : Sp := fun vs H Q E => ∃ (o dx pr pf : Addr) (rest : List (Str × V)) (R : Hp → V → Str → Prop) (ks : List Str) (x : Str), vs = [.ref o, .str x] ∧ H o = some (.ins C dx (shA pr pf rest)) ∧ DX R H pf ks ∧
  (x ∈ ks → Q .non H) ∧ (x ∉ ks → ∀ xd H', Same H H' → H' xd = some (.xd [("name", .str x)]) → E (.ref Cu) (some xd) H')
def spFBI (K : PySem.W.Frag) (C Cu : Addr) : Sp := fun vs H Q E => ∃ (o dx pr pf pb : Addr) (rest : List (Str × V)) (R S : Hp → V → Str → Prop) (ks ord : List Str) (x : Str), vs = [.ref o, .str x] ∧ H o = some (.ins C dx (shA pr pf (("_by_inputs", .ref pb) :: rest))) ∧ rest.lookup (Str.ofString "check_name") = none ∧
  DX R H pf ks ∧ DX S H pb ord ∧ (∀ y, y ∈ ord ↔ y ∈ ks) ∧ (x ∈ ks → ∀ v, S H v x → Q v H) ∧ (x ∉ ks → ∀ xd H', Same H H' → H' xd = some (.xd [("name", .str x)]) → E (.ref Cu) (some xd) H')
theorem rowOut_frm (r : Rw) : ∃ kd c, rowOut r = .tuple [.str r.1, .str kd, c] ∧ decide (V.str kd = V.str (Str.ofString "formula")) = isF r := by
  obtain ⟨x, c⟩ := r
  cases c with
  | inp d z => exact ⟨"input", numD z, rfl, show decide (V.str (Str.ofString "input") = V.str (Str.ofString "formula")) = false from by decide +kernel⟩
  | frm l g => exact ⟨"formula", .str (SX.S l), rfl, show decide (V.str (Str.ofString "formula") = V.str (Str.ofString "formula")) = true from by decide +kernel⟩
section
variable {P : Program} {w : World} {K : PySem.W.Frag} {mg : Str → Option Value} {base : Heap}
theorem ok_computed_names {C : Addr} (T : Bt mg) (S : Shc K C) (D : Dm K C "computed_names" "Sheet.computed_names" s_Sheet_computed_names ["self"]) : KnM P w K mg base CX0 C "computed_names" 33 ["self"] (spCompN K C csOf) := by
  obtain ⟨f, fd, F, hm, hb⟩ := D
  refine ⟨f, fd, F.ok sc_Sheet_computed_names (fun vs H Q E h => ?_) (fun cdv A outer s H vs Q E hr h => ?_), hm, hb⟩
  · obtain ⟨o, dx, pr, pf, rest, rows, rfl, _⟩ := h
    rfl
  · obtain ⟨o, dx, pr, pf, rest, rows, rfl, ho, hrows, hl, q⟩ := h
    refine ⟨_, (pss_one (ps_ret (pe_callTy (call_tupF rfl) (by rfl) T.n_tuple (by decide +kernel) (pa_cons (pe_lc (own := [("name", 1), ("kind", 2), ("_", 3)]) rfl sc_Sheet_computed_names.nd (pi_tup (pe_fld (pv 0) rfl)) (blkOk_by (N := ["self", "name", "kind", "_"]) (sc := defScope s_Sheet_computed_names) (by decide +kernel)) (fun _ _ _ _ _ => (pg_tupK (K := K) (n := 3) rfl (by rfl) (pgs_cons (pg_name (i := 1) sc_Sheet_computed_names.nd rfl (Or.inl rfl)) (pgs_cons (pg_name (i := 2) sc_Sheet_computed_names.nd rfl (Or.inl rfl)) (pgs_cons (pg_name (i := 3) sc_Sheet_computed_names.nd rfl (Or.inl rfl)) pgs_nil))) (by rfl) (by rfl))) (fun _ _ _ _ _ => (pts_one (pt_cmpR op_eq (pv 2) pe_str (nomark _)))) (fun _ _ _ _ _ => (pv 1))) pa_nil)))), ?_⟩
    cases hrows with
    | @tup _ xs _ hs ha =>
      have lx := dps_len ha
      rw [List.length_map] at lx
      refine ⟨_, rfl, o, C, dx, _, .ref pr, rfl, ho, S.c, S.n1, rfl, pr, rfl, ⟨_, hs⟩, fun D nD => ?_⟩
      refine lc_it (walk_tup (K := K) (a := pr) (xs := xs)) (fun i G => Same H G ∧ G D = some (.lst ((csOf (rows.take i)).map V.str))) ⟨same_new nD _, upd_same⟩ (fun i G _ h => same_seqT h.1 hs) ?_ ?_
      · rintro i x G G' hi ⟨s1, hD⟩ ⟨rfl, hx⟩
        obtain ⟨dt, hdt, hdx⟩ := dps_get ha hx
        rw [List.getElem?_map] at hdt
        obtain ⟨r, hr, rfl⟩ : ∃ r, rows[i]? = some r ∧ rowOut r = dt := by
          cases z : rows[i]? with
          | none => rw [z] at hdt; cases hdt
          | some r => rw [z] at hdt; exact ⟨r, rfl, Option.some.inj hdt⟩
        obtain ⟨kd, c, er, ek⟩ := rowOut_frm r
        have hdx := dp_same s1 _ _ hdx
        rw [er] at hdx
        have etk := take_more hr
        cases hdx with
        | @tup ax xs3 _ hs3 ha3 =>
          cases ha3 with
          | cons h1 ha3 =>
            cases ha3 with
            | cons h2 ha3 =>
              cases ha3 with
              | @cons x3 _ _ _ h3 ha3 =>
                cases ha3
                cases h1
                cases h2
                refine ⟨ax, _, rfl, hs3, rfl, _, _, rfl, _, _, rfl, _, _, rfl, rfl, rfl, ?_⟩
                have few : (csOf (rows.take i)).length ≤ 60 := by
                  show (((rows.take i).filter isF).map (·.1)).length ≤ 60
                  rw [List.length_map]
                  refine Nat.le_trans (List.length_filter_le _ _) ?_
                  rw [List.length_take]
                  omega
                refine ⟨_, rfl, rfl, _, rfl, ?_⟩
                rw [ek]
                cases ef : isF r with
                | true =>
                  refine iteT ⟨_, rfl, _, hD, by rw [List.length_map]; exact small1000 (by omega), same_upd s1 nD, ?_⟩
                  rw [upd_same, etk]
                  unfold csOf
                  rw [List.filter_append, List.filter_cons_of_pos (by rw [ef]), List.filter_nil, List.map_append, List.map_append]
                  rfl
                | false =>
                  refine iteF ⟨s1, ?_⟩
                  rw [etk]
                  unfold csOf
                  rw [List.filter_append, List.filter_cons_of_neg (by rw [ef]; exact Bool.false_ne_true), List.filter_nil, List.append_nil]
                  exact hD
      · rintro G ⟨s1, hD⟩
        rw [lx, List.take_length] at hD
        refine ⟨D, _, rfl, SqL.of hD, fun p ob np no => q p _ (s1.trans (same_new np _)) ⟨ob, upd_same, no⟩⟩
theorem ok_cell_names {C : Addr} (T : Bt mg) (S : Shc K C) (D : Dm K C "cell_names" "Sheet.cell_names" s_Sheet_cell_names ["self"]) : KnM P w K mg base CX0 C "cell_names" 33 ["self"] (spCompN K C nsOf) := by
  obtain ⟨f, fd, F, hm, hb⟩ := D
  refine ⟨f, fd, F.ok sc_Sheet_cell_names (fun vs H Q E h => ?_) (fun cdv A outer s H vs Q E hr h => ?_), hm, hb⟩
  · obtain ⟨o, dx, pr, pf, rest, rows, rfl, _⟩ := h
    rfl
  · obtain ⟨o, dx, pr, pf, rest, rows, rfl, ho, hrows, hl, q⟩ := h
    refine ⟨_, (pss_one (ps_ret (pe_callTy (call_tupF rfl) (by rfl) T.n_tuple (by decide +kernel) (pa_cons (pe_lc (own := [("name", 1), ("_", 2), ("_", 2)]) rfl sc_Sheet_cell_names.nd (pi_tup (pe_fld (pv 0) rfl)) (blkOk_by (N := ["self", "name", "_"]) (sc := defScope s_Sheet_cell_names) (by decide +kernel)) (fun _ _ _ _ _ => (pg_tupK (K := K) (n := 3) rfl (by rfl) (pgs_cons (pg_name (i := 1) sc_Sheet_cell_names.nd rfl (Or.inl rfl)) (pgs_cons (pg_name (i := 2) sc_Sheet_cell_names.nd rfl (Or.inl rfl)) (pgs_cons (pg_name (i := 2) sc_Sheet_cell_names.nd rfl (Or.inl rfl)) pgs_nil))) (by rfl) (by rfl))) (fun _ _ _ _ _ => pts_nil) (fun _ _ _ _ _ => (pv 1))) pa_nil)))), ?_⟩
    cases hrows with
    | @tup _ xs _ hs ha =>
      have lx := dps_len ha
      rw [List.length_map] at lx
      refine ⟨_, rfl, o, C, dx, _, .ref pr, rfl, ho, S.c, S.n1, rfl, pr, rfl, ⟨_, hs⟩, fun D nD => ?_⟩
      refine lc_it (walk_tup (K := K) (a := pr) (xs := xs)) (fun i G => Same H G ∧ G D = some (.lst ((nsOf (rows.take i)).map V.str))) ⟨same_new nD _, upd_same⟩ (fun i G _ h => same_seqT h.1 hs) ?_ ?_
      · rintro i x G G' hi ⟨s1, hD⟩ ⟨rfl, hx⟩
        obtain ⟨dt, hdt, hdx⟩ := dps_get ha hx
        rw [List.getElem?_map] at hdt
        obtain ⟨r, hr, rfl⟩ : ∃ r, rows[i]? = some r ∧ rowOut r = dt := by
          cases z : rows[i]? with
          | none => rw [z] at hdt; cases hdt
          | some r => rw [z] at hdt; exact ⟨r, rfl, Option.some.inj hdt⟩
        obtain ⟨kd, c, er, ek⟩ := rowOut_frm r
        have hdx := dp_same s1 _ _ hdx
        rw [er] at hdx
        have etk := take_more hr
        cases hdx with
        | @tup ax xs3 _ hs3 ha3 =>
          cases ha3 with
          | cons h1 ha3 =>
            cases ha3 with
            | cons h2 ha3 =>
              cases ha3 with
              | @cons x3 _ _ _ h3 ha3 =>
                cases ha3
                cases h1
                cases h2
                refine ⟨ax, _, rfl, hs3, rfl, _, _, rfl, _, _, rfl, _, _, rfl, rfl, rfl, ?_⟩
                refine ⟨_, rfl, _, hD, ?_, same_upd s1 nD, ?_⟩
                · unfold nsOf
                  rw [List.length_map, List.length_map, List.length_take]
                  exact small1000 (by omega)
                · rw [upd_same, etk]
                  unfold nsOf
                  rw [List.map_append, List.map_append]
                  rfl
      · rintro G ⟨s1, hD⟩
        rw [lx, List.take_length] at hD
        refine ⟨D, _, rfl, SqL.of hD, fun p ob np no => q p _ (s1.trans (same_new np _)) ⟨ob, upd_same, no⟩⟩
theorem ok_check_name {C Cu : Addr} (S : Shc K C) (Ti : ErrF P w K mg base "UnknownCell" "name" Cu) (D : Dm K C "check_name" "Sheet.check_name" s_Sheet_check_name ["self", "name"]) : KnM P w K mg base (L2.CX P w) C "check_name" 34 ["self", "name"] (spCheckN K C Cu) := by
  obtain ⟨f, fd, F, hm, hb⟩ := D
  obtain ⟨fI, fdI, iC, tI, F1, b1⟩ := Ti.ini
  refine ⟨f, fd, F.okX sc_Sheet_check_name (fun vs H Q E h => ?_) (fun cdv A outer s H vs Q E hr h => ?_), hm, hb⟩
  · obtain ⟨o, dx, pr, pf, rest, R, ks, x, rfl, _⟩ := h
    rfl
  · obtain ⟨o, dx, pr, pf, rest, R, ks, x, rfl, ho, hf, q1, q2⟩ := h
    refine ⟨_, (pss_one (ps_if (pt_cmpR (op_notInDict (hu_of hr)) (pv 1) (pe_fld (pv 0) rfl) (by rfl)) (pss_one (ps_raise rfl (takes_of rfl rfl rfl rfl) (pmk_oex Ti.ox iC tI F1 (hr.mono (by omega)) b1 .nil pass0 rfl Ti.gC (pa_cons (pv 1) pa_nil)))) pss_nil)), ?_⟩
    obtain ⟨ob, g, e⟩ := hf.rd.has x
    refine ⟨_, rfl, _, rfl, o, C, dx, _, .ref pf, rfl, ho, S.c, S.n2, rfl, pf, ob, rfl, g, _, rfl, ?_⟩
    rw [e]
    by_cases hx : x ∈ ks
    · rw [decide_eq_true hx]
      exact iteF (q1 hx)
    · rw [decide_eq_false hx]
      refine iteT ?_
      refine ⟨_, rfl, (by show 1 ≤ 1000; decide), fun ea na => ?_⟩
      refine ⟨ea, _, rfl, upd_same, fun xd hdx nx => ⟨rfl, xd, [("name", .str x)], upd_same, ?_, ?_, ?_⟩⟩
      · rw [upd_ne nx, upd_same]
      · rw [upd_ne nx] at hdx
        exact hdx
      · rw [upd_ne nx] at hdx
        exact q2 hx xd _ (raised_same na hdx nx) upd_same
theorem ok_form_by_inputs {C Cu : Addr} (S : Shc K C) (GC : KnM P w K mg base (L2.CX P w) C "check_name" 34 ["self", "name"] (spCheckN K C Cu)) (D : Dm K C "form_by_inputs" "Sheet.form_by_inputs" s_Sheet_form_by_inputs ["self", "name"]) :
    KnM P w K mg base (L2.CX P w) C "form_by_inputs" 35 ["self", "name"] (spFBI K C Cu) := by
  obtain ⟨f, fd, F, hm, hb⟩ := D
  obtain ⟨f_c, fd_c, G_Sheet_check_name, h_Sheet_check_name, b_Sheet_check_name⟩ := GC
  have c_Sheet := S.c
  refine ⟨f, fd, F.okX sc_Sheet_form_by_inputs (fun vs H Q E h => ?_) (fun cdv A outer s H vs Q E hr h => ?_), hm, hb⟩
  · obtain ⟨o, dx, pr, pf, pb, rest, R, S', ks, ord, x, rfl, _⟩ := h
    rfl
  · obtain ⟨o, dx, pr, pf, pb, rest, R, S', ks, ord, x, rfl, ho, hr0, hf, hb0, hord, q1, q2⟩ := h
    refine ⟨_, (pss_cons (ps_expr (pe_meth (pv 0) c_Sheet h_Sheet_check_name G_Sheet_check_name (hr.mono (by omega)) b_Sheet_check_name .nil (passes_call (takes_of rfl rfl rfl rfl) (fun _ _ _ _ h => h)) (pa_cons (pv 1) pa_nil)))
      (pss_one (ps_ret (pe_dget (hu_of hr) (pe_fld (pv 0) rfl) (pv 1) (fun _ _ => rfl))))), ?_⟩
    refine ⟨_, rfl, o, dx, _, rfl, ho, hr0, _, rfl, o, dx, pr, pf, _, R, ks, x, rfl, ho, hf, fun hx => ?_, q2⟩
    obtain ⟨v, g, hv⟩ := hb0.get ((hord x).mpr hx)
    exact ⟨_, rfl, o, C, dx, _, .ref pb, rfl, ho, S.c, S.n3, rfl, _, rfl, pb, v, rfl, g, q1 hx v hv⟩
end

end Bs
namespace Bs
open PySem L2
/-! ### the table of a sheet -/
def ratZ (r : Rat) : Int × Int := (r.num, (r.den : Int))
theorem red_ratZ (r : Rat) : Red (ratZ r) := ⟨by have := r.den_pos; show (0 : Int) < (r.den : Int); omega, by
  have := r.reduced
  show Int.gcd r.num (r.den : Int) = 1
  exact this⟩
theorem qv_ratZ (r : Rat) : qv (ratZ r) = r := by
  have h := Rat.num_divInt_den r
  unfold qv ratZ
  rw [Rat.divInt_eq_div] at h
  exact h
theorem ratZ_eq {z : Int × Int} (h : Red z) : ratZ (qv z) = z := qv_inj (red_ratZ _) h (qv_ratZ _)
def TabAt (K : PySem.W.Frag) (H : Hp) (t : Addr) (ns : List Str) (val : Str → Rat) : Prop := ∃ ps : List Addr, NdT H t (ps.map V.ref) ∧ All2 (fun p x => ∃ v, SqT K H p [.str x, v] ∧ Dp K H v (numD (ratZ (val x)))) ps ns
theorem TabAt.same {K : PySem.W.Frag} {H H' : Hp} {t : Addr} {ns : List Str} {val : Str → Rat} (h : TabAt K H t ns val) (s : Same H H') : TabAt K H' t ns val := by
  obtain ⟨ps, h1, h2⟩ := h
  exact ⟨ps, h1.same s, h2.imp fun p x ⟨v, a, b⟩ => ⟨v, same_seqT s a, dp_same s _ _ b⟩⟩
theorem All2.take_snoc {α β : Type} {R : α → β → Prop} {as : List α} {bs : List β} {i : Nat} {a : α} {b : β} (h : All2 R as (bs.take i)) (hb : bs[i]? = some b) (r : R a b) : All2 R (as ++ [a]) (bs.take (i + 1)) := by
  rw [take_more hb]
  exact h.snoc r
theorem ValsAt.same {K : PySem.W.Frag} {H H' : Hp} {t : Addr} {ks : List Str} {zf : Str → Int × Int} (h : ValsAt K H t ks zf) (s : Same H H') : ValsAt K H' t ks zf := by
  obtain ⟨ps, kvs, h1, h2, h3, h4, h5⟩ := h
  refine ⟨ps, kvs, h1.imp (Same.seq s) (NdT.same · s), Paired.mono (fun _ _ q => same_seqT s q) h2, h3, h4, fun x hx => ?_⟩
  obtain ⟨v, e, hv⟩ := h5 x hx
  exact ⟨v, e, hv.same s⟩
theorem sq_tps {K : PySem.W.Frag} {H : Hp} {a : Addr} {xs : List V} (h : SqT K H a xs) : SqT K (tps H) a xs := by
  rcases h with (h | ⟨o, h⟩) | h
  · exact .inl (.inl (tps_at h rfl))
  · exact .inl (.inr ⟨o, tps_at h rfl⟩)
  · exact .inr h
def spFilled (K : PySem.W.Frag) (C : Addr) : Sp := fun vs H Q _ => ∃ (o dx pr pf pb t : Addr) (rest : List (Str × V)) (rows : List Rw) (rk bk : Str → Nat) (val : Str → Rat) (m : Nat) (ord : List Str), vs = [.ref o, .ref t] ∧
  H o = some (.ins C dx (shA pr pf (("_by_inputs", .ref pb) :: rest))) ∧ (∀ s ∈ ["check_name", "form_by_inputs", "cell_names"], rest.lookup (Str.ofString s) = none) ∧ ShOk rows rk bk val m ∧ Dp K H (.ref pr) (.tuple (rows.map rowOut)) ∧
  DX (FmR K (nsOf rows) (fOf rows)) H pf (nsOf rows) ∧ DX (FmR K (insOf rows) (bfOf rows rk bk)) H pb ord ∧ (∀ y, y ∈ ord ↔ y ∈ nsOf rows) ∧ ValsAt K H t (insOf rows) (zOf rows) ∧
  ∀ r H', Same H H' → TabAt K H' r (nsOf rows) val → Q (.ref r) H'
section
variable {P : Program} {w : World} {K : PySem.W.Frag} {mg : Str → Option Value} {base : Heap}
theorem ok_filled_table {C Cu Cv : Addr} (T : Bt mg) (S : Shc K C) (GC : KnM P w K mg base CX0 C "cell_names" 33 ["self"] (spCompN K C nsOf)) (GF : KnM P w K mg base (L2.CX P w) C "form_by_inputs" 35 ["self", "name"] (spFBI K C Cu))
    (GV : Kn P w K mg base (L2.CX P w) "value_at" 36 ["form", "values"] (spValueAt K Cv)) (D : Df K mg "filled_table" s_filled_table ["sheet", "numbers"]) : Kn P w K mg base CX0 "filled_table" 37 ["sheet", "numbers"] (spFilled K C) := by
  obtain ⟨f, fd, F, hm, hb⟩ := D
  obtain ⟨f_c, fd_c, G_Sheet_cell_names, h_Sheet_cell_names, b_Sheet_cell_names⟩ := GC
  obtain ⟨f_f, fd_f, G_Sheet_form_by_inputs, h_Sheet_form_by_inputs, b_Sheet_form_by_inputs⟩ := GF
  obtain ⟨f_value_at, fd_value_at, G_value_at, m_value_at, k_value_at, b_value_at⟩ := GV
  have c_Sheet := S.c
  refine ⟨f, fd, F.ok sc_filled_table (fun vs H Q E h => ?_) (fun cdv A outer s H vs Q E hr h => ?_), hm, F.kp, hb⟩
  · obtain ⟨o, dx, pr, pf, pb, t, rest, rows, rk, bk, val, m, ord, rfl, _⟩ := h
    rfl
  · obtain ⟨o, dx, pr, pf, pb, t, rest, rows, rk, bk, val, m, ord, rfl, ho, hrest, Sh, hrows, hf, hb0, hord, hv, q⟩ := h
    refine ⟨_, (pss_one (ps_ret (pe_callTy (call_tupF rfl) (by rfl) T.n_tuple (by decide +kernel) (pa_cons (pe_lc (own := [("name", 2)]) rfl sc_filled_table.nd (pi_tup (pe_meth0 (pv 0) c_Sheet h_Sheet_cell_names G_Sheet_cell_names (hr.mono (by omega)) b_Sheet_cell_names .nil pass0)) (blkOk_by (N := ["sheet", "numbers", "name"]) (sc := defScope s_filled_table) (by decide +kernel)) (fun _ _ _ _ _ => (pg_name (i := 2) sc_filled_table.nd rfl (Or.inl rfl))) (fun _ _ _ _ _ => pts_nil) (fun _ _ _ _ _ => (pe_tup (pa_cons (pv 2) (pa_cons (pe_call G_value_at (hr.mono (by omega)) rfl m_value_at k_value_at b_value_at .nil passL (pa_cons (pe_meth (pv 0) c_Sheet h_Sheet_form_by_inputs G_Sheet_form_by_inputs (hr.mono (by omega)) b_Sheet_form_by_inputs .nil passL (pa_cons (pv 2) pa_nil)) (pa_cons (pv 1) pa_nil))) pa_nil))))) pa_nil)))), ?_⟩
    have lns : (nsOf rows).length ≤ 60 := by
      unfold nsOf
      rw [List.length_map]
      exact Sh.len
    have lins : (insOf rows).length ≤ 60 := by
      refine Nat.le_trans (sub_len Sh.ndI fun x hx => ?_) lns
      obtain ⟨r, hr, rfl⟩ := List.mem_map.mp hx
      exact List.mem_map.mpr ⟨r, (List.mem_filter.mp hr).1, rfl⟩
    have hz : ∀ x ∈ insOf rows, Red (zOf rows x) ∧ Sz m (zOf rows x) := fun x hx => by
      obtain ⟨r, hr, rfl⟩ := List.mem_map.mp hx
      have hr := List.mem_filter.mp hr
      have hf : isF r = false := by simpa using hr.2
      obtain ⟨d, z, e⟩ := isF_inp hf
      rw [zOf_mem Sh.nd hr.1 e]
      exact ⟨numOf_red ((Sh.ok r hr.1).inp d z e), Sh.sz r hr.1 d z e⟩
    refine ⟨_, rfl, o, dx, _, rfl, ho, hrest "cell_names" (by simp), o, dx, pr, pf, _, rows, rfl, ho, hrows, Sh.len, fun p H1 s1 hp => ?_⟩
    refine ⟨p, rfl, ⟨_, hp.sq⟩, fun D nD => ?_⟩
    refine lc_it (walk_tup (K := K) (a := p) (xs := (nsOf rows).map V.str)) (fun i G => Same H1 G ∧ ∃ ps : List Addr, G D = some (.lst (ps.map V.ref)) ∧ All2 (fun p x => ∃ v, SqT K (tps G) p [.str x, v] ∧ Dp K (tps G) v (numD (ratZ (val x)))) ps ((nsOf rows).take i)) ⟨same_new nD _, [], upd_same, .nil⟩ (fun i G _ h => same_seqT h.1 hp.sq) ?_ ?_
    · rintro i x0 G G' hi ⟨s2, ps, hD, hps⟩ ⟨rfl, hx0⟩
      rw [List.getElem?_map] at hx0
      obtain ⟨x, hx, rfl⟩ : ∃ x, (nsOf rows)[i]? = some x ∧ V.str x = x0 := by
        cases z : (nsOf rows)[i]? with
        | none => rw [z] at hx0; cases hx0
        | some x => rw [z] at hx0; exact ⟨x, rfl, Option.some.inj hx0⟩
      have hxm := List.mem_of_getElem? hx
      have s12 := s1.trans s2
      refine ⟨rfl, _, rfl, _, rfl, o, dx, _, rfl, s12 _ _ ho, hrest "form_by_inputs" (by simp), _, rfl, o, dx, pr, pf, pb, rest, _, _, nsOf rows, ord, x, rfl, s12 _ _ ho, hrest "check_name" (by simp), hf.keep (FmR.st K _ _) s12, hb0.keep (FmR.st K _ _) s12, hord, fun _ v hvv => ?_, fun hn => absurd hxm hn⟩
      obtain ⟨ts, c, fa, gk, e1, e2, k1⟩ := hvv
      have hw := gk.worth Sh.ndI fun y hy => (hz y hy).1
      have wv : worthz (zOf rows) ts c = ratZ (val x) := by
        refine qv_inj hw.1 (red_ratZ _) ?_
        rw [hw.2, qv_ratZ, ← Sh.value hxm, e2]
        unfold evQ
        congr 1
        exact sum_eq fun y _ => by rw [e1 y]
      obtain ⟨r, hr, er⟩ := mem_ns hxm
      have tot := Sh.tot r hr
      rw [er] at tot
      have hvt : ValsAt K _ t (insOf rows) (zOf rows) := ValsAt.same hv s12
      refine ⟨_, rfl, v, t, insOf rows, bk x, m, ts, c, insOf rows, zOf rows, rfl, fa, gk, hvt, hz, tot, lins, fun _ rr G5 s5 hrr => ?_, fun j u hu _ hn => absurd (gk.names u (List.mem_of_getElem? hu)) hn⟩
      rw [wv] at hrr
      refine ⟨(by show 2 ≤ sizeLine; decide), fun pt npt => ?_⟩
      have s6 := same_new npt (.tup [.str x, rr])
      have s56 := s5.trans s6
      have hD6 := s56 _ _ hD
      have lps : ps.length ≤ 60 := by
        rw [hps.len, List.length_take]
        omega
      have t7 : TS (upd G5 pt (.tup [.str x, rr])) (upd (upd G5 pt (.tup [.str x, rr])) D (.lst (ps.map V.ref ++ [.ref pt]))) := TS.upd hD6 rfl
      refine ⟨_, hD6, by rw [List.length_map]; exact small1000 (by omega), same_upd (s2.trans s56) nD, ps ++ [pt], by rw [upd_same, List.map_append]; rfl, ?_⟩
      refine (hps.imp fun p y ⟨v, h1, h2⟩ => ⟨v, same_seqT ((TS.of s56).trans t7) h1, dp_same ((TS.of s56).trans t7) _ _ h2⟩).take_snoc hx ⟨rr, ?_, ?_⟩
      · exact same_seqT t7 (sq_tps (SqT.of upd_same))
      · exact dp_same ((TS.of s6).trans t7) _ _ (dp_tps _ _ rfl hrr)
    · rintro G ⟨s2, ps, hD, hps⟩
      rw [List.length_map, List.take_length] at hps
      refine ⟨D, _, rfl, SqL.of hD, fun p ob np no => ?_⟩
      have s3 := same_new np (.frz ob (.tup (ps.map V.ref)))
      exact q p _ (s1.trans (s2.trans s3)) ⟨ps, ⟨ob, upd_same, no⟩, hps.imp fun p y ⟨v, h1, h2⟩ => ⟨v, same_seqT ((tps_sub G).trans s3) h1, dp_same ((tps_sub G).trans s3) _ _ h2⟩⟩
end

end Bs
namespace Bs
open PySem L2
/-! ### a sheet made -/
structure ShR (K : PySem.W.Frag) (C o : Addr) (rows : List Rw) (rk bk : Str → Nat) (val : Str → Rat) (m : Nat) (H : Hp) : Prop where
  ok : ShOk rows rk bk val m
  at_ : ∃ dx pr pf pb pt ord, H o = some (.ins C dx (shA pr pf [("_by_inputs", .ref pb), ("_table", .ref pt)])) ∧ Dp K H (.ref pr) (.tuple (rows.map rowOut)) ∧ DX (FmR K (nsOf rows) (fOf rows)) H pf (nsOf rows) ∧
    DX (FmR K (insOf rows) (bfOf rows rk bk)) H pb ord ∧ (∀ y, y ∈ ord ↔ y ∈ nsOf rows) ∧ Topo (csOf rows) (fOf rows) ord ∧ TabAt K H pt (nsOf rows) val
theorem ShR.same {K : PySem.W.Frag} {C o : Addr} {rows : List Rw} {rk bk : Str → Nat} {val : Str → Rat} {m : Nat} {H H' : Hp} (h : ShR K C o rows rk bk val m H) (s : Same H H') : ShR K C o rows rk bk val m H' := by
  obtain ⟨ok, dx, pr, pf, pb, pt, ord, h1, h2, h3, h4, h5, h6, h7⟩ := h
  exact ⟨ok, dx, pr, pf, pb, pt, ord, s _ _ h1, dp_same s _ _ h2, h3.keep (FmR.st K _ _) s, h4.keep (FmR.st K _ _) s, h5, h6, h7.same s⟩
def spInitSh (K : PySem.W.Frag) (C : Addr) : Sp := fun vs H Q _ => ∃ (o dx a : Addr) (xs : List V) (rows : List Rw) (rk bk : Str → Nat) (val : Str → Rat) (m : Nat), vs = [.ref o, .ref a] ∧ H o = some (.ins C dx []) ∧ (SqL K H a xs ∨ SqT K H a xs) ∧ DpAll K H xs (rows.map rowIn) ∧ ShOk rows rk bk val m ∧
  ∀ H', (∀ b u, H b = some u → b ≠ o → H' b = some u) → ShR K C o rows rk bk val m H' → Q .non H'
def spValueOf (K : PySem.W.Frag) (C Cu : Addr) : Sp := fun vs H Q E => ∃ (o : Addr) (x : Str) (rows : List Rw) (rk bk : Str → Nat) (val : Str → Rat) (m : Nat), vs = [.ref o, .str x] ∧ ShR K C o rows rk bk val m H ∧
  (x ∈ nsOf rows → ∀ v H', Same H H' → Dp K H' v (numD (ratZ (val x))) → Q v H') ∧ (x ∉ nsOf rows → ∀ xd H', Same H H' → H' xd = some (.xd [("name", .str x)]) → E (.ref Cu) (some xd) H')
theorem NdT.ts {H H' : Hp} {a : Addr} {xs : List V} (h : NdT H a xs) (t : TS H H') : NdT H' a xs := by
  obtain ⟨o, h1, h2⟩ := h
  exact ⟨o, (tps_of (t _ _ (tps_at h1 rfl))).1, h2⟩
theorem dp_ts {K : PySem.W.Frag} {H H' : Hp} {v : V} {d : PyData} (t : TS H H') (n : noL d = true) (h : Dp K H v d) : Dp K H' v d := dp_same (tps_sub _) _ _ (dp_same t _ _ (dp_tps _ _ n h))
theorem TabAt.ts {K : PySem.W.Frag} {H H' : Hp} {t : Addr} {ns : List Str} {val : Str → Rat} (h : TabAt K H t ns val) (s : TS H H') : TabAt K H' t ns val := by
  obtain ⟨ps, h1, h2⟩ := h
  exact ⟨ps, h1.ts s, h2.imp fun p x ⟨v, a, b⟩ => ⟨v, sqt_ts s a, dp_ts s rfl b⟩⟩
theorem nL_rows : ∀ rows : List Rw, noL (.tuple (rows.map rowOut)) = true
  | [] => rfl
  | r :: rows => by
    show (noL (rowOut r) && noLs (rows.map rowOut)) = true
    rw [nL_rowOut, show noLs (rows.map rowOut) = true from nL_rows rows]
    rfl
/-- pairs of names and numbers -/
theorem vals_of {K : PySem.W.Frag} {H : Hp} {zf : Str → Int × Int} : ∀ {ps : List Addr} {ks : List Str}, All2 (fun p x => ∃ v, SqT K H p [.str x, v] ∧ Dp K H v (numD (zf x))) ps ks → ks.Nodup →
    ∃ kvs : List (Key × V), Paired (fun p kv => SqT K H p [kV kv.1, kv.2]) ps kvs ∧ kvs.map (·.1) = ks.map Sum.inr ∧ ∀ x ∈ ks, ∃ v, valV kvs (Sum.inr x) = some v ∧ Dp K H v (numD (zf x))
  | _, _, .nil, _ => ⟨[], .nil, rfl, fun x hx => by cases hx⟩
  | _, _, .cons (a := p) (b := x) ⟨v, h1, h2⟩ h, nd => by
    rw [List.nodup_cons] at nd
    obtain ⟨kvs, k1, k2, k3⟩ := vals_of h nd.2
    refine ⟨(Sum.inr x, v) :: kvs, .cons h1 k1, by rw [List.map_cons, List.map_cons, k2], fun y hy => ?_⟩
    by_cases e : y = x
    · subst e
      refine ⟨v, ?_, h2⟩
      unfold valV
      rw [List.find?_cons_of_pos (by exact decide_eq_true rfl)]
      rfl
    · obtain ⟨u, e1, e2⟩ := k3 y ((List.mem_cons.mp hy).resolve_left e)
      refine ⟨u, ?_, e2⟩
      unfold valV
      rw [List.find?_cons_of_neg (by
        rw [decide_eq_true_eq]
        intro z
        injection z with z
        exact e z.symm)]
      exact e1
theorem TabAt.vals {K : PySem.W.Frag} {H : Hp} {t : Addr} {ns : List Str} {val : Str → Rat} (h : TabAt K H t ns val) (nd : ns.Nodup) : ValsAt K H t ns (fun x => ratZ (val x)) := by
  obtain ⟨ps, h1, h2⟩ := h
  obtain ⟨kvs, k1, k2, k3⟩ := vals_of (zf := fun x => ratZ (val x)) h2 nd
  refine ⟨ps, kvs, .inr h1, k1, k2, nd, fun x hx => ?_⟩
  obtain ⟨v, e, hv⟩ := k3 x hx
  exact ⟨v, e, _, hv, numOf_rat (red_ratZ _)⟩
theorem ShOk.unk {rows : List Rw} {rk bk : Str → Nat} {val : Str → Rat} {m : Nat} (S : ShOk rows rk bk val m) {x : Str} (hx : x ∈ nsOf rows) {y : Str} (hy : (fOf rows x).1.1 y ≠ 0) : y ∈ nsOf rows := by
  by_cases hc : x ∈ csOf rows
  · exact (S.low hc hy).1
  · obtain ⟨r, hr, rfl⟩ := mem_ns hx
    have hf : isF r = false := by
      cases z : isF r with
      | false => rfl
      | true => exact absurd ((cs_iff S.nd hr).mpr z) hc
    obtain ⟨d, z, e⟩ := isF_inp hf
    rw [fOf_mem S.nd hr, cellF_inp e] at hy
    have : r.1 = y := by
      by_cases q : r.1 = y
      · exact q
      · exact absurd (if_neg q) hy
    rw [← this]
    exact hx
theorem rowOut_inp (r : Rw) : ∃ kd c, rowOut r = .tuple [.str r.1, .str kd, c] ∧ decide (V.str kd = V.str (Str.ofString "input")) = !isF r ∧ ∀ d z, r.2 = .inp d z → c = numD z := by
  obtain ⟨x, c⟩ := r
  cases c with
  | inp d z => exact ⟨"input", numD z, rfl, show decide (V.str (Str.ofString "input") = V.str (Str.ofString "input")) = true from by decide +kernel, fun d' z' e => by cases e; rfl⟩
  | frm l g => exact ⟨"formula", .str (SX.S l), rfl, show decide (V.str (Str.ofString "formula") = V.str (Str.ofString "input")) = false from by decide +kernel, fun d' z' e => by cases e⟩
section
variable {P : Program} {w : World} {K : PySem.W.Frag} {mg : Str → Option Value} {base : Heap}
theorem ok_init_good {C Cc : Addr} (T : Bt mg) (S : Shc K C) (GR : Kn P w K mg base CX0 "read_rows" 44 ["rows"] (spReadRows K)) (GN : KnM P w K mg base CX0 C "computed_names" 33 ["self"] (spCompN K C csOf))
    (GU : Kn P w K mg base (L2.CX P w) "check_unknown" 35 ["forms"] (spUnk K)) (GC : Kn P w K mg base (L2.CX P w) "check_circles" 36 ["formulas"] (spCircles K Cc)) (GB : Kn P w K mg base CX0 "forms_by_inputs" 39 ["forms", "formulas"] (spByIn K))
    (GT : Kn P w K mg base CX0 "filled_table" 37 ["sheet", "numbers"] (spFilled K C))
    {f : Addr} {fd : FuncData} {dv : List V} (F : FunD K "__init__" "Sheet.__init__" (defArgs s_Sheet_init) (defBody s_Sheet_init) (defScope s_Sheet_init) dv [] f fd) : FnOk P w K mg base CX0 45 f fd ["self", "rows"] (spInitSh K C) := by
  obtain ⟨f_read_rows, fd_read_rows, G_read_rows, m_read_rows, k_read_rows, b_read_rows⟩ := GR
  obtain ⟨f_n, fd_n, G_Sheet_computed_names, h_Sheet_computed_names, b_Sheet_computed_names⟩ := GN
  obtain ⟨f_check_unknown, fd_check_unknown, G_check_unknown, m_check_unknown, k_check_unknown, b_check_unknown⟩ := GU
  obtain ⟨f_check_circles, fd_check_circles, G_check_circles, m_check_circles, k_check_circles, b_check_circles⟩ := GC
  obtain ⟨f_forms_by_inputs, fd_forms_by_inputs, G_forms_by_inputs, m_forms_by_inputs, k_forms_by_inputs, b_forms_by_inputs⟩ := GB
  obtain ⟨f_filled_table, fd_filled_table, G_filled_table, m_filled_table, k_filled_table, b_filled_table⟩ := GT
  have c_Sheet := S.c
  refine F.ok sc_Sheet_init (fun vs H Q E h => ?_) (fun cdv A outer s H vs Q E hr h => ?_)
  · obtain ⟨o, dx, a, xs, rows, rk, bk, val, m, rfl, _⟩ := h
    rfl
  · obtain ⟨o, dx, a, xs, rows, rk, bk, val, m, rfl, ho, hs, hall, Sh, q⟩ := h
    refine ⟨_, (pss_cons (ps_asg (pe_call G_read_rows (hr.mono (by omega)) rfl m_read_rows k_read_rows b_read_rows .nil pass0 (pa_cons (pv 1) pa_nil)) (pg_tup (by rfl) (pgs_cons (pg_att (pv 0)) (pgs_cons (pg_att (pv 0)) pgs_nil))))
      (pss_cons (ps_setDc (i := 2) (own := [("name", 4)]) rfl sc_Sheet_init.nd rfl rfl (sw_trueD rfl rfl rfl (by decide +kernel)) (pi_tup (pe_meth0 (pv 0) c_Sheet h_Sheet_computed_names G_Sheet_computed_names (hr.mono (by omega)) b_Sheet_computed_names .nil pass0)) (blkOk_by (N := ["self", "rows", "formulas", "numbers", "name", "kind", "content"]) (sc := defScope s_Sheet_init) (by decide +kernel)) (fun _ _ _ _ _ => (pg_name (i := 4) sc_Sheet_init.nd rfl (Or.inl rfl))) (fun _ _ _ _ _ => pts_nil) (fun _ _ _ _ _ => (pv 4)) (fun _ _ _ _ _ => (pe_dget (hu_of hr) (pe_fldK (K := K) rfl (pv 0) rfl) (pv 4) (fun _ _ => rfl))))
      (pss_cons (ps_expr (pe_call G_check_unknown (hr.mono (by omega)) rfl m_check_unknown k_check_unknown b_check_unknown .nil passL (pa_cons (pe_fld (pv 0) rfl) pa_nil)))
      (pss_cons (ps_expr (pe_call G_check_circles (hr.mono (by omega)) rfl m_check_circles k_check_circles b_check_circles .nil passL (pa_cons (pv 2) pa_nil)))
      (pss_cons (ps_fld (pv 0) (pe_call G_forms_by_inputs (hr.mono (by omega)) rfl m_forms_by_inputs k_forms_by_inputs b_forms_by_inputs .nil pass0 (pa_cons (pe_fld (pv 0) rfl) (pa_cons (pv 2) pa_nil))) rfl)
      (pss_cons (ps_setLc (i := 3) (own := [("name", 4), ("kind", 5), ("content", 6)]) rfl sc_Sheet_init.nd rfl rfl (sw_true rfl rfl rfl (by decide +kernel)) (pi_tup (pe_fld (pv 0) rfl)) (blkOk_by (N := ["self", "rows", "formulas", "numbers", "name", "kind", "content"]) (sc := defScope s_Sheet_init) (by decide +kernel)) (fun _ _ _ _ _ => (pg_tupK (K := K) (n := 3) rfl (by rfl) (pgs_cons (pg_name (i := 4) sc_Sheet_init.nd rfl (Or.inl rfl)) (pgs_cons (pg_name (i := 5) sc_Sheet_init.nd rfl (Or.inl rfl)) (pgs_cons (pg_name (i := 6) sc_Sheet_init.nd rfl (Or.inl rfl)) pgs_nil))) (by rfl) (by rfl))) (fun _ _ _ _ _ => (pts_one (pt_cmpR op_eq (pv 5) pe_str (nomark _)))) (fun _ _ _ _ _ => (pe_tup (pa_cons (pv 4) (pa_cons (pv 6) pa_nil)))))
      (pss_one (ps_fld (pv 0) (pe_call G_filled_table (hr.mono (by omega)) rfl m_filled_table k_filled_table b_filled_table .nil pass0 (pa_cons (pv 0) (pa_cons (pv 3) pa_nil))) rfl)))))))), ?_⟩
    have lns : (nsOf rows).length ≤ 60 := by
      unfold nsOf
      rw [List.length_map]
      exact Sh.len
    have hstr : ∀ x ∈ nsOf rows, PyData.strOk x = true := fun x hx => by
      obtain ⟨r, hr, rfl⟩ := mem_ns hx
      exact name_ok (Sh.ok r hr).nm
    refine ⟨_, rfl, a, xs, rows, nsOf rows, rfl, hs, hall, Sh.nd, Sh.ok, Sh.len, lns, hstr, fun p pr pf H1 s1 hp hprows hpf npf => ?_⟩
    have ho1 := s1 _ _ ho
    refine ⟨p, _, rfl, SqT.of hp, rfl, _, _, rfl, _, rfl, o, C, dx, _, rfl, ho1, S.c, S.n1, (by show 0 < 1000; decide), ?_⟩
    refine ⟨_, _, rfl, _, rfl, o, C, dx, _, rfl, upd_same, S.c, S.n2, (by show 1 < 1000; decide), rfl, ?_⟩
    have opf : pf ≠ o := fun e => by rw [e, ho] at npf; cases npf
    have t2 : TS H1 (upd (upd H1 o (.ins C dx [("_rows", .ref pr)])) o (.ins C dx (shA pr pf []))) := (TS.upd ho1 rfl).trans (TS.upd upd_same rfl)
    have k2 : ∀ b u, H b = some u → b ≠ o → upd (upd H1 o (.ins C dx [("_rows", .ref pr)])) o (.ins C dx (shA pr pf [])) b = some u := fun b u h n => by
      rw [upd_ne n, upd_ne n]
      exact s1 _ _ h
    have ho2 : upd (upd H1 o (.ins C dx [("_rows", .ref pr)])) o (.ins C dx (shA pr pf [])) o = some (.ins C dx (shA pr pf [])) := upd_same
    have hf2 : DX (FmR K (nsOf rows) (fOf rows)) (upd (upd H1 o (.ins C dx [("_rows", .ref pr)])) o (.ins C dx (shA pr pf []))) pf (nsOf rows) := hpf.keepT (FmR.st K _ _) (by rw [upd_ne opf, upd_ne opf]) t2
    have hr2 := dp_ts t2 (nL_rows rows) hprows
    show tSeq _ _ _ _ (upd (upd H1 o (.ins C dx [("_rows", .ref pr)])) o (.ins C dx (shA pr pf [])))
    generalize upd (upd H1 o (.ins C dx [("_rows", .ref pr)])) o (.ins C dx (shA pr pf [])) = H2 at *
    refine ⟨_, rfl, o, dx, _, rfl, ho2, rfl, o, dx, pr, pf, [], rows, rfl, ho2, hr2, Sh.len, fun p2 H3 s3 hp3 => ?_⟩
    refine ⟨p2, rfl, ⟨_, hp3.sq⟩, fun pm npm => ?_⟩
    have csub : ∀ x ∈ csOf rows, x ∈ nsOf rows := Sh.byIn.sub
    have lcs : (csOf rows).length ≤ 60 := Nat.le_trans (sub_len Sh.ndC csub) lns
    refine dc_it (walk_tup (K := K) (a := p2) (xs := (csOf rows).map V.str)) (fun i G => Same H3 G ∧ ∃ km, G pm = some (.dK km) ∧ DX (FmR K (nsOf rows) (fOf rows)) G pm ((csOf rows).take i)) ⟨same_new npm _, [], upd_same, DX.new⟩ (fun i G _ h => same_seqT h.1 hp3.sq) ?_ ?_
    · rintro i x0 G G' hi ⟨s4, km, hkm, hd⟩ ⟨rfl, hx0⟩
      rw [List.getElem?_map] at hx0
      obtain ⟨x, hx, rfl⟩ : ∃ x, (csOf rows)[i]? = some x ∧ V.str x = x0 := by
        cases z : (csOf rows)[i]? with
        | none => rw [z] at hx0; cases hx0
        | some x => rw [z] at hx0; exact ⟨x, rfl, Option.some.inj hx0⟩
      have hxm := List.mem_of_getElem? hx
      have s34 := s3.trans s4
      obtain ⟨v, g, fv⟩ := (hf2.keep (FmR.st K _ _) s34).get (csub x hxm)
      have etk := take_more hx
      have nin : x ∉ (csOf rows).take i := fun h => by
        have z := Sh.ndC.sublist (List.take_sublist (i + 1) (csOf rows))
        rw [etk] at z
        exact (List.nodup_append.mp z).2.2 x h x (List.mem_singleton.mpr rfl) rfl
      have lkm : km.length ≤ 60 := by
        rw [hd.len hkm, List.length_take]
        omega
      refine ⟨rfl, _, rfl, _, rfl, o, C, dx, _, .ref pf, rfl, s34 _ _ ho2, S.c, S.n2, rfl, _, rfl, pf, v, rfl, g, km, Sum.inr x, rfl, hkm, small1000 (by omega), same_upd s4 npm, _, upd_same, ?_⟩
      have z := hd.put (FmR.st K _ _) hkm (x := x) (v := v) fv (fun _ _ _ h => h)
      unfold addN at z
      rw [if_neg nin] at z
      rw [etk]
      exact z
    · rintro H4 ⟨s4, km, hkm, hd4⟩
      rw [List.length_map, List.take_length] at hd4
      have s24 := s3.trans s4
      have hf4 := hf2.keep (FmR.st K _ _) s24
      refine ⟨_, rfl, o, C, dx, _, .ref pf, rfl, s24 _ _ ho2, S.c, S.n2, rfl, pf, nsOf rows, nsOf rows, fOf rows, rfl, hf4, lns, fun x hx y hy => Sh.unk hx hy, fun H5 s5 => ?_⟩
      refine ⟨_, rfl, pm, nsOf rows, csOf rows, fOf rows, rfl, hd4.keep (FmR.st K _ _) s5, lns, hstr, fun x hx => hstr x (csub x hx), lcs, fun _ H6 s6 => ?_, fun i x _ _ t => absurd t (Sh.nocirc x)⟩
      have s26 := s24.trans (s5.trans s6)
      have hf6 := hf4.keep (FmR.st K _ _) (s5.trans s6)
      have hm6 := hd4.keep (FmR.st K _ _) (s5.trans s6)
      have lins : (insOf rows).length ≤ 60 := by
        refine Nat.le_trans (sub_len Sh.ndI fun x hx => ?_) lns
        obtain ⟨r, hr, rfl⟩ := List.mem_map.mp hx
        exact List.mem_map.mpr ⟨r, (List.mem_filter.mp hr).1, rfl⟩
      have fm : pf ≠ pm := fun e => by
        obtain ⟨kv, h1, _⟩ := hf2.at_
        have z := s3 _ _ h1
        rw [e, npm] at z
        cases z
      refine ⟨_, rfl, o, C, dx, _, .ref pf, rfl, s26 _ _ ho2, S.c, S.n2, rfl, _, rfl, pf, pm, nsOf rows, nsOf rows, csOf rows, insOf rows, fOf rows, bfOf rows rk bk, rk, rfl, fm, hf6, hm6, Sh.byIn, Sh.nd, lns, lins, lns, fun pb ord H7 s7 npb hb7 hord topo => ?_⟩
      have s27 := s26.trans s7
      have ho7 := s27 _ _ ho2
      refine ⟨_, rfl, o, C, dx, _, rfl, ho7, S.c, S.n3, (by show 2 < 1000; decide), ?_⟩
      have t8 : TS H7 (upd H7 o (.ins C dx (shA pr pf [("_by_inputs", .ref pb)]))) := TS.upd ho7 rfl
      have ob : pb ≠ o := fun e => by rw [e, s26 _ _ ho2] at npb; cases npb
      have ho8 : upd H7 o (.ins C dx (shA pr pf [("_by_inputs", .ref pb)])) o = some (.ins C dx (shA pr pf [("_by_inputs", .ref pb)])) := upd_same
      have k8 : ∀ b u, H b = some u → b ≠ o → upd H7 o (.ins C dx (shA pr pf [("_by_inputs", .ref pb)])) b = some u := fun b u h n => by
        rw [upd_ne n]
        exact s27 _ _ (k2 b u h n)
      have hf8 : DX (FmR K (nsOf rows) (fOf rows)) (upd H7 o (.ins C dx (shA pr pf [("_by_inputs", .ref pb)]))) pf (nsOf rows) := (hf6.keep (FmR.st K _ _) s7).keepT (FmR.st K _ _) (upd_ne opf) t8
      have hb8 : DX (FmR K (insOf rows) (bfOf rows rk bk)) (upd H7 o (.ins C dx (shA pr pf [("_by_inputs", .ref pb)]))) pb ord := hb7.keepT (FmR.st K _ _) (upd_ne ob) t8
      have hr8 := dp_ts t8 (nL_rows rows) (dp_same s27 _ _ hr2)
      show tSeq _ _ _ _ (upd H7 o (.ins C dx (shA pr pf [("_by_inputs", .ref pb)])))
      generalize upd H7 o (.ins C dx (shA pr pf [("_by_inputs", .ref pb)])) = H8 at *
      have hr8' := hr8
      cases hr8 with
      | @tup _ xs8 _ hs8 ha8 =>
        have lx8 := dps_len ha8
        rw [List.length_map] at lx8
        refine ⟨_, rfl, o, C, dx, _, .ref pr, rfl, ho8, S.c, S.n1, rfl, pr, rfl, ⟨_, hs8⟩, fun Dn nDn => ?_⟩
        refine lc_it (walk_tup (K := K) (a := pr) (xs := xs8)) (fun i G => Same H8 G ∧ ∃ ps : List Addr, G Dn = some (.lst (ps.map V.ref)) ∧ All2 (fun p x => ∃ v, SqT K (tps G) p [.str x, v] ∧ Dp K (tps G) v (numD (zOf rows x))) ps (insOf (rows.take i))) ⟨same_new nDn _, [], upd_same, .nil⟩ (fun i G _ h => same_seqT h.1 hs8) ?_ ?_
        · rintro i x G G' hi ⟨s9, ps, hD, hps⟩ ⟨rfl, hx⟩
          obtain ⟨dt, hdt, hdx⟩ := dps_get ha8 hx
          rw [List.getElem?_map] at hdt
          obtain ⟨r, hr, rfl⟩ : ∃ r, rows[i]? = some r ∧ rowOut r = dt := by
            cases z : rows[i]? with
            | none => rw [z] at hdt; cases hdt
            | some r => rw [z] at hdt; exact ⟨r, rfl, Option.some.inj hdt⟩
          obtain ⟨kd, c, er, ek, ec⟩ := rowOut_inp r
          have hdx := dp_same s9 _ _ hdx
          rw [er] at hdx
          have etk := take_more hr
          cases hdx with
          | @tup ax xs3 _ hs3 ha3 =>
            cases ha3 with
            | cons h1 ha3 =>
              cases ha3 with
              | cons h2 ha3 =>
                cases ha3 with
                | @cons x3 _ _ _ h3 ha3 =>
                  cases ha3
                  cases h1
                  cases h2
                  refine ⟨ax, _, rfl, hs3, rfl, _, _, rfl, _, _, rfl, _, _, rfl, rfl, rfl, ?_⟩
                  refine ⟨_, rfl, rfl, _, rfl, ?_⟩
                  rw [ek]
                  cases ef : isF r with
                  | false =>
                    refine iteT ?_
                    obtain ⟨d, z, ez⟩ := isF_inp ef
                    have hrm := List.mem_of_getElem? hr
                    have hc3 := h3
                    rw [ec d z ez] at hc3
                    refine ⟨_, rfl, _, rfl, (by show 2 ≤ sizeLine; decide), fun pt npt => ?_⟩
                    have s10 := same_new npt (.tup [.str r.1, x3])
                    have hD10 := s10 _ _ hD
                    have lps : ps.length ≤ 60 := by
                      rw [hps.len]
                      show (((rows.take i).filter fun r => !isF r).map (·.1)).length ≤ 60
                      rw [List.length_map]
                      refine Nat.le_trans (List.length_filter_le _ _) ?_
                      have := Sh.len
                      rw [List.length_take]
                      omega
                    have t11 := TS.upd (u := .lst (ps.map V.ref ++ [.ref pt])) hD10 rfl
                    refine ⟨_, hD10, by rw [List.length_map]; exact small1000 (by omega), same_upd (s9.trans s10) nDn, ps ++ [pt], by rw [upd_same, List.map_append]; rfl, ?_⟩
                    have ei : insOf (rows.take (i + 1)) = insOf (rows.take i) ++ [r.1] := by
                      unfold insOf
                      rw [etk, List.filter_append, List.filter_cons_of_pos (by rw [ef]; rfl), List.filter_nil, List.map_append]
                      rfl
                    rw [ei]
                    refine (hps.imp fun p y ⟨v, h1, h2⟩ => ⟨v, same_seqT ((TS.of s10).trans t11) h1, dp_same ((TS.of s10).trans t11) _ _ h2⟩).snoc ⟨x3, ?_, ?_⟩
                    · exact same_seqT t11 (sq_tps (SqT.of upd_same))
                    · rw [zOf_mem Sh.nd hrm ez]
                      exact dp_same ((TS.of s10).trans t11) _ _ (dp_tps _ _ rfl hc3)
                  | true =>
                    refine iteF ⟨s9, ps, hD, ?_⟩
                    have ei : insOf (rows.take (i + 1)) = insOf (rows.take i) := by
                      unfold insOf
                      rw [etk, List.filter_append, List.filter_cons_of_neg (by rw [ef]; exact Bool.false_ne_true), List.filter_nil, List.append_nil]
                    rw [ei]
                    exact hps
        · rintro H9 ⟨s9, ps, hD, hps⟩
          rw [lx8, List.take_length] at hps
          have hps9 := hps.imp fun p y ⟨v, h1, h2⟩ => (⟨v, same_seqT (tps_sub H9) h1, dp_same (tps_sub H9) _ _ h2⟩ : ∃ v, SqT K H9 p [.str y, v] ∧ Dp K H9 v (numD (zOf rows y)))
          obtain ⟨kvs, q1, q2, q3⟩ := vals_of hps9 Sh.ndI
          have hva : ValsAt K H9 Dn (insOf rows) (zOf rows) := ⟨ps, kvs, .inl (SqL.of hD), q1, q2, Sh.ndI, fun x hx => by
            obtain ⟨v, e, hv⟩ := q3 x hx
            refine ⟨v, e, _, hv, numOf_rat ?_⟩
            obtain ⟨r, hr, rfl⟩ := List.mem_map.mp hx
            have hr := List.mem_filter.mp hr
            obtain ⟨d, z, ez⟩ := isF_inp (r := r) (by simpa using hr.2)
            rw [zOf_mem Sh.nd hr.1 ez]
            exact numOf_red ((Sh.ok r hr.1).inp d z ez)⟩
          refine ⟨_, rfl, _, rfl, o, dx, pr, pf, pb, Dn, [], rows, rk, bk, val, m, ord, rfl, s9 _ _ ho8, fun _ _ => rfl, Sh, dp_same s9 _ _ hr8', hf8.keep (FmR.st K _ _) s9, hb8.keep (FmR.st K _ _) s9, hord, hva, fun r H10 s10 ht => ?_⟩
          have s810 := s9.trans s10
          have ho10 := s810 _ _ ho8
          refine ⟨_, rfl, o, C, dx, _, rfl, ho10, S.c, S.n4, (by show 3 < 1000; decide), ?_⟩
          have t11 : TS H10 (upd H10 o (.ins C dx (shA pr pf [("_by_inputs", .ref pb), ("_table", .ref r)]))) := TS.upd ho10 rfl
          refine q _ (fun b u h n => ?_) ⟨Sh, dx, pr, pf, pb, r, ord, upd_same, dp_ts t11 (nL_rows rows) (dp_same s810 _ _ hr8'), (hf8.keep (FmR.st K _ _) s810).keepT (FmR.st K _ _) (upd_ne opf) t11, (hb8.keep (FmR.st K _ _) s810).keepT (FmR.st K _ _) (upd_ne ob) t11, hord, topo, ht.ts t11⟩
          rw [upd_ne n]
          exact s810 _ _ (k8 b u h n)
theorem ok_initSh {C Cu Cc : Addr} (T : Bt mg) (S : Shc K C) (GR : Kn P w K mg base CX0 "read_rows" 44 ["rows"] (spReadRows K)) (GN : KnM P w K mg base CX0 C "computed_names" 33 ["self"] (spCompN K C csOf))
    (GU : Kn P w K mg base (L2.CX P w) "check_unknown" 35 ["forms"] (spUnk K)) (GC : Kn P w K mg base (L2.CX P w) "check_circles" 36 ["formulas"] (spCircles K Cc)) (GB : Kn P w K mg base CX0 "forms_by_inputs" 39 ["forms", "formulas"] (spByIn K))
    (GT : Kn P w K mg base CX0 "filled_table" 37 ["sheet", "numbers"] (spFilled K C))
    (D : ∃ f fd dv, FunD K "__init__" "Sheet.__init__" (defArgs s_Sheet_init) (defBody s_Sheet_init) (defScope s_Sheet_init) dv [] f fd ∧ Binds K fd ["self", "rows"] [] ∧ Mk K C f) :
    ∃ f fd, FnOk P w K mg base CX0 45 f fd ["self", "rows"] (spInitSh K C) ∧ Mk K C f ∧ Binds K fd ["self", "rows"] [] := by
  obtain ⟨f, fd, dv, F, hb, hm⟩ := D
  exact ⟨f, fd, ok_init_good T S GR GN GU GC GB GT F, hm, hb⟩
end

end Bs
namespace Bs
open PySem L2
/-! ### texts with gaps -/
def gapL (n : Nat) : List Nat := List.replicate n 32
theorem gap_len (n : Nat) : (gapL n).length = n := List.length_replicate
theorem lex_gap {n i : Nat} {s : List Nat} {ts : List Tkn} (h : Lex (i + n) s ts) : Lex i (gapL n ++ s) ts := by
  induction n generalizing i with
  | zero => exact h
  | succ n ih =>
    show Lex i (32 :: (gapL n ++ s)) ts
    exact .space (ih (by rw [show i + 1 + n = i + (n + 1) by omega]; exact h))
theorem endS_gap {n c : Nat} {s : List Nat} (h : c ∈ sgns) : EndS (gapL n ++ c :: s) := by
  cases n with
  | zero => exact endS_sign (.inl h)
  | succ n => exact endS_sign (.inr rfl)
theorem lex_at {i j : Nat} {s : List Nat} {ts : List Tkn} (h : Lex i s ts) (e : i = j) : Lex j s ts := e ▸ h
theorem rd_neg {ns : List Str} {u : List Nat} {g : Fq} (n : Nat) (h : RdP ns .fac u g) : RdP ns .fac ([45] ++ gapL n ++ u) (sclQ (-1) g) := fun i => by
  obtain ⟨ts, ss, k, lx⟩ := h (i + 1 + n)
  refine ⟨_, _, .neg (p := i) k, fun s rest hs hx => ?_⟩
  simp only [List.append_assoc, List.cons_append, List.nil_append]
  refine lex_sign (by decide) (lex_gap (lx s rest hs (lex_at hx ?_)))
  simp only [List.length_append, List.length_cons, List.length_nil, gap_len]
  omega
theorem rd_par {ns : List Str} {u : List Nat} {g : Fq} (m n : Nat) (h : RdP ns .sm u g) : RdP ns .fac ([40] ++ gapL m ++ u ++ gapL n ++ [41]) g := fun i => by
  obtain ⟨ts, ss, k, lx⟩ := h (i + 1 + m)
  refine ⟨_, _, .par (p := i) (q := i + 1 + m + u.length + n) k, fun s rest hs hx => ?_⟩
  simp only [List.append_assoc, List.cons_append, List.nil_append]
  refine lex_sign (by decide) (lex_gap (lx _ _ (endS_gap (by decide)) (lex_gap (lex_sign (by decide) (lex_at hx ?_)))))
  simp only [List.length_append, List.length_cons, List.length_nil, gap_len]
  omega
theorem rd_prdB {ns : List Str} {u v : List Nat} {a b g : Fq} {c : Nat} (m n : Nat) (hc : [c] = [42] ∨ [c] = [47]) (hp : ∀ p, perfW [c] p [a, b] = .ok g) (h : RdP ns .prd u a) (k : RdP ns .fac v b) : RdP ns .prd (u ++ gapL m ++ [c] ++ gapL n ++ v) g := fun i => by
  obtain ⟨ts, ss, g1, l1⟩ := h i
  obtain ⟨us, rr, g2, l2⟩ := k (i + u.length + m + 1 + n)
  have hs1 : c ∈ sgns := by
    rcases hc with h | h <;> injection h with h _ <;> rw [h] <;> decide
  refine ⟨_, _, .prd (p := i + u.length + m) hc g1 g2 (hp _), fun s rest hs hx => ?_⟩
  simp only [List.append_assoc, List.cons_append, List.nil_append]
  refine l1 _ _ (endS_gap hs1) (lex_gap (lex_sign hs1 (lex_gap (l2 s rest hs (lex_at hx ?_)))))
  simp only [List.length_append, List.length_cons, List.length_nil, gap_len]
  omega
theorem rd_smB {ns : List Str} {u v : List Nat} {a b g : Fq} {c : Nat} (m n : Nat) (hc : [c] = [43] ∨ [c] = [45]) (hp : ∀ p, perfW [c] p [a, b] = .ok g) (h : RdP ns .sm u a) (k : RdP ns .prd v b) : RdP ns .sm (u ++ gapL m ++ [c] ++ gapL n ++ v) g := fun i => by
  obtain ⟨ts, ss, g1, l1⟩ := h i
  obtain ⟨us, rr, g2, l2⟩ := k (i + u.length + m + 1 + n)
  have hs1 : c ∈ sgns := by
    rcases hc with h | h <;> injection h with h _ <;> rw [h] <;> decide
  refine ⟨_, _, .sm (p := i + u.length + m) hc g1 g2 (hp _), fun s rest hs hx => ?_⟩
  simp only [List.append_assoc, List.cons_append, List.nil_append]
  refine l1 _ _ (endS_gap hs1) (lex_gap (lex_sign hs1 (lex_gap (l2 s rest hs (lex_at hx ?_)))))
  simp only [List.length_append, List.length_cons, List.length_nil, gap_len]
  omega
/-- the parts of a sum or an average -/
def RdPs (ns : List Str) (n : Nat) (u : List Nat) (gs : List Fq) : Prop := ∀ i : Nat, ∃ ts ss, GrV ns (.parts n) ts ss gs ∧ ∀ s rest, EndS s → Lex (i + u.length) s rest → Lex i (u ++ s) (ts ++ rest)
theorem rds_one {ns : List Str} {u : List Nat} {g : Fq} (m n : Nat) (h : RdP ns .sm u g) : RdPs ns 1 (gapL m ++ gapL n ++ u) [g] := fun i => by
  obtain ⟨ts, ss, k, lx⟩ := h (i + m + n)
  refine ⟨_, _, .parts1 k, fun s rest hs hx => ?_⟩
  simp only [List.append_assoc]
  refine lex_gap (lex_gap (lx s rest hs (lex_at hx ?_)))
  simp only [List.length_append, gap_len]
  omega
theorem rds_more {ns : List Str} {u v : List Nat} {gs : List Fq} {g : Fq} {j : Nat} (m n : Nat) (h : RdPs ns j u gs) (k : RdP ns .sm v g) : RdPs ns (j + 1) (u ++ gapL m ++ [44] ++ gapL n ++ v) (gs ++ [g]) := fun i => by
  obtain ⟨ts, ss, g1, l1⟩ := h i
  obtain ⟨us, rr, g2, l2⟩ := k (i + u.length + m + 1 + n)
  refine ⟨_, _, .parts (p := i + u.length + m) g1 g2, fun s rest hs hx => ?_⟩
  simp only [List.append_assoc, List.cons_append, List.nil_append]
  refine l1 _ _ (endS_gap (by decide)) (lex_gap (lex_sign (by decide) (lex_gap (l2 s rest hs (lex_at hx ?_)))))
  simp only [List.length_append, List.length_cons, List.length_nil, gap_len]
  omega
theorem rd_fn {ns : List Str} {w u : List Nat} {gs : List Fq} {g : Fq} {j : Nat} (m : Nat) (hw : w = sumW ∨ w = avgW) (h : RdPs ns j u gs) (hp : ∀ p, perfW w p gs = .ok g) : RdP ns .fac (w ++ gapL m ++ [40] ++ u ++ [41]) g := fun i => by
  obtain ⟨ts, ss, g1, l1⟩ := h (i + w.length + m + 1)
  have hl : w ≠ [] ∧ (∀ c ∈ w, c ∈ lets) ∧ w.length ≤ 8 := by rcases hw with rfl | rfl <;> decide
  have he : ∀ s : List Nat, EndS (gapL m ++ 40 :: s) := fun s => endS_gap (by decide)
  refine ⟨_, _, .fn (p := i) (q := i + w.length + m) (r := i + w.length + m + 1 + u.length) hw g1 (hp _), fun s rest hs hx => ?_⟩
  simp only [List.append_assoc, List.cons_append, List.nil_append]
  refine lex_name hl.1 hl.2.1 hl.2.2 (fun x hx => (he _ x hx).2.2) (lex_gap (lex_sign (by decide) (l1 _ _ (endS_sign (.inl (by decide))) (lex_sign (by decide) (lex_at hx ?_)))))
  simp only [List.length_append, List.length_cons, List.length_nil, gap_len]
  omega
/-! ### a number with a point -/
def pntL (a k b : Nat) : List Nat := TL.numL a ++ 46 :: padL k b
theorem padL_digs (k b : Nat) : ∀ c ∈ padL k b, c ∈ digs := fun c hc => by
  have h := padL_digits k b c hc
  have key : ∀ c, c < 58 → 48 ≤ c → c ∈ digs := by decide
  exact key c (by omega) h.1
theorem rd_point (ns : List Str) {a k b : Nat} (hk : 0 < k) (hb : b < 10 ^ k) (hl : (pntL a k b).length ≤ 4900) : RdP ns .fac (pntL a k b) (conQ (qv (nrm ((a * 10 ^ k + b : Nat) : Int) ((10 ^ k : Nat) : Int)))) := fun i => by
  have hd := numL_digs a
  have hp := padL_digs k b
  have ln := padL_len k b
  obtain ⟨c, w, ec⟩ : ∃ c w, TL.numL a = c :: w := by
    cases e : TL.numL a with
    | nil => exact absurd e (TL.numL_ne a)
    | cons c w => exact ⟨c, w, rfl⟩
  obtain ⟨d, v, ed⟩ : ∃ d v, padL k b = d :: v := by
    cases e : padL k b with
    | nil => rw [e] at ln; simp at ln; omega
    | cons d v => exact ⟨d, v, rfl⟩
  have eW : pntL a k b = c :: (w ++ 46 :: d :: v) := by
    unfold pntL
    rw [ec, ed]
    rfl
  have hdc : ∀ x ∈ c :: w, x ∈ digs := by rw [← ec]; exact hd
  have hpd : ∀ x ∈ d :: v, x ∈ digs := by rw [← ed]; exact hp
  have hc := hdc c (List.mem_cons_self ..)
  have dw : digW (pntL a k b) := ⟨c, by rw [eW]; rfl, hc⟩
  have key : ∀ c ∈ digs, c ∉ sgns ∧ c ∉ lets ∧ c ≠ 32 := by decide
  have er : readL (pntL a k b) = some (nrm ((a * 10 ^ k + b : Nat) : Int) ((10 ^ k : Nat) : Int)) := by
    have u := unsg_num a (46 :: padL k b)
    have ev : NumText.digitsVal (TL.numL a ++ padL k b) = a * 10 ^ k + b := by
      rw [dv_app, TL.numL_val, padL_val k b hb, padL_len]
    unfold readL pntL
    rw [u.1, readU_mark rfl (TL.numL_digits _) (by rfl), if_pos ⟨digs_num _, digs_iff.mpr ⟨by rw [ed]; exact List.cons_ne_nil _ _, padL_digits k b⟩⟩]
    unfold markOf sgnd
    rw [if_pos rfl, u.2, if_neg Bool.false_ne_true, ev, padL_len]
  have p10 : (10 : Nat) ^ k ≠ 0 := Nat.ne_of_gt (Nat.pow_pos (by decide))
  have rd : Red (nrm ((a * 10 ^ k + b : Nat) : Int) ((10 ^ k : Nat) : Int)) := nrm_red (by omega)
  have lW : (pntL a k b).length = (TL.numL a).length + k + 1 := by
    unfold pntL
    rw [List.length_append, List.length_cons, ln]
    omega
  have sz : Sz (4 * (pntL a k b).length + 1) (nrm ((a * 10 ^ k + b : Nat) : Int) ((10 ^ k : Nat) : Int)) := by
    have e4 : (10 : Nat) ^ k ≤ 2 ^ (4 * k) := by
      rw [Nat.pow_mul]
      exact Nat.pow_le_pow_left (by decide) _
    have h1 := numL_lt2 a
    have h2 : a * 10 ^ k + b < 2 ^ (4 * (TL.numL a).length) * 2 ^ (4 * k) := by
      have h3 : (a + 1) * 10 ^ k ≤ 2 ^ (4 * (TL.numL a).length) * 2 ^ (4 * k) := Nat.mul_le_mul h1 e4
      rw [Nat.succ_mul] at h3
      omega
    rw [← Nat.pow_add] at h2
    have up1 : 2 ^ (4 * (TL.numL a).length + 4 * k) ≤ 2 ^ (4 * (pntL a k b).length + 1) := Nat.pow_le_pow_right (by decide) (by omega)
    have up2 : 2 ^ (4 * k) < 2 ^ (4 * (pntL a k b).length + 1) := Nat.pow_lt_pow_right (by decide) (by omega)
    exact sz_nrm (by omega) (by omega)
  have ne : ∀ {x : Nat} {s : List Nat}, x ∉ digs → pntL a k b ≠ x :: s := fun hx e => by
    rw [eW] at e
    injection e with e _
    exact hx (by rw [← e]; exact hc)
  have ns1 : ¬ signW (pntL a k b) := fun z => by
    rcases z with z | z | z | z | z | z | z <;> exact absurd z (ne (by decide))
  have o1 : pntL a k b ≠ oppW := ne (by decide)
  have o2 : pntL a k b ≠ sumW := ne (by decide)
  have o3 : pntL a k b ≠ avgW := ne (by decide)
  have wd : WdOk ns (pntL a k b) := ⟨by rw [eW]; exact List.cons_ne_nil _ _, by omega, ⟨ne (by decide), ne (by decide), ne (by decide)⟩, fun _ => ⟨(show (pntL a k b).length ≤ 4990 by omega), _, er, rd, sz⟩, fun z => absurd dw z⟩
  have pl : Plain (pntL a k b) := ⟨o1, ne (by decide), ne (by decide), ne (by decide), fun e => e.elim (fun e => ne (by decide) e) o2, o3⟩
  refine ⟨[(pntL a k b, i)], [(pntL a k b, i, 0)], .atom wd o2 o3 ns1 ?_ o1, fun s rest hs hx => ?_⟩
  · rw [pf_num pl dw, er]
    rfl
  · rw [eW] at hx ⊢
    exact .tok (key c hc).2.2 (tok_point hdc hpd fun x hx => (hs x hx).1) hx

end Bs
namespace Bs
open PySem L2
theorem ix_tupK {X : Cx} {K : PySem.W.Frag} (h : X.K = K) : IxR X (rIxT K) := by
  subst h
  exact ix_tup
/-- a comprehension over a text -/
theorem lc_str {l : List Nat} {g : TG} {tt : TT} {te : TE} {vs : List Nat} {σ : St} {H1 : Hp} {D : Addr} {Qd : Hp → Prop} (Pv : Nat → Hp → Prop) (h0 : Pv 0 (upd H1 D (.lst [])))
    (hs : ∀ i c H, l[i]? = some c → Pv i H → g (tx [c]) (wipe σ vs) H fun σ2 H2 => wipe σ2 vs = wipe σ vs ∧ tt σ2 H2 fun b H3 => if b = true then te σ2 H3 fun y H4 => ∃ acc, H4 D = some (.lst acc) ∧ acc.length < sizeLine ∧ Pv (i + 1) (upd H4 D (.lst (acc ++ [y]))) else Pv (i + 1) H3)
    (hd : ∀ H, Pv l.length H → Qd H) :
    ∃ W : Nat → Nat → Hp → Prop, (∃ m, W 0 m (upd H1 D (.lst []))) ∧ ∀ i m H, W i m H →
      ((Its (SX.S l)).stop i H ∧ Qd H) ∨ ((Its (SX.S l)).go i H ∧ ∃ Nx : Hp → Prop, (∀ H', Nx H' → ∃ m', m' < m ∧ W (i + 1) m' H') ∧ ∀ x H', (Its (SX.S l)).yld i H x H' → g x (wipe σ vs) H' fun σ2 H2 => wipe σ2 vs = wipe σ vs ∧ tt σ2 H2 fun b H3 => if b = true then te σ2 H3 fun y H4 => ∃ acc, H4 D = some (.lst acc) ∧ acc.length < sizeLine ∧ Nx (upd H4 D (.lst (acc ++ [y]))) else Nx H3) := by
  have hsz : (SX.S l).cps.size = l.length := by simp [SX.S]
  refine ⟨fun i m H => m = l.length - i ∧ i ≤ l.length ∧ Pv i H, ⟨l.length, by simp, Nat.zero_le _, h0⟩, ?_⟩
  rintro i m H ⟨rfl, hi, p⟩
  by_cases lt : i < l.length
  · refine .inr ⟨by show i < (SX.S l).cps.size; omega, Pv (i + 1), fun H' p' => ⟨l.length - (i + 1), by omega, rfl, lt, p'⟩, fun x H' y => ?_⟩
    obtain ⟨e, c, hc, rfl⟩ := y
    subst e
    exact hs i c _ (by rw [← hc]; simp [SX.S]) p
  · have e : i = l.length := by omega
    subst e
    exact .inl ⟨by show (SX.S l).cps.size ≤ l.length; omega, hd _ p⟩
theorem letters_S : Str.ofString "abcdefghijklmnopqrstuvwxyz" = SX.S [97, 98, 99, 100, 101, 102, 103, 104, 105, 106, 107, 108, 109, 110, 111, 112, 113, 114, 115, 116, 117, 118, 119, 120, 121, 122] := by decide +kernel
theorem az_mem (c : Nat) : decide (c ∈ [97, 98, 99, 100, 101, 102, 103, 104, 105, 106, 107, 108, 109, 110, 111, 112, 113, 114, 115, 116, 117, 118, 119, 120, 121, 122]) = az c := by
  unfold az
  rw [Bool.eq_iff_iff, decide_eq_true_eq, Bool.and_eq_true, decide_eq_true_eq, decide_eq_true_eq]
  simp only [List.mem_cons, List.not_mem_nil, or_false]
  omega

theorem op_notInK {X : Cx} {K : PySem.W.Frag} (h : X.K = K) : OpR X (compareOp .NotIn) (rIn K true) := by
  subst h
  exact op_notIn_seq
theorem Box.off {H : Hp} {b g c D : Addr} {n : Nat} {o : HO} (x : Box H b g c n) (h1 : D ≠ b) (h2 : D ≠ g) (h3 : D ≠ c) : Box (upd H D o) b g c n := by
  obtain ⟨gs, cs, cur, m, B, hm⟩ := x
  exact ⟨gs, cs, cur, m, ⟨by rw [upd_ne h1.symm]; exact B.hb, by rw [upd_ne h2.symm]; exact B.hg, by rw [upd_ne h3.symm]; exact B.hc, B.bg, B.bc, B.gc, B.m0, B.lg, B.lc⟩, hm⟩
theorem Box.ne {H : Hp} {b g c D : Addr} {n : Nat} (x : Box H b g c n) (h : H D = none) : D ≠ b ∧ D ≠ g ∧ D ≠ c := by
  obtain ⟨gs, cs, cur, m, B, hm⟩ := x
  exact ⟨(ne_of_none B.hb h).symm, (ne_of_none B.hg h).symm, (ne_of_none B.hc h).symm⟩
theorem atI_some {α : Type} {xs : List α} {r : Int} (h0 : 0 ≤ r) (h1 : r < xs.length) : ∃ v, v ∈ xs ∧ atI xs r = some v := by
  obtain ⟨k, rfl⟩ : ∃ k : Nat, r = (k : Int) := ⟨r.toNat, by omega⟩
  have hk : k < xs.length := by omega
  exact ⟨xs[k], List.getElem_mem hk, atI_nat (List.getElem?_eq_getElem hk)⟩
def onesL (cs : List Nat) : List V := ((cs.map fun c => [c]).map SX.S).map V.str
theorem onesL_snoc (cs : List Nat) (c : Nat) : onesL cs ++ [tx [c]] = onesL (cs ++ [c]) := by
  unfold onesL
  rw [List.map_append, List.map_append, List.map_append]
  rfl
theorem flat_ones : ∀ cs : List Nat, (cs.map fun c => [c]).flatten = cs
  | [] => rfl
  | c :: cs => by rw [List.map_cons, List.flatten_cons, flat_ones cs]; rfl
theorem join_nilL : ∀ ys : List (List Nat), TL.joinL [] ys = ys.flatten
  | [] => rfl
  | [y] => by show y = y ++ []; rw [List.append_nil]
  | y :: z :: r => by
    show y ++ ([] ++ TL.joinL [] (z :: r)) = y ++ (z :: r).flatten
    rw [join_nilL (z :: r), List.nil_append]
theorem join_ones (cs : List Nat) : Txt.join (Str.ofString "") ((cs.map fun c => [c]).map SX.S) = SX.S cs := by
  rw [show Str.ofString "" = SX.S [] by decide +kernel, SX.join_S, join_nilL, flat_ones]
theorem fitN {n : Nat} (h : n ≤ 5000) : n ≤ sizeLine := Nat.le_trans h (by decide)
abbrev lts : List Nat := [97, 98, 99, 100, 101, 102, 103, 104, 105, 106, 107, 108, 109, 110, 111, 112, 113, 114, 115, 116, 117, 118, 119, 120, 121, 122]
theorem inV_strs (x : Str) : ∀ ns : List Str, inV (.str x) (ns.map V.str) = decide (x ∈ ns)
  | [] => rfl
  | n :: ns => by
    show ((n == x) || inV (.str x) (ns.map V.str)) = _
    rw [inV_strs x ns, Bool.eq_iff_iff, Bool.or_eq_true, beq_iff_eq, decide_eq_true_eq, decide_eq_true_eq, List.mem_cons]
    exact ⟨fun h => h.imp Eq.symm id, fun h => h.imp Eq.symm id⟩
theorem flat_strs : ∀ ns : List Str, (ns.map V.str).all flatV = true
  | [] => rfl
  | n :: ns => by
    show (flatV (.str n) && (ns.map V.str).all flatV) = true
    rw [flat_strs ns]
    rfl
theorem free_letter {ns : List Str} (h : ns.length ≤ 25) : ∃ c ∈ lts, SX.S [c] ∉ ns := by
  refine Classical.byContradiction fun no => ?_
  have all : ∀ c ∈ lts, SX.S [c] ∈ ns := fun c hc => Classical.byContradiction fun z => no ⟨c, hc, z⟩
  obtain ⟨r, p⟩ := perm_rest (l := lts.map fun c => SX.S [c]) (ks := ns) (by decide +kernel) fun k hk => by
    obtain ⟨c, hc, rfl⟩ := List.mem_map.mp hk
    exact all c hc
  have z := p.length_eq
  rw [List.length_append, List.length_map] at z
  have : lts.length = 26 := rfl
  omega
theorem one_name {c : Nat} (h : c ∈ lts) : nameL [c] = true := by
  have key : ∀ c ∈ lts, nameL [c] = true := by decide +kernel
  exact key c h
def spNames : Sp := fun vs H Q _ => ∃ (b g c : Addr) (n m : Nat), vs = [.ref b, .int (m : Int)] ∧ Box H b g c n ∧ m ≤ 20 ∧ n + 300 < 1000000 ∧
  ∀ (D : Addr) (ns : List Str) (H' : Hp), ns.length = m → ns.Nodup → (∀ x ∈ ns, nameL x.cps.toList = true) → H' D = some (.lst (ns.map V.str)) → H D = none → Box H' b g c (n + 11 * m) → But b g H H' → Q (.ref D) H'
section
variable {P : Program} {w : World} {K : PySem.W.Frag} {mg : Str → Option Value} {base : Heap}
theorem ok_names (T : Bt mg) (GT : Kn P w K mg base CX0 "_law_take" 34 ["_law_box_here", "_law_size"] spTake) (D : Df K mg "_law_names" s_l_names ["_law_box_here", "_law_many"]) :
    Kn P w K mg base CX0 "_law_names" 35 ["_law_box_here", "_law_many"] spNames := by
  obtain ⟨f, fd, F, hm, hb⟩ := D
  obtain ⟨f_l_take, fd_l_take, G_l_take, m_l_take, k_l_take, b_l_take⟩ := GT
  refine ⟨f, fd, F.ok sc_l_names (fun vs H Q E h => ?_) (fun cdv A outer s H vs Q E hr h => ?_), hm, F.kp, hb⟩
  · obtain ⟨b, g, c, n, m, rfl, _⟩ := h
    rfl
  · obtain ⟨b, g, c, n, m, rfl, B, hm20, hn, q⟩ := h
    refine ⟨_, (pss_cons (ps_set (i := 2) sc_l_names.nd rfl (Or.inr rfl) pe_str)
      (pss_cons (ps_set (i := 3) sc_l_names.nd rfl (Or.inr rfl) (pe_lst pa_nil))
      (pss_cons (ps_for PassesOwn.never rfl (pi_range1 rfl T.n_range (pa_cons (pv 1) pa_nil)) (pg_name (i := 4) sc_l_names.nd rfl (Or.inl rfl))
        (pss_cons (ps_set (i := 5) sc_l_names.nd rfl (Or.inl rfl) (pe_op op_add pe_int (pe_call G_l_take (hr.mono (by omega)) rfl m_l_take k_l_take b_l_take .nil pass0 (pa_cons (pv 0) (pa_cons (pe_ix ix_list (pe_lst (pa_cons pe_int (pa_cons pe_int (pa_cons pe_int pa_nil)))) (pe_call G_l_take (hr.mono (by omega)) rfl m_l_take k_l_take b_l_take .nil pass0 (pa_cons (pv 0) (pa_cons pe_int pa_nil))) (fun _ _ => rfl)) pa_nil)))))
      (C8.pss_cut (ps_set (i := 6) sc_l_names.nd rfl (Or.inl rfl) (pe_bm PySem.F.plainAttrs_str PySem.F.slot_str_join PySem.F.type_str_join mt_join pe_str (pa_cons (pe_lc (own := [("_law_j", 7)]) rfl sc_l_names.nd (pi_range1 rfl T.n_range (pa_cons (pv 5) pa_nil)) (blkOk_by (N := ["_law_box_here", "_law_many", "_law_letters", "_law_found", "_law_k", "_law_size", "_law_name", "_law_j", "_law_one"]) (sc := defScope s_l_names) (by decide +kernel)) (fun _ _ _ _ _ => (pg_name (i := 7) sc_l_names.nd rfl (Or.inl rfl))) (fun _ _ _ _ _ => pts_nil) (fun _ _ _ _ _ => (pe_ix ix_str (pv 2) (pe_call G_l_take (hr.mono (by omega)) rfl m_l_take k_l_take b_l_take .nil pass0 (pa_cons (pv 0) (pa_cons pe_int pa_nil))) (fun _ _ => rfl)))) pa_nil)))
      (C8.pss_cut (ps_if (pt_cmpR op_in_seq (pv 6) (pe_op op_cat (pv 3) (pe_lst (pa_cons pe_str (pa_cons pe_str pa_nil)))) (by rfl)) (pss_one (ps_set (i := 6) sc_l_names.nd rfl (Or.inl rfl) (pe_ix ix_list (pe_lc (own := [("_law_one", 8)]) rfl sc_l_names.nd (pi_str (pv 2)) (blkOk_by (N := ["_law_box_here", "_law_many", "_law_letters", "_law_found", "_law_k", "_law_size", "_law_name", "_law_j", "_law_one"]) (sc := defScope s_l_names) (by decide +kernel)) (fun _ _ _ _ _ => (pg_name (i := 8) sc_l_names.nd rfl (Or.inl rfl))) (fun _ _ _ _ _ => (pts_one (pt_cmpR (op_notInK (K := K) rfl) (pv 8) (pv 3) (by rfl)))) (fun _ _ _ _ _ => (pv 8))) pe_int (fun _ _ => rfl)))) pss_nil)
      (pss_one (ps_expr (pe_bm PySem.F.plainAttrs_list PySem.F.slot_list_append PySem.F.type_list_append mt_append (pv 3) (pa_cons (pv 6) pa_nil))))))))
      (pss_one (ps_ret (pv 3)))))), ?_⟩
    refine ⟨(by show 0 ≤ sizeLine; decide), fun D hD => ?_⟩
    obtain ⟨db, dg, dc⟩ := B.ne hD
    have B0 := B.same (same_new hD (.lst []))
    have p62 : (2 : Int) ^ 62 = 4611686018427387904 := by decide
    refine ⟨_, rfl, (m : Int), rfl, by omega, by omega, ?_⟩
    refine for_range (lo := 0) (n := (m : Int).toNat) (fun i σ H' => ∃ (ns : List Str) (x4 x5 x6 x7 x8 : Option V), σ = [some (.ref b), some (.int (m : Int)), some (.str "abcdefghijklmnopqrstuvwxyz"), some (.ref D), x4, x5, x6, x7, x8] ∧ ns.length = i ∧ ns.Nodup ∧ (∀ x ∈ ns, nameL x.cps.toList = true) ∧ H' D = some (.lst (ns.map V.str)) ∧ Box H' b g c (n + 11 * i) ∧ But b g H H')
      ⟨[], _, _, _, _, _, rfl, rfl, List.nodup_nil, (fun x hx => by cases hx), upd_same, B0, But.of (same_new hD _)⟩ ?_ ?_
    · rintro i σ H1 hi ⟨ns, x4, x5, x6, x7, x8, rfl, hl, nd, nm, hDl, B1, bt1⟩
      refine ⟨_, rfl, ?_⟩
      refine ⟨(by show 3 ≤ sizeLine; decide), fun p3 np3 => ⟨_, rfl, b, g, c, _, 3, rfl, B1.same (same_new np3 _), (by omega), (by decide), (by decide), fun r3 H3 r03 r13 B3 bt3 => ?_⟩⟩
      have hp3 := But.new B1 np3 bt3
      have bu3 := But.after np3 bt3
      obtain ⟨v3, hv3, hat3⟩ := at_pick hp3 r03 r13 rfl
      refine ⟨p3, _, r3, v3, rfl, rfl, SqL.of hp3, hat3, ?_⟩
      have hw : ∃ y : Int, v3 = .int y ∧ 0 < y ∧ y ≤ 8 := by
        simp only [List.mem_cons, List.not_mem_nil, or_false] at hv3
        rcases hv3 with e | e | e
        · exact ⟨_, e, by decide, by decide⟩
        · exact ⟨_, e, by decide, by decide⟩
        · exact ⟨_, e, by decide, by decide⟩
      obtain ⟨y, rfl, y0, y1⟩ := hw
      refine ⟨b, g, c, _, y, rfl, B3, by omega, y0, pow8000' y 4 (by decide) (by show y.natAbs < 16; omega), fun r H4 r0 r1 B4 b4 => ?_⟩
      refine ⟨_, _, rfl, rfl, ?_⟩
      have bt4 : But b g H1 H4 := bu3.trans b4
      have p62 : (2 : Int) ^ 62 = 4611686018427387904 := by decide
      refine ⟨fun σ H' => ∃ (cs : List Nat) (z7 z8 : Option V), σ = [some (.ref b), some (.int (m : Int)), some (.str "abcdefghijklmnopqrstuvwxyz"), some (.ref D), some (.int (0 + (i : Int))), some (.int (1 + r)), some (tx cs), z7, z8] ∧ cs ≠ [] ∧ cs.length < 9 ∧ cs.all az = true ∧ Box H' b g c (n + 11 * i + 11) ∧ But b g H1 H', ?_, ?_⟩
      · refine ⟨rfl, _, rfl, 1 + r, rfl, by omega, by omega, fun D5 hD5 => ?_⟩
        obtain ⟨eb, eg, ec⟩ := B4.ne hD5
        refine lc_range (lo := 0) (n := (1 + r).toNat) (fun j H' => ∃ cs : List Nat, cs.length = j ∧ cs.all az = true ∧ H' D5 = some (.lst (onesL cs)) ∧ Box H' b g c (n + 11 * i + 2 + j) ∧ But b g H4 H') ⟨[], rfl, rfl, upd_same, (B4.same (same_new hD5 _)).mono (by omega), But.of (same_new hD5 _)⟩ ?_ ?_
        · rintro j H5 hj ⟨cs, lc, ca, hDl5, B5, b5⟩
          refine ⟨rfl, _, rfl, _, rfl, b, g, c, _, 26, rfl, B5, by omega, by decide, pow8000' 26 5 (by decide) (by decide), fun x H6 x0 x1 B6 b6 => ?_⟩
          obtain ⟨ch, hcm, hch⟩ := atI_some (xs := (Str.ofString "abcdefghijklmnopqrstuvwxyz").cps.toList) x0 (by rw [show (Str.ofString "abcdefghijklmnopqrstuvwxyz").cps.toList.length = 26 by decide +kernel]; exact x1)
          have hD6 := b6 D5 _ hDl5 eb eg
          refine ⟨_, _, ch, rfl, rfl, fitN (by decide +kernel), hch, _, hD6, ?_, cs ++ [ch], by rw [List.length_append, lc]; rfl, ?_, ?_, B6.off eb eg ec, ?_⟩
          · unfold onesL
            rw [List.length_map, List.length_map, List.length_map]
            exact small1000 (by omega)
          · rw [List.all_append, ca, Bool.true_and, List.all_cons, List.all_nil, Bool.and_true]
            exact (show ∀ c ∈ (Str.ofString "abcdefghijklmnopqrstuvwxyz").cps.toList, az c = true by decide +kernel) ch hcm
          · rw [upd_same, ← onesL_snoc]
          · intro a o h h1 h2
            rw [upd_ne (ne_of_none h hD5)]
            exact (b5.trans b6) a o h h1 h2
        · rintro H5 ⟨cs, lc, ca, hDl5, B5, b5⟩
          have hlen : (((cs.map fun c => [c]).map SX.S).map (·.length)).sum + ((cs.map fun c => [c]).map SX.S).length * (Str.ofString "").length ≤ 16777216 := by
            rw [SX.lens, ← List.length_flatten, flat_ones, show (Str.ofString "").length = 0 by decide +kernel, Nat.mul_zero, Nat.add_zero]
            omega
          refine ⟨_, D5, _, rfl, rfl, .inl (SqL.of hDl5), hlen, cs, x7, x8, ?_, ?_, by omega, ca, B5.mono (by omega), bt4.trans b5⟩
          · rw [join_ones]
            rfl
          · intro z
            rw [z] at lc
            have : ([] : List Nat).length = 0 := rfl
            omega
      rintro σ H5 ⟨cs, z7, z8, rfl, c0, c9, ca, B5, b5⟩
      have hD5 := b5 D _ hDl db dg
      refine ⟨fun σ H' => ∃ (x : Str) (z7 z8 : Option V), σ = [some (.ref b), some (.int (m : Int)), some (.str "abcdefghijklmnopqrstuvwxyz"), some (.ref D), some (.int (0 + (i : Int))), some (.int (1 + r)), some (.str x), z7, z8] ∧ nameL x.cps.toList = true ∧ x ∉ ns ∧ Same H5 H', ?_, ?_⟩
      · refine ⟨_, rfl, _, rfl, (by show 2 ≤ sizeLine; decide), fun p np => ?_⟩
        have s1 := same_new np (.lst [V.str "sum", V.str "average"])
        refine ⟨D, p, _, _, rfl, rfl, s1 _ _ hD5, upd_same, (by rw [List.length_map]; show ns.length + 2 ≤ sizeLine; exact Nat.le_of_lt (small1000 (by omega))), fun p2 np2 => ?_⟩
        have s2 := s1.trans (same_new np2 (.lst (ns.map V.str ++ [V.str "sum", V.str "average"])))
        refine ⟨p2, (ns ++ [Str.ofString "sum", Str.ofString "average"]).map V.str, rfl, .inl (SqL.of (by rw [upd_same, List.map_append]; rfl)), rfl, flat_strs _, _, rfl, ?_⟩
        have hin := inV_strs (SX.S cs) (ns ++ [Str.ofString "sum", Str.ofString "average"])
        refine ite2 (fun k => ?_) (fun k => ?_)
        · have hD6 := s2 _ _ hD5
          refine ⟨_, rfl, SX.S lts, congrArg V.str letters_S, fun D6 hD6n => ?_⟩
          refine lc_str (l := lts) (fun i H' => Same (upd (upd H5 p (.lst [V.str "sum", V.str "average"])) p2 (.lst (ns.map V.str ++ [V.str "sum", V.str "average"]))) H' ∧ H' D6 = some (.lst (((lts.take i).filter fun c => decide (SX.S [c] ∉ ns)).map fun c => tx [c]))) ⟨same_new hD6n _, upd_same⟩ ?_ ?_
          · rintro i ch H7 hch ⟨s7, hacc⟩
            have hD7 := s7 _ _ hD6
            have hnot := inV_strs (SX.S [ch]) ns
            refine ⟨rfl, _, rfl, _, rfl, D, _, rfl, .inl (SqL.of hD7), rfl, flat_strs ns, _, rfl, ?_⟩
            have eb : (!inV (V.str (SX.S [ch])) (ns.map V.str)) = decide (SX.S [ch] ∉ ns) := by rw [hnot, decide_not]
            refine ite2 (fun mm => ?_) (fun mm => ?_)
            · have m2 := eb.symm.trans mm
              refine ⟨_, rfl, _, hacc, ?_, same_upd s7 hD6n, ?_⟩
              · rw [List.length_map]
                refine Nat.lt_of_le_of_lt (List.length_filter_le _ _) ?_
                rw [List.length_take]
                exact small1000 (Nat.le_trans (Nat.min_le_right _ _) (by decide))
              · rw [upd_same, take_more hch, List.filter_append, List.filter_cons_of_pos (by exact m2), List.filter_nil, List.map_append]
                rfl
            · have m2 := eb.symm.trans (Bool.eq_false_iff.mpr mm)
              refine ⟨s7, ?_⟩
              rw [take_more hch, List.filter_append, List.filter_cons_of_neg (by rw [m2]; exact Bool.false_ne_true), List.filter_nil, List.append_nil]
              exact hacc
          · rintro H7 ⟨s7, hacc⟩
            rw [List.take_length] at hacc
            obtain ⟨c1, hc1, hc2⟩ := free_letter (ns := ns) (by omega)
            obtain ⟨d, rest, hfl⟩ : ∃ d rest, lts.filter (fun c => decide (SX.S [c] ∉ ns)) = d :: rest := by
              cases hf : lts.filter (fun c => decide (SX.S [c] ∉ ns)) with
              | nil =>
                have : c1 ∈ lts.filter (fun c => decide (SX.S [c] ∉ ns)) := List.mem_filter.mpr ⟨hc1, decide_eq_true hc2⟩
                rw [hf] at this
                cases this
              | cons d rest => exact ⟨d, rest, rfl⟩
            have hdm : d ∈ lts ∧ decide (SX.S [d] ∉ ns) = true := List.mem_filter.mp (by rw [hfl]; exact List.mem_cons_self ..)
            rw [hfl] at hacc
            refine ⟨D6, _, _, tx [d], rfl, rfl, SqL.of hacc, at_of (j := 0) rfl rfl, SX.S [d], _, _, rfl, ?_, of_decide_eq_true hdm.2, s2.trans s7⟩
            rw [show (SX.S [d]).cps.toList = [d] by simp [SX.S]]
            exact one_name hdm.1
        · have k2 := of_decide_eq_false (hin.symm.trans (Bool.eq_false_iff.mpr k))
          refine ⟨SX.S cs, _, _, rfl, ?_, fun z => k2 (List.mem_append_left _ z), s2⟩
          rw [show (SX.S cs).cps.toList = cs by simp [SX.S]]
          have n1 : cs ≠ [115, 117, 109] := fun z => k2 (List.mem_append_right _ (by rw [z]; exact List.mem_cons.mpr (.inl (by decide +kernel))))
          have n2 : cs ≠ [97, 118, 101, 114, 97, 103, 101] := fun z => k2 (List.mem_append_right _ (by rw [z]; exact List.mem_cons_of_mem _ (List.mem_cons.mpr (.inl (by decide +kernel)))))
          unfold nameL
          rw [decide_eq_true c0, decide_eq_true c9, ca, decide_eq_true n1, decide_eq_true n2]
          rfl
      rintro σ H6 ⟨x, z7, z8, rfl, nx, xin, s56⟩
      have hD6 := s56 _ _ hD5
      have B6 := B5.same s56
      refine ⟨_, rfl, .inl ⟨rfl, _, SqL.of hD6⟩, _, rfl, D, _, _, rfl, rfl, hD6, (by rw [List.length_map]; exact small1000 (by omega)), ns ++ [x], _, _, _, _, _, rfl, by rw [List.length_append, hl]; rfl, ?_, ?_, ?_, (B6.off db dg dc).mono (by omega), ?_⟩
      · rw [List.nodup_append]
        refine ⟨nd, List.pairwise_singleton _ _, fun u hu v hv e => ?_⟩
        rw [List.mem_singleton.mp hv] at e
        exact xin (by rw [← e]; exact hu)
      · intro u hu
        rcases List.mem_append.mp hu with hu | hu
        · exact nm u hu
        · rw [List.mem_singleton.mp hu]
          exact nx
      · rw [upd_same, List.map_append]
        rfl
      · intro a o h h1 h2
        rw [upd_ne (ne_of_none h hD)]
        exact s56 _ _ (b5 _ _ (bt1 a o h h1 h2) h1 h2)
    · rintro σ H1 ⟨ns, x4, x5, x6, x7, x8, rfl, hl, nd, nm, hDl, B1, bt1⟩
      refine ⟨_, rfl, ?_⟩
      exact q D ns H1 (by omega) nd nm hDl hD (B1.mono (by omega)) bt1
end

theorem peK_bm {X : Cx} {K : PySem.W.Frag} {e : Expr} {T : String} {r : V → List V → Hp → VK → Prop} {to : TE} {t : TA} (h : X.K = K) (p : PE X e (tBM X.K T r to t)) : PE X e (tBM K T r to t) := by
  subst h
  exact p
theorem eraseMap : ∀ (l : List Str) (k : Nat), (l.map V.str).eraseIdx k = (l.eraseIdx k).map V.str
  | [], k => by simp
  | x :: l, 0 => by simp
  | x :: l, k + 1 => by simp [eraseMap l k]
def spShufV : Sp := fun vs H Q _ => ∃ (b g c t : Addr) (n : Nat) (xs : List V), vs = [.ref b, .ref t] ∧ Box H b g c n ∧ n + 100 < 1000000 ∧ H t = some (.lst xs) ∧ xs.length ≤ 60 ∧
  ∀ (D : Addr) (ys : List V) (H' : Hp), ys.Perm xs → H' D = some (.lst ys) → H D = none → Box H' b g c (n + xs.length) → But b g H H' → Q (.ref D) H'
def spShuf : Sp := fun vs H Q _ => ∃ (b g c t : Addr) (n : Nat) (ns : List Str), vs = [.ref b, .ref t] ∧ Box H b g c n ∧ n + 100 < 1000000 ∧ H t = some (.lst (ns.map V.str)) ∧ ns.length ≤ 60 ∧
  ∀ (D : Addr) (ys : List Str) (H' : Hp), ys.Perm ns → H' D = some (.lst (ys.map V.str)) → H D = none → Box H' b g c (n + ns.length) → But b g H H' → Q (.ref D) H'
theorem perm_back {α β : Type} {f : α → β} {ys l : List β} (h : ys.Perm l) : ∀ ns : List α, l = ns.map f → ∃ zs : List α, ys = zs.map f ∧ zs.Perm ns := by
  induction h with
  | nil =>
    intro ns e
    cases ns with
    | nil => exact ⟨[], rfl, .nil⟩
    | cons n ns => cases e
  | cons x h ih =>
    intro ns e
    cases ns with
    | nil => cases e
    | cons n ns =>
      obtain ⟨rfl, e2⟩ := List.cons.inj e
      obtain ⟨zs, rfl, p⟩ := ih ns e2
      exact ⟨n :: zs, rfl, .cons n p⟩
  | swap x y l =>
    intro ns e
    match ns, e with
    | n :: m :: ns, e =>
      obtain ⟨rfl, e2⟩ := List.cons.inj e
      obtain ⟨rfl, rfl⟩ := List.cons.inj e2
      exact ⟨m :: n :: ns, rfl, .swap n m ns⟩
  | trans h1 h2 ih1 ih2 =>
    intro ns e
    obtain ⟨zs, e2, p⟩ := ih2 ns e
    obtain ⟨ws, e3, p2⟩ := ih1 zs e2
    exact ⟨ws, e3, p2.trans p⟩
theorem call_lenK {X : Cx} {K : PySem.W.Frag} (h : X.K = K) : CallR X (.builtin "len") (fun xs H Q => ∃ p ys, xs = [.ref p] ∧ (SqL K H p ys ∨ SqT K H p ys) ∧ Q (.int (ys.length : Nat)) H) := by
  subst h
  exact call_len_seq
theorem ixSeq {n : Nat} {r : Nat} (h : r < n) : seqIndex? (r : Int) n = some r := by
  have e : ixN n (r : Int) = some r := by
    unfold ixN
    rw [if_pos (by omega), if_pos (by omega)]
    congr 1
  exact (ixN_seq e).1
section
variable {P : Program} {w : World} {K : PySem.W.Frag} {mg : Str → Option Value} {base : Heap}
theorem ok_shuffledV (T : Bt mg) (GT : Kn P w K mg base CX0 "_law_take" 34 ["_law_box_here", "_law_size"] spTake) (D : Df K mg "_law_shuffled" s_l_shuffled ["_law_box_here", "_law_things"]) :
    Kn P w K mg base CX0 "_law_shuffled" 35 ["_law_box_here", "_law_things"] spShufV := by
  obtain ⟨f, fd, F, hm, hb⟩ := D
  obtain ⟨f_l_take, fd_l_take, G_l_take, m_l_take, k_l_take, b_l_take⟩ := GT
  refine ⟨f, fd, F.ok sc_l_shuffled (fun vs H Q E h => ?_) (fun cdv A outer s H vs Q E hr h => ?_), hm, F.kp, hb⟩
  · obtain ⟨b, g, c, t, n, xs, rfl, _⟩ := h
    rfl
  · obtain ⟨b, g, c, t, n, xs, rfl, B, hn, ht, hl, q⟩ := h
    refine ⟨_, (pss_cons (ps_set (i := 2) sc_l_shuffled.nd rfl (Or.inr rfl) (pe_callTy call_list_of (by rfl) T.n_list (by decide +kernel) (pa_cons (pv 1) pa_nil)))
      (pss_one (ps_ret (pe_lc (own := [("_law_k", 3)]) rfl sc_l_shuffled.nd (pi_range1 rfl T.n_range (pa_cons (pe_callB (call_lenK (K := K) rfl) (by rfl) T.n_len (by decide +kernel) (pa_cons (pv 2) pa_nil)) pa_nil)) (blkOk_by (N := ["_law_box_here", "_law_things", "_law_pile", "_law_k"]) (sc := defScope s_l_shuffled) (by decide +kernel)) (fun _ _ _ _ _ => (pg_name (i := 3) sc_l_shuffled.nd rfl (Or.inl rfl))) (fun _ _ _ _ _ => pts_nil) (fun _ _ _ _ _ => (peK_bm (K := K) rfl (pe_bm PySem.F.plainAttrs_list PySem.F.slot_list_pop PySem.F.type_list_pop mt_popAt (pv 2) (pa_cons (pe_call G_l_take (hr.mono (by omega)) rfl m_l_take k_l_take b_l_take .nil pass0 (pa_cons (pv 0) (pa_cons (pe_callB (call_lenK (K := K) rfl) (by rfl) T.n_len (by decide +kernel) (pa_cons (pv 2) pa_nil)) pa_nil))) pa_nil)))))))), ?_⟩
    have p62 : (2 : Int) ^ 62 = 4611686018427387904 := by decide
    refine ⟨_, rfl, t, _, rfl, .inl (SqL.of ht), fun L hL => ?_⟩
    have s1 := same_new hL (.lst (xs))
    have B1 := B.same s1
    obtain ⟨lb, lg, lc⟩ := B.ne hL
    refine ⟨_, rfl, L, _, rfl, .inl (SqL.of upd_same), (xs.length : Int), rfl, by omega, by omega, fun D hD => ?_⟩
    have hLD : D ≠ L := fun e => by
      rw [e] at hD
      rw [upd_same] at hD
      cases hD
    obtain ⟨eb, eg, ec⟩ := B1.ne hD
    have nD : H D = none := by
      rw [upd_ne hLD] at hD
      exact hD
    refine lc_range (lo := 0) (n := ((xs.length : Int)).toNat) (fun j H' => ∃ done left : List V, done.length = j ∧ (done ++ left).Perm xs ∧ H' D = some (.lst (done)) ∧ H' L = some (.lst (left)) ∧ Box H' b g c (n + j) ∧ But b g H H') ⟨[], xs, rfl, List.Perm.refl _, upd_same, by rw [upd_ne hLD.symm]; exact upd_same, B1.off eb eg ec, ?_⟩ ?_ ?_
    · intro a o h _ _
      rw [upd_ne (ne_of_none h nD), upd_ne (ne_of_none h hL)]
      exact h
    · rintro j H2 hj ⟨done, left, ld, pm, hDd, hLl, B2, b2⟩
      have ll : left.length = xs.length - j := by
        have z := pm.length_eq
        rw [List.length_append, ld] at z
        omega
      have hjn : j < xs.length := by omega
      have lm : ((left).length : Int) = (left.length : Int) := rfl
      refine ⟨rfl, _, rfl, .inl ⟨rfl, _, SqL.of hLl⟩, _, rfl, _, rfl, L, _, rfl, .inl (SqL.of hLl), b, g, c, _, ((left).length : Int), rfl, B2, by omega, by omega, pow8000' _ 6 (by decide) (by rw [lm]; show ((left.length : Nat) : Int).natAbs < 64; omega), fun r H3 r0 r1 B3 b3 => ?_⟩
      obtain ⟨k, rfl⟩ : ∃ k : Nat, r = (k : Int) := ⟨r.toNat, by omega⟩
      have hk : k < left.length := by omega
      have hL3 := b3 L _ hLl lb lg
      have hD3 := b3 D _ hDd eb eg
      have p63 : (2 : Int) ^ 63 = 9223372036854775808 := by decide
      refine ⟨L, _, (k : Int), k, left[k], rfl, rfl, hL3, by omega, by omega, ixSeq hk, List.getElem?_eq_getElem hk, ?_⟩
      refine ⟨_, by rw [upd_ne hLD]; exact hD3, small1000 (by omega), done ++ [left[k]], left.eraseIdx k, by rw [List.length_append, ld]; rfl, ?_, ?_, ?_, ?_, ?_⟩
      · refine List.Perm.trans ?_ pm
        rw [List.append_assoc]
        exact List.Perm.append_left done (erase_perm left k left[k] (List.getElem?_eq_getElem hk))
      · exact upd_same
      · rw [upd_ne hLD.symm, upd_same]
      · exact (B3.off lb lg lc).off eb eg ec
      · intro a o h h1 h2
        rw [upd_ne (ne_of_none h nD), upd_ne (ne_of_none h hL)]
        exact b3 a o (b2 a o h h1 h2) h1 h2
    · rintro H2 ⟨done, left, ld, pm, hDd, hLl, B2, b2⟩
      have ll : left = [] := by
        have z := pm.length_eq
        rw [List.length_append, ld] at z
        exact List.length_eq_zero_iff.mp (by omega)
      rw [ll, List.append_nil] at pm
      exact q D done H2 pm hDd nD (B2.mono (by omega)) b2
theorem ok_shuffled (T : Bt mg) (GT : Kn P w K mg base CX0 "_law_take" 34 ["_law_box_here", "_law_size"] spTake) (D : Df K mg "_law_shuffled" s_l_shuffled ["_law_box_here", "_law_things"]) :
    Kn P w K mg base CX0 "_law_shuffled" 35 ["_law_box_here", "_law_things"] spShuf := by
  obtain ⟨f, fd, F, a, b, c⟩ := ok_shuffledV T GT D
  refine ⟨f, fd, F.imp fun vs H Q E h => ?_, a, b, c⟩
  obtain ⟨b, g, c, t, n, ns, rfl, B, hn, ht, hl, q⟩ := h
  refine ⟨b, g, c, t, n, ns.map V.str, rfl, B, hn, ht, by rw [List.length_map]; exact hl, fun D ys H' pm hD nD B' b' => ?_⟩
  obtain ⟨zs, rfl, p⟩ := perm_back pm ns rfl
  exact q D zs H' p hD nD (by rw [List.length_map] at B'; exact B') b'
end

def spFormF (K : PySem.W.Frag) : Sp := fun vs H Q _ => ∃ (d : Addr) (vc : V) (kvs : List (Key × V)) (ks : List Str) (zf : Str → Int × Int) (c : Int × Int), vs = [.ref d, vc] ∧ H d = some (.dK kvs) ∧ kvs.map (·.1) = ks.map Sum.inr ∧ ks.length ≤ 60 ∧
  (∀ k ∈ ks, ∃ v, valV kvs (Sum.inr k) = some v ∧ Dp K H v (numD (zf k))) ∧ Dp K H vc (numD c) ∧
  ∀ (r : V) (ys : List Str) (H' : Hp), Same H H' → ys.Perm ks → PyProof.Rows.sortedS ys = true → FormAt K H' r ((ys.filter fun k => decide ((zf k).1 ≠ 0)).map fun k => (k, zf k)) c → Q r H'
section
variable {P : Program} {w : World} {K : PySem.W.Frag} {mg : Str → Option Value} {base : Heap}
/-- what is known of a drawn form -/
structure GoodF (k : Nat) (ts : List (Str × (Int × Int))) (c : Int × Int) : Prop where
  terms : ∀ t ∈ ts, nameL t.1.cps.toList = true ∧ Red t.2 ∧ t.2.1 ≠ 0 ∧ Sz k t.2
  order : inOrder (ts.map (·.1)) = true
  const : Red c ∧ Sz k c
  few : ts.length ≤ 60
theorem cut_texts (ys : List Str) (lo hi : Option Int) : ∃ ms : List Str, cutV (ys.map V.str) lo hi = ms.map V.str ∧ ms.Sublist ys := by
  unfold cutV
  rw [← List.map_drop, ← List.map_take]
  exact ⟨_, rfl, (List.take_sublist _ _).trans (List.drop_sublist _ _)⟩
theorem seqT_mk {K : PySem.W.Frag} {H : Hp} {b g c a : Addr} {n : Nat} {xs : List V} (B : Box H b g c n) (h : SqT K H a xs) : SqT K (mk b g H) a xs := by
  rcases h with (h | ⟨o, h⟩) | h
  · exact .inl (.inl (mk_tup B h))
  · refine .inl (.inr ⟨o, ?_⟩)
    obtain ⟨gs, cs, cur, m, B, _⟩ := B
    refine mk_off h (fun z => ?_) fun z => ?_
    · rw [z, B.hb] at h
      cases h
    · rw [z, B.hg] at h
      cases h
  · exact .inr h
theorem ndT_mk {H : Hp} {b g c a : Addr} {n : Nat} {xs : List V} (B : Box H b g c n) (h : NdT H a xs) : NdT (mk b g H) a xs := by
  obtain ⟨o, h, d⟩ := h
  obtain ⟨gs, cs, cur, m, B, _⟩ := B
  refine ⟨o, mk_off h (fun z => ?_) (fun z => ?_), d⟩
  · rw [z, B.hb] at h
    cases h
  · rw [z, B.hg] at h
    cases h
theorem noList_formN (ts : List (Str × (Int × Int))) (c : Int × Int) : noL (formN ts c) = true := by
  have key : ∀ ts : List (Str × (Int × Int)), noLs (ts.map fun t => termN t.1 t.2) = true := by
    intro ts
    induction ts with
    | nil => rfl
    | cons t ts ih => show (true && noLs _) = true; rw [ih]; rfl
  show (noLs (ts.map fun t => termN t.1 t.2) && (true && true)) = true
  rw [key ts]
  rfl
theorem form_mk {K : PySem.W.Frag} {H : Hp} {b g c : Addr} {n : Nat} {v : V} {ts : List (Str × (Int × Int))} {z : Int × Int} (B : Box H b g c n) (h : FormAt K H v ts z) : FormAt K (mk b g H) v ts z := by
  obtain ⟨a, p, xs, vc, rfl, h1, h2, h3, h4⟩ := h
  have key : ∀ ts : List (Str × (Int × Int)), noLs (ts.map fun t => termN t.1 t.2) = true := by
    intro ts
    induction ts with
    | nil => rfl
    | cons t ts ih => show (true && noLs _) = true; rw [ih]; rfl
  refine ⟨a, p, xs, vc, rfl, seqT_mk B h1, dp_mk B _ _ (show (true && (true && true)) = true from rfl) h2, ndT_mk B h3, dps_mk B _ _ (key ts) h4⟩
def spDrawnF (K : PySem.W.Frag) (k : Nat) : Sp := fun vs H Q _ => ∃ (b g c t : Addr) (n : Nat) (ns : List Str), vs = [.ref b, .ref t] ∧ Box H b g c n ∧ n + 100 < 1000000 ∧ H t = some (.lst (ns.map V.str)) ∧ t ≠ b ∧ t ≠ g ∧ ns.length ≤ 6 ∧ ns.Nodup ∧ (∀ x ∈ ns, nameL x.cps.toList = true) ∧
  ∀ (r : V) (ts : List (Str × (Int × Int))) (z : Int × Int) (H' : Hp), GoodF k ts z → (∀ t ∈ ts, t.1 ∈ ns) → FormAt K (mk b g H') r ts z → Box H' b g c (n + 60) → But b g H H' → Q r H'
theorem valV_end {kvs : List (Key × V)} {k : Key} {v : V} (h : valV kvs k = none) : ∀ j, valV (kvs ++ [(k, v)]) j = if j = k then some v else valV kvs j := by
  intro j
  unfold valV at h ⊢
  rw [List.find?_append]
  by_cases e : j = k
  · subst e
    rw [if_pos rfl]
    cases hf : kvs.find? (fun kv => decide (kv.1 = j)) with
    | none => simp
    | some x => rw [hf] at h; cases h
  · rw [if_neg e]
    cases hf : kvs.find? (fun kv => decide (kv.1 = j)) with
    | none => simp [Ne.symm e]
    | some x => simp
end

/-! ### k05: the law's own sums and products -/
def spWorth (K : PySem.W.Frag) : Sp := fun vs H Q _ => ∃ (v : V) (d : Addr) (ns : List Str) (k m : Nat) (ts : Ts) (c : Int × Int) (ks : List Str) (zf : Str → Int × Int), vs = [v, .ref d] ∧ FormAt K H v ts c ∧ FormK ns k ts c ∧ DZ K H d ks zf ∧ (∀ x ∈ ns, x ∈ ks) ∧ (∀ x ∈ ks, Red (zf x) ∧ Sz m (zf x)) ∧
  k + ns.length * (k + m + 1) ≤ 40000000 ∧ ns.length ≤ 60 ∧ ∀ r H', Same H H' → Dp K H' r (numD (worthz zf ts c)) → Q r H'
def spJoint (K : PySem.W.Frag) : Sp := fun vs H Q _ => ∃ (v u : V) (ns : List Str) (j k : Nat) (ts us : Ts) (c e : Int × Int), vs = [v, u] ∧ FormAt K H v ts c ∧ FormAt K H u us e ∧ FormK ns j ts c ∧ FormK ns k us e ∧ ns.length ≤ 60 ∧ 1 ≤ j ∧ 1 ≤ k ∧ j + k + 1 ≤ 40000000 ∧
  ∀ r H' ws, Same H H' → FormAt K H' r ws (addz c e) → FormK ns (j + k + 1) ws (addz c e) → (∀ x, cq ws x = cq ts x + cq us x) → Q r H'
def spScaled (K : PySem.W.Frag) : Sp := fun vs H Q _ => ∃ (x v : V) (ns : List Str) (j k : Nat) (s : Int × Int) (ts : Ts) (c : Int × Int), vs = [x, v] ∧ Dp K H x (numD s) ∧ Red s ∧ Sz j s ∧ FormAt K H v ts c ∧ FormK ns k ts c ∧ ns.length ≤ 60 ∧ 1 ≤ k ∧ j + k + 1 ≤ 40000000 ∧
  ∀ r H' ws, Same H H' → FormAt K H' r ws (mulz s c) → FormK ns (j + k) ws (mulz s c) → (∀ y, cq ws y = qv s * cq ts y) → Q r H'
section
variable {P : Program} {w : World} {K : PySem.W.Frag} {mg : Str → Option Value} {base : Heap}
end

section
variable {P : Program} {w : World} {K : PySem.W.Frag} {mg : Str → Option Value} {base : Heap}
end

section
variable {P : Program} {w : World} {K : PySem.W.Frag} {mg : Str → Option Value} {base : Heap}
end

/-! ### forms over good names: what the program's checks say of them -/
theorem FormK.formD {ns : List Str} {k : Nat} {ts : Ts} {c : Int × Int} (f : FormK ns k ts c) (hn : ∀ x ∈ ns, nameL x.cps.toList = true) : formD (formN ts c) = true := by
  show (isRat (numD c) && ((ts.map fun t => termN t.1 t.2).all termD && inOrder ((ts.map fun t => termN t.1 t.2).map fstName))) = true
  have rt : ∀ {z : Int × Int}, Red z → ratOf (numD z) = some z := fun {z} h => by
    show (if 1 ≤ z.2 ∧ Int.gcd z.1 z.2 = 1 then some (z.1, z.2) else none) = some z
    rw [if_pos ⟨h.pos, h.co⟩]
  have h1 : isRat (numD c) = true := by unfold isRat; rw [rt f.const.1]; rfl
  have h2 : (ts.map fun t => termN t.1 t.2).all termD = true := by
    rw [List.all_eq_true]
    intro d hd
    obtain ⟨t, ht, rfl⟩ := List.mem_map.mp hd
    obtain ⟨b, e, _⟩ := f.terms t ht
    show (nameL t.1.cps.toList && (match ratOf (numD t.2) with | some z => decide (z.1 ≠ 0) | none => false)) = true
    rw [rt b, hn _ (f.names t ht), Bool.true_and]
    exact decide_eq_true e
  have h3 : (ts.map fun t => termN t.1 t.2).map fstName = ts.map (·.1) := by rw [List.map_map]; rfl
  rw [h1, h2, h3, f.order]
  rfl
theorem shorts_all : ∀ {ds : List PyData}, (∀ d ∈ ds, shortD d = true) → shortDs ds = true
  | [], _ => rfl
  | d :: ds, h => by
    show (shortD d && shortDs ds) = true
    rw [h d (List.mem_cons_self ..), shorts_all fun e he => h e (List.mem_cons_of_mem _ he)]
    rfl
theorem name_short {x : Str} (h : nameL x.cps.toList = true) : shortD (.str x) = true := by
  refine decide_eq_true ?_
  unfold nameL at h
  rw [Bool.and_eq_true, Bool.and_eq_true, Bool.and_eq_true, Bool.and_eq_true, decide_eq_true_eq, decide_eq_true_eq] at h
  have z : x.cps.toList.length < 9 := h.1.1.1.2
  rw [Array.length_toList] at z
  exact Nat.le_of_lt (Nat.lt_of_lt_of_le z (by decide))
theorem FormK.short {ns : List Str} {k : Nat} {ts : Ts} {c : Int × Int} (f : FormK ns k ts c) (hn : ∀ x ∈ ns, nameL x.cps.toList = true) (h6 : ns.length ≤ 60) : shortD (formN ts c) = true := by
  have h1 : shortD (.tuple (ts.map fun t => termN t.1 t.2)) = true := by
    show (decide ((ts.map fun t => termN t.1 t.2).length ≤ 60) && shortDs _) = true
    rw [List.length_map, decide_eq_true (Nat.le_trans f.few h6), shorts_all]
    · rfl
    · intro d hd
      obtain ⟨t, ht, rfl⟩ := List.mem_map.mp hd
      show (true && (shortD (.str t.1) && ((true && (true && (true && true))) && true))) = true
      rw [name_short (hn _ (f.names t ht))]
      rfl
  show (true && (shortD (.tuple (ts.map fun t => termN t.1 t.2)) && ((true && (true && (true && true))) && true))) = true
  rw [h1]
  rfl
theorem FormK.lay {ns : List Str} {k : Nat} {ts : Ts} {c : Int × Int} (f : FormK ns k ts c) (hn : ∀ x ∈ ns, nameL x.cps.toList = true) : (formN ts c).canLay0 = true ∧ SeqAt.shaped (formN ts c) = true := by
  have key : ∀ {ts : Ts}, (∀ t ∈ ts, PyData.strOk t.1 = true) → PyData.canLayAll0 (ts.map fun t => termN t.1 t.2) = true ∧ PyData.depthAll (ts.map fun t => termN t.1 t.2) ≤ 2 := by
    intro ts
    induction ts with
    | nil => intro _; exact ⟨rfl, Nat.zero_le _⟩
    | cons t ts ih =>
      intro h
      obtain ⟨a, b⟩ := ih fun u hu => h u (List.mem_cons_of_mem _ hu)
      constructor
      · show ((PyData.strOk t.1 && ((true && (true && true)) && true)) && PyData.canLayAll0 _) = true
        rw [h t (List.mem_cons_self ..), a]
        rfl
      · show max (max 0 (max (max 0 (max 0 0) + 1) 0) + 1) (PyData.depthAll _) ≤ 2
        omega
  obtain ⟨a, b⟩ := key fun t ht => name_ok (hn _ (f.names t ht))
  have l : (formN ts c).canLay0 = true := by
    show (PyData.canLayAll0 _ && ((true && (true && true)) && true)) = true
    rw [a]
    rfl
  refine ⟨l, ?_⟩
  unfold SeqAt.shaped
  rw [l, Bool.true_and, decide_eq_true_eq]
  show max (PyData.depthAll _ + 1) (max (max 0 (max 0 0) + 1) 0) + 1 ≤ 64
  omega
theorem form_eqv {ns : List Str} {k : Nat} {ts us : Ts} {c e : Int × Int} (f : FormK ns k ts c) (hn : ∀ x ∈ ns, nameL x.cps.toList = true) (h1 : ts = us) (h2 : c = e) : PyData.eqv (formN ts c) (formN us e) = true := by
  subst h1 h2
  exact PySem.SeqAt.eqv_refl _ (f.lay hn).1
theorem num_eqv {a b : Int × Int} (h : a = b) : PyData.eqv (numD a) (numD b) = true := by
  subst h
  exact PySem.SeqAt.eqv_refl _ rfl
/-- a form that does not reach a list -/
theorem form_hide {K : PySem.W.Frag} {H : Hp} {D : Addr} {xs : List V} {v : V} {ts : Ts} {c : Int × Int} (h : FormAt K H v ts c) (hD : H D = some (.lst xs)) : FormAt K (hide D H) v ts c := by
  have sq : ∀ {a ys}, SqT K H a ys → SqT K (hide D H) a ys := fun {a ys} h => by
    rcases h with (h | ⟨o, h⟩) | h
    · exact .inl (.inl (hide_at h fun e => by rw [e, hD] at h; cases h))
    · exact .inl (.inr ⟨o, hide_at h fun e => by rw [e, hD] at h; cases h⟩)
    · exact .inr h
  have num : ∀ {u : V} {z : Int × Int}, Dp K H u (numD z) → Dp K (hide D H) u (numD z) := fun {u z} h => by
    obtain ⟨p, rfl, hp⟩ := dp_rat_inv h
    exact .tup (sq hp) (.cons (.int _) (.cons (.int _) .nil))
  have terms : ∀ {ts : Ts} {ys : List V}, DpAll K H ys (ts.map fun t => termN t.1 t.2) → DpAll K (hide D H) ys (ts.map fun t => termN t.1 t.2) := by
    intro ts
    induction ts with
    | nil => intro ys h; cases h; exact .nil
    | cons t ts ih =>
      intro ys h
      cases h with
      | @cons y _ ys _ hy hr =>
        have hy : Dp K H y (.tuple [.str t.1, numD t.2]) := hy
        cases hy with
        | @tup p zs _ hs ha =>
          cases ha with
          | @cons n _ _ _ hn ha =>
            cases ha with
            | @cons z _ _ _ hz ha =>
              cases ha
              exact .cons (.tup (sq hs) (.cons (by cases hn; exact .str _) (.cons (num hz) .nil))) (ih hr)
  obtain ⟨a, p, ys, vc, rfl, h1, h2, ⟨o, h3, od⟩, h4⟩ := h
  exact ⟨a, p, ys, vc, rfl, sq h1, num h2, ⟨o, hide_at h3 (fun e => by rw [e, hD] at h3; cases h3), od⟩, terms h4⟩
theorem mk_upd {b g d : Addr} {H : Hp} {o : HO} (n1 : d ≠ b) (n2 : d ≠ g) : mk b g (upd H d o) = upd (mk b g H) d o := funext fun a => by
  unfold mk
  by_cases e : a = d
  · subst e
    rw [if_neg (fun z => z.elim n1 n2), upd_same, upd_same]
  · rw [upd_ne e, upd_ne e]
theorem paired_same {K : PySem.W.Frag} {H H' : Hp} (s : Same H H') : ∀ {ps : List Addr} {kvs : List (Key × V)}, Paired (fun p kv => SqT K H p [kV kv.1, kv.2]) ps kvs → Paired (fun p kv => SqT K H' p [kV kv.1, kv.2]) ps kvs
  | _, _, .nil => .nil
  | _, _, .cons h t => .cons (same_seqT s h) (paired_same s t)
theorem sum_change {ns : List Str} (nd : ns.Nodup) {x : Str} (hx : x ∈ ns) (a v : Str → Rat) (u : Rat) : (ns.map fun y => a y * (if y = x then u else v y)).sum = (ns.map fun y => (if y = x then 0 else a y) * v y).sum + a x * u := by
  have e1 : (ns.map fun y => a y * (if y = x then u else v y)) = ns.map fun y => if x = y then a x * u else a y * v y := List.map_congr_left fun y _ => by
    by_cases e : y = x
    · rw [if_pos e, if_pos e.symm, e]
    · rw [if_neg e, if_neg (fun z => e z.symm)]
  have e2 : (ns.map fun y => (if y = x then 0 else a y) * v y) = ns.map fun y => if x = y then 0 else a y * v y := List.map_congr_left fun y _ => by
    by_cases e : y = x
    · rw [if_pos e, if_pos e.symm]
      grind
    · rw [if_neg e, if_neg (fun z => e z.symm)]
  rw [e1, e2, sum_at nd hx]
  grind

theorem az_lets {c : Nat} (h : az c = true) : c ∈ lets := by
  unfold az at h
  rw [Bool.and_eq_true, decide_eq_true_eq, decide_eq_true_eq] at h
  have key : ∀ c, c < 123 → 97 ≤ c → c ∈ lets := by decide
  exact key c (by omega) h.1
theorem nmOk_name {ns : List Str} {x : Str} (h : nameL x.cps.toList = true) (m : x ∈ ns) : NmOk ns x.cps.toList := by
  have z := h
  unfold nameL at z
  rw [Bool.and_eq_true, Bool.and_eq_true, Bool.and_eq_true, Bool.and_eq_true, decide_eq_true_eq, decide_eq_true_eq, decide_eq_true_eq, decide_eq_true_eq] at z
  exact ⟨z.1.1.1.1, fun c hc => az_lets (name_az h hc), by have := (name_len h).1; omega, z.1.2, z.2, by rw [strS_eq]; exact m⟩

end Bs
namespace Bs
open PySem
open L2
open PyProof.Rows
/-! ### formulas of k16's rows, with their forms -/
theorem rd_toks {ns : List Str} {u : List Nat} {g : Fq} (h : RdP ns .sm u g) : ∃ ts ss, Toks u 0 ts ∧ GrV ns .sm ts ss [g] := by
  obtain ⟨ts, ss, k, lx⟩ := h 0
  have l0 := lx [] [] (fun x hx => by cases hx) .nil
  rw [List.append_nil, List.append_nil] at l0
  exact ⟨ts, ss, lex_toks l0 [] rfl, k⟩
theorem rd_nm {ns : List Str} {w : List Nat} (h : NmOk ns w) : RdP ns .fac w (celQ (SX.S w)) := by
  have z := rd_name false h
  have e : sclQ (sgB false) (celQ (SX.S w)) = celQ (SX.S w) := scl_one _
  rw [e] at z
  exact z
theorem rd_dig (ns : List Str) {n c : Nat} (h : TL.numL n = [c]) : RdP ns .fac [c] (conQ (n : Rat)) := by
  have z := rd_num ns false n (by rw [h]; exact (by decide : 1 ≤ 4900))
  rw [h] at z
  have e : sgB false * (n : Rat) = (n : Rat) := by show 1 * (n : Rat) = n; grind
  rw [e] at z
  exact z
/-- a text, read as a form that names just the cells sp -/
structure Fm (sp : List Str) (u : List Nat) (g : Fq) : Prop where
  len : u.length ≤ 40
  rd : ∀ ns : List Str, (∀ y ∈ sp, y ∈ ns) → ∃ ts ss, Toks u 0 ts ∧ GrV ns .sm ts ss [g]
/-- .. and what is named -/
def Nm (sp : List Str) (g : Fq) : Prop := ∀ y, g.1 y ≠ 0 ↔ y ∈ sp
section
variable {x y : Str} (hx : nameL x.cps.toList = true) (hy : nameL y.cps.toList = true)
theorem nm8 (hx : nameL x.cps.toList = true) : x.cps.toList.length ≤ 8 := by
  have := (name_len hx).1
  omega
theorem ok_in {ns : List Str} (hx : nameL x.cps.toList = true) (h : x ∈ ns) : RdP ns .fac x.cps.toList (celQ x) := by
  have z := rd_nm (nmOk_name hx h)
  rw [strS_eq] at z
  exact z
theorem one_ne : (1 : Rat) ≠ 0 := by decide
theorem cel_nm (x : Str) : Nm [x] (celQ x) := fun y => by
  show (if x = y then (1 : Rat) else 0) ≠ 0 ↔ y ∈ [x]
  rw [List.mem_singleton]
  by_cases e : x = y
  · rw [if_pos e]
    exact ⟨fun _ => e.symm, fun _ => one_ne⟩
  · rw [if_neg e]
    exact ⟨fun h => absurd rfl h, fun h => absurd h.symm e⟩
/-- a cell's name alone -/
theorem fm_cell (hx : nameL x.cps.toList = true) : Fm [x] x.cps.toList (celQ x) :=
  ⟨by have := nm8 hx; omega, fun ns h => rd_toks (rd_sm (rd_prd (ok_in hx (h x (List.mem_singleton.mpr rfl)))))⟩
/-- twice a cell, less 1 -/
theorem fm_twice (hx : nameL x.cps.toList = true) : ∃ g, Fm [x] ([50, 42] ++ x.cps.toList ++ [32, 45, 32, 49]) g ∧ Nm [x] g := by
  refine ⟨addQ (sclQ 2 (celQ x)) (sclQ (-1) (conQ 1)), ⟨?_, fun ns h => ?_⟩, fun y => ?_⟩
  · have := nm8 hx
    simp only [List.length_append, List.length_cons, List.length_nil]
    omega
  · have a := rd_prdB (c := 42) (g := sclQ 2 (celQ x)) 0 0 (.inl rfl) (fun p => pf_mul1 (l := [conQ ((2 : Nat) : Rat), celQ x]) rfl (show isC (nth0 [conQ ((2 : Nat) : Rat), celQ x] 0) from con_isC _)) (rd_prd ((rd_dig ns (n := 2) (c := 50) (by decide +kernel)))) (ok_in hx (h x (List.mem_singleton.mpr rfl)))
    have b := rd_smB (g := addQ (sclQ 2 (celQ x)) (sclQ (-1) (conQ 1))) 1 1 (.inr rfl) (fun p => pf_sub rfl) (rd_sm a) (rd_prd (rd_dig ns (n := 1) (c := 49) (by decide +kernel)))
    have z := rd_toks b
    simp only [List.append_assoc] at z
    simp only [List.append_assoc]
    exact z
  · have c := cel_nm x y
    unfold Nm at c
    have e : (addQ (sclQ 2 (celQ x)) (sclQ (-1) (conQ 1))).1 y = 2 * (celQ x).1 y + (-1) * 0 := rfl
    rw [e, ← c]
    constructor
    · intro h q
      rw [q] at h
      exact h (by grind)
    · intro h q
      exact h (by grind)
/-- half a cell, and another one -/
theorem fm_half (hx : nameL x.cps.toList = true) (hy : nameL y.cps.toList = true) : ∃ g, Fm [x, y] (x.cps.toList ++ [47, 50, 32, 43, 32] ++ y.cps.toList) g ∧ Nm [x, y] g := by
  refine ⟨[sclQ (1 / 2) (celQ x), celQ y].foldl addQ (conQ 0), ⟨?_, fun ns h => ?_⟩, fun z => ?_⟩
  · have := nm8 hx
    have := nm8 hy
    simp only [List.length_append, List.length_cons, List.length_nil]
    omega
  · have a := rd_prdB (g := sclQ (1 / 2) (celQ x)) 0 0 (.inr rfl) (fun p => pf_div1 (l := [celQ x, conQ ((2 : Nat) : Rat)]) rfl (show isC (nth0 [celQ x, conQ ((2 : Nat) : Rat)] 1) from con_isC _) (show ((2 : Nat) : Rat) ≠ 0 by decide)) (rd_prd (ok_in hx (h x (List.mem_cons_self ..)))) (rd_dig ns (n := 2) (c := 50) (by decide +kernel))
    have b := rd_smB (g := [sclQ (1 / 2) (celQ x), celQ y].foldl addQ (conQ 0)) 1 1 (.inl rfl) (fun p => pf_sum (.inl rfl)) (rd_sm a) (rd_prd (ok_in hy (h y (List.mem_cons_of_mem _ (List.mem_cons_self ..)))))
    have z := rd_toks b
    simp only [List.append_assoc] at z
    simp only [List.append_assoc]
    exact z
  · have e : ([sclQ (1 / 2) (celQ x), celQ y].foldl addQ (conQ 0)).1 z = 0 + 1 / 2 * (celQ x).1 z + (celQ y).1 z := rfl
    rw [e]
    show 0 + 1 / 2 * (if x = z then (1 : Rat) else 0) + (if y = z then (1 : Rat) else 0) ≠ 0 ↔ z ∈ [x, y]
    simp only [List.mem_cons, List.not_mem_nil, or_false]
    by_cases e1 : x = z
    · by_cases e2 : y = z
      · rw [if_pos e1, if_pos e2]
        exact ⟨fun _ => .inl e1.symm, fun _ => by grind⟩
      · rw [if_pos e1, if_neg e2]
        exact ⟨fun _ => .inl e1.symm, fun _ => by grind⟩
    · by_cases e2 : y = z
      · rw [if_neg e1, if_pos e2]
        exact ⟨fun _ => .inr e2.symm, fun _ => by grind⟩
      · rw [if_neg e1, if_neg e2]
        exact ⟨fun h => absurd (by grind) h, fun h => h.elim (fun h => absurd h.symm e1) fun h => absurd h.symm e2⟩
/-- a cell and 1 -/
theorem fm_plus (hx : nameL x.cps.toList = true) : ∃ g, Fm [x] (x.cps.toList ++ [32, 43, 32, 49]) g ∧ Nm [x] g := by
  refine ⟨[celQ x, conQ 1].foldl addQ (conQ 0), ⟨?_, fun ns h => ?_⟩, fun y => ?_⟩
  · have := nm8 hx
    simp only [List.length_append, List.length_cons, List.length_nil]
    omega
  · have b := rd_smB (g := [celQ x, conQ 1].foldl addQ (conQ 0)) 1 1 (.inl rfl) (fun p => pf_sum (.inl rfl)) (rd_sm (rd_prd (ok_in hx (h x (List.mem_singleton.mpr rfl))))) (rd_prd (rd_dig ns (n := 1) (c := 49) (by decide +kernel)))
    have z := rd_toks b
    simp only [List.append_assoc] at z
    exact z
  · have c := cel_nm x y
    have e : ([celQ x, conQ 1].foldl addQ (conQ 0)).1 y = 0 + (celQ x).1 y + 0 := rfl
    rw [e, ← c]
    constructor
    · intro h q
      rw [q] at h
      exact h (by grind)
    · intro h q
      exact h (by grind)
/-- the average of a cell and 2 -/
theorem fm_avg (hx : nameL x.cps.toList = true) : ∃ g, Fm [x] (avgW ++ [40] ++ x.cps.toList ++ [44, 32, 50, 41]) g ∧ Nm [x] g := by
  refine ⟨sclQ (1 / ((2 : Nat) : Rat)) ([celQ x, conQ 2].foldl addQ (conQ 0)), ⟨?_, fun ns h => ?_⟩, fun y => ?_⟩
  · have := nm8 hx
    have l : avgW.length = 7 := by decide
    simp only [List.length_append, List.length_cons, List.length_nil, l]
    omega
  · have a := rds_one 0 0 (rd_sm (rd_prd (ok_in hx (h x (List.mem_singleton.mpr rfl)))))
    have b := rds_more 0 1 a (rd_sm (rd_prd (rd_dig ns (n := 2) (c := 50) (by decide +kernel))))
    have d := rd_fn (g := sclQ (1 / ((2 : Nat) : Rat)) ([celQ x, conQ 2].foldl addQ (conQ 0))) 0 (.inr rfl) b (fun p => pf_avg rfl)
    have z := rd_toks (rd_sm (rd_prd d))
    simp only [List.append_assoc] at z
    simp only [List.append_assoc]
    exact z
  · have c := cel_nm x y
    have e : (sclQ (1 / ((2 : Nat) : Rat)) ([celQ x, conQ 2].foldl addQ (conQ 0))).1 y = 1 / ((2 : Nat) : Rat) * (0 + (celQ x).1 y + 0) := rfl
    have h2 : ((2 : Nat) : Rat) = 2 := rfl
    rw [e, ← c, h2]
    constructor
    · intro h q
      rw [q] at h
      exact h (by grind)
    · intro h q
      exact h (by grind)
/-- a cell that cancels, and another one -/
theorem fm_gone (hx : nameL x.cps.toList = true) (hy : nameL y.cps.toList = true) : ∃ g, Fm [y, x] (y.cps.toList ++ [32, 45, 32] ++ y.cps.toList ++ [32, 43, 32] ++ x.cps.toList) g ∧ Nm [x] g := by
  refine ⟨[addQ (celQ y) (sclQ (-1) (celQ y)), celQ x].foldl addQ (conQ 0), ⟨?_, fun ns h => ?_⟩, fun z => ?_⟩
  · have := nm8 hx
    have := nm8 hy
    simp only [List.length_append, List.length_cons, List.length_nil]
    omega
  · have ry := ok_in hy (h y (List.mem_cons_self ..))
    have a := rd_smB (g := addQ (celQ y) (sclQ (-1) (celQ y))) 1 1 (.inr rfl) (fun p => pf_sub rfl) (rd_sm (rd_prd ry)) (rd_prd ry)
    have b := rd_smB (g := [addQ (celQ y) (sclQ (-1) (celQ y)), celQ x].foldl addQ (conQ 0)) 1 1 (.inl rfl) (fun p => pf_sum (.inl rfl)) a (rd_prd (ok_in hx (h x (List.mem_cons_of_mem _ (List.mem_cons_self ..)))))
    have z := rd_toks b
    simp only [List.append_assoc] at z
    simp only [List.append_assoc]
    exact z
  · have c := cel_nm x z
    have e : ([addQ (celQ y) (sclQ (-1) (celQ y)), celQ x].foldl addQ (conQ 0)).1 z = 0 + ((celQ y).1 z + (-1) * (celQ y).1 z) + (celQ x).1 z := rfl
    rw [e, ← c]
    constructor
    · intro h q
      rw [q] at h
      exact h (by grind)
    · intro h q
      exact h (by grind)
end

end Bs
namespace Bs
open PySem
open L2
/-! ### lists of names -/
theorem sum_sub {f : Str → Nat} : ∀ {l m : List Str}, l.Nodup → (∀ x ∈ l, x ∈ m) → (l.map f).sum ≤ (m.map f).sum
  | [], _, _, _ => Nat.zero_le _
  | x :: l, m, nd, h => by
    rw [List.nodup_cons] at nd
    obtain ⟨m1, m2, rfl⟩ := List.append_of_mem (h x (List.mem_cons_self ..))
    have z := sum_sub (f := f) (m := m1 ++ m2) nd.2 fun y hy => by
      have hy' := h y (List.mem_cons_of_mem _ hy)
      simp only [List.mem_append, List.mem_cons] at hy' ⊢
      rcases hy' with a | a | a
      · exact .inl a
      · exact absurd (by rw [← a]; exact hy) nd.1
      · exact .inr a
    simp only [List.map_append, List.map_cons, List.sum_append, List.sum_cons] at z ⊢
    omega
theorem get_inj {nm : List Str} (nd : nm.Nodup) {i j : Nat} {x : Str} (h1 : nm[i]? = some x) (h2 : nm[j]? = some x) : i = j := by
  obtain ⟨a, e1⟩ := List.getElem?_eq_some_iff.mp h1
  obtain ⟨b, e2⟩ := List.getElem?_eq_some_iff.mp h2
  have pw := List.pairwise_iff_getElem.mp nd
  rcases Nat.lt_trichotomy i j with h | h | h
  · exact absurd (e1.trans e2.symm) (pw i j a b h)
  · exact h
  · exact absurd (e2.trans e1.symm) (pw j i b a h)
theorem take_mem {nm : List Str} {j : Nat} {x : Str} (h : x ∈ nm.take j) : ∃ i, i < j ∧ nm[i]? = some x := by
  obtain ⟨i, hi, e⟩ := List.getElem_of_mem h
  rw [List.length_take] at hi
  refine ⟨i, by omega, ?_⟩
  rw [List.getElem_take] at e
  rw [← e]
  exact List.getElem?_eq_getElem (by omega)
theorem idx_of {nm : List Str} (nd : nm.Nodup) {i : Nat} {x : Str} (h : nm[i]? = some x) : nm.findIdx (fun y => decide (y = x)) = i := by
  obtain ⟨hi, e⟩ := List.getElem?_eq_some_iff.mp h
  have hx : x ∈ nm := List.mem_of_getElem? h
  have lt : nm.findIdx (fun y => decide (y = x)) < nm.length := List.findIdx_lt_length_of_exists ⟨x, hx, decide_eq_true rfl⟩
  have g := List.findIdx_getElem (w := lt)
  have g2 : nm[nm.findIdx (fun y => decide (y = x))] = x := of_decide_eq_true g
  exact get_inj nd ((List.getElem?_eq_getElem lt).trans (by rw [g2])) h
def rkD (nm : List Str) (x : Str) : Nat := nm.findIdx fun y => decide (y = x)

/-! ### a sheet of formulas of one or two cells each: its bits and its values -/
noncomputable def valN (rows : List Rw) : Nat → Str → Rat
  | 0, x => qv (zOf rows x)
  | n + 1, x => if x ∈ csOf rows then evQ (nsOf rows) (fOf rows x).1 (valN rows n) else qv (zOf rows x)
def bk16 (rk : Str → Nat) (x : Str) : Nat := 2100 * (2 ^ (rk x + 1) - 1)
theorem bk16_le {rk : Str → Nat} {x : Str} (h : rk x ≤ 11) : bk16 rk x ≤ 8599500 := by
  unfold bk16
  have : 2 ^ (rk x + 1) ≤ 2 ^ 12 := Nat.pow_le_pow_right (by decide) (by omega)
  have e : (2 : Nat) ^ 12 = 4096 := by decide
  omega
section
variable {rows : List Rw} {rk : Str → Nat}
theorem valN_fix (low : ∀ x ∈ csOf rows, ∀ y, (fOf rows x).1.1 y ≠ 0 → rk y < rk x) : ∀ (n : Nat) (x : Str), rk x < n → valN rows n x = valN rows (n + 1) x
  | 0, _, h => absurd h (Nat.not_lt_zero _)
  | n + 1, x, h => by
    by_cases hx : x ∈ csOf rows
    · have e1 : valN rows (n + 1) x = evQ (nsOf rows) (fOf rows x).1 (valN rows n) := if_pos hx
      have e2 : valN rows (n + 1 + 1) x = evQ (nsOf rows) (fOf rows x).1 (valN rows (n + 1)) := if_pos hx
      rw [e1, e2]
      show _ + _ = _ + _
      congr 1
      refine sum_eq fun y _ => ?_
      by_cases hy : (fOf rows x).1.1 y = 0
      · rw [hy]
        grind
      · have := low x hx y hy
        rw [valN_fix low n y (by omega)]
    · have e1 : valN rows (n + 1) x = qv (zOf rows x) := if_neg hx
      have e2 : valN rows (n + 1 + 1) x = qv (zOf rows x) := if_neg hx
      rw [e1, e2]
theorem mk_shok (nd : (nsOf rows).Nodup) (len : rows.length ≤ 12) (ok : ∀ r ∈ rows, RowOk (nsOf rows) r) (rk11 : ∀ r ∈ rows, rk r.1 ≤ 11)
    (fr : ∀ r ∈ rows, ∀ l g, r.2 = .frm l g → l.length ≤ 40 ∧ ∃ sp : List Str, sp.length ≤ 2 ∧ Nm sp g ∧ ∀ y ∈ sp, y ∈ nsOf rows ∧ rk y < rk r.1) (ins : (insOf rows).length ≤ 2)
    (sz : ∀ r ∈ rows, ∀ d z, r.2 = .inp d z → Sz 40 z) : ShOk rows rk (bk16 rk) (valN rows 12) 40 := by
  have supp : ∀ r ∈ rows, ∀ l g, r.2 = .frm l g → ∀ y, g.1 y ≠ 0 → y ∈ nsOf rows ∧ rk y < rk r.1 := fun r hr l g e y hy => by
    obtain ⟨_, sp, _, h2, h3⟩ := fr r hr l g e
    exact h3 y ((h2 y).mp hy)
  have low : ∀ x ∈ csOf rows, ∀ y, (fOf rows x).1.1 y ≠ 0 → rk y < rk x := fun x hx y hy => by
    obtain ⟨r, hr, rfl, hf⟩ := mem_cs hx
    obtain ⟨l, g, e⟩ := isF_frm hf
    rw [fOf_mem nd hr, cellF_frm e] at hy
    exact (supp r hr l g e y hy).2
  refine ⟨nd, ok, by omega, supp, fun r hr l g e => ?_, fun r hr _ => ?_, fun r hr => ?_, sz, fun r hr => ?_, fun r hr d z e => ?_, fun r hr l g e => ?_⟩
  · obtain ⟨h1, sp, h2, h3, h4⟩ := fr r hr l g e
    have z := sum_sub (f := fun d => 17 * l.length + bk16 rk d + 1) (l := (nsOf rows).filter fun d => decide (g.1 d ≠ 0)) (m := sp) (nd.sublist List.filter_sublist) fun y hy => (h3 y).mp (of_decide_eq_true (List.mem_filter.mp hy).2)
    have each : ∀ y ∈ sp, 17 * l.length + bk16 rk y + 1 ≤ 681 + 2100 * (2 ^ rk r.1 - 1) := fun y hy => by
      have := (h4 y hy).2
      have p : 2 ^ (rk y + 1) ≤ 2 ^ rk r.1 := Nat.pow_le_pow_right (by decide) (by omega)
      unfold bk16
      omega
    have tot : (sp.map fun d => 17 * l.length + bk16 rk d + 1).sum ≤ 2 * (681 + 2100 * (2 ^ rk r.1 - 1)) := by
      match sp, h2, each with
      | [], _, _ => exact Nat.zero_le _
      | [a], _, e => have := e a (List.mem_cons_self ..); simp only [List.map_cons, List.map_nil, List.sum_cons, List.sum_nil]; omega
      | [a, b], _, e => have := e a (List.mem_cons_self ..); have := e b (List.mem_cons_of_mem _ (List.mem_cons_self ..)); simp only [List.map_cons, List.map_nil, List.sum_cons, List.sum_nil]; omega
    have p1 : 1 ≤ 2 ^ rk r.1 := Nat.one_le_two_pow
    have e2 : 2 ^ (rk r.1 + 1) = 2 * 2 ^ rk r.1 := by rw [Nat.pow_succ]; omega
    show _ ≤ 2100 * (2 ^ (rk r.1 + 1) - 1)
    omega
  · have e2 : 2 ^ (rk r.1 + 1) = 2 * 2 ^ rk r.1 := by rw [Nat.pow_succ]; omega
    have p1 : 1 ≤ 2 ^ rk r.1 := Nat.one_le_two_pow
    show 1 ≤ 2100 * (2 ^ (rk r.1 + 1) - 1)
    omega
  · have := bk16_le (rk11 r hr)
    omega
  · have h := bk16_le (rk11 r hr)
    have z := Nat.mul_le_mul ins (Nat.add_le_add_right (Nat.add_le_add_right h 40) 1)
    omega
  · have hc : r.1 ∉ csOf rows := fun q => by
      have f : isF r = false := by unfold isF; rw [e]
      rw [(cs_iff nd hr).mp q] at f
      cases f
    have e1 : valN rows 12 r.1 = qv (zOf rows r.1) := if_neg hc
    rw [e1, zOf_mem nd hr e]
  · have hc : r.1 ∈ csOf rows := (cs_iff nd hr).mpr (by unfold isF; rw [e])
    have := rk11 r hr
    rw [valN_fix low 12 r.1 (by omega)]
    have e1 : valN rows 13 r.1 = evQ (nsOf rows) (fOf rows r.1).1 (valN rows 12) := if_pos hc
    rw [e1, fOf_mem nd hr, cellF_frm e]
end
/-! ### the rows that the law draws -/
def Row16 (nm : List Str) (many j : Nat) (r : Rw) : Prop := nm[j]? = some r.1 ∧
  ((j < many ∧ ∃ u g x1 sp, r.2 = .frm u g ∧ nm[(j + 1) % many]? = some x1 ∧ Fm sp u g ∧ Nm sp g ∧ x1 ∈ sp ∧ sp.length ≤ 2 ∧ ∀ y ∈ sp, y = x1 ∨ nm[0]? = some y) ∨
   (j = many ∧ r.2 = .inp (.int 3) (3, 1)) ∨
   (many < j ∧ ∃ u g i x1 sp, r.2 = .frm u g ∧ i < j ∧ nm[i]? = some x1 ∧ Fm sp u g ∧ (∀ y ∈ sp, y ∈ nm) ∧ Nm [x1] g))
structure Sh16 (nm : List Str) (many : Nat) (rs : List Rw) : Prop where
  nd : nm.Nodup
  nms : ∀ x ∈ nm, nameL x.cps.toList = true
  len : rs.length = nm.length
  l12 : nm.length ≤ 12
  mn : many < nm.length
  row : ∀ j r, rs[j]? = some r → Row16 nm many j r
def rk16 (nm : List Str) (many : Nat) (x : Str) : Nat := if 0 < rkD nm x ∧ rkD nm x < many then many - rkD nm x else rkD nm x
def cutR (nm : List Str) (many : Nat) (r : Rw) : Rw := if many ≠ 0 ∧ nm[0]? = some r.1 then (r.1, .inp (.int 5) (5, 1)) else r
section
variable {nm : List Str} {many : Nat} {rs rows : List Rw}
theorem Sh16.names (S : Sh16 nm many rs) : rs.map (·.1) = nm := by
  refine List.ext_getElem? fun j => ?_
  rw [List.getElem?_map]
  cases h : rs[j]? with
  | none =>
    have : nm.length ≤ j := by rw [← S.len]; exact List.getElem?_eq_none_iff.mp h
    rw [List.getElem?_eq_none_iff.mpr this]
    rfl
  | some r => exact (S.row j r h).1.symm
theorem Sh16.perm (S : Sh16 nm many rs) (p : rows.Perm rs) : (nsOf rows).Perm nm := by
  have z := p.map (·.1)
  rw [S.names] at z
  exact z
theorem Sh16.mem (S : Sh16 nm many rs) (p : rows.Perm rs) {r : Rw} (hr : r ∈ rows) : ∃ j, j < nm.length ∧ Row16 nm many j r ∧ rkD nm r.1 = j := by
  obtain ⟨j, hj, e⟩ := List.getElem_of_mem (p.mem_iff.mp hr)
  have e2 : rs[j]? = some r := by rw [List.getElem?_eq_getElem hj, e]
  have c := S.row j r e2
  exact ⟨j, by rw [← S.len]; exact hj, c, idx_of S.nd c.1⟩
theorem nm_lt {nm : List Str} {j : Nat} (h : j < nm.length) : ∃ x, nm[j]? = some x ∧ x ∈ nm := ⟨nm[j], List.getElem?_eq_getElem h, List.getElem_mem h⟩
/-- each formula's cells are there -/
theorem Sh16.sup (S : Sh16 nm many rs) {j : Nat} {r : Rw} (h : Row16 nm many j r) {u : List Nat} {g : Fq} (e : r.2 = .frm u g) : u.length ≤ 40 ∧ (∃ sp, Fm sp u g ∧ ∀ y ∈ sp, y ∈ nm) ∧ ∀ y, g.1 y ≠ 0 → y ∈ nm := by
  have n0 : ∀ y, nm[0]? = some y → y ∈ nm := fun y h => List.mem_of_getElem? h
  rcases h.2 with ⟨_, u2, g2, x1, sp, e2, h1, h2, h3, h4, h5, h6⟩ | ⟨_, e2⟩ | ⟨_, u2, g2, i, x1, sp, e2, h0, h1, h2, h3, h4⟩
  · rw [e] at e2
    injection e2 with e3 e4
    subst e3 e4
    have all : ∀ y ∈ sp, y ∈ nm := fun y hy => by
      rcases h6 y hy with rfl | q
      · exact List.mem_of_getElem? h1
      · exact n0 y q
    exact ⟨h2.len, ⟨sp, h2, all⟩, fun y hy => all y ((h3 y).mp hy)⟩
  · rw [e] at e2
    cases e2
  · rw [e] at e2
    injection e2 with e3 e4
    subst e3 e4
    refine ⟨h2.len, ⟨sp, h2, h3⟩, fun y hy => ?_⟩
    rw [List.mem_singleton.mp ((h4 y).mp hy)]
    exact List.mem_of_getElem? h1
theorem Sh16.rowOk (S : Sh16 nm many rs) (p : rows.Perm rs) {r : Rw} (hr : r ∈ rows) : RowOk (nsOf rows) r := by
  obtain ⟨j, hj, c, _⟩ := S.mem p hr
  have pm := S.perm p
  have hm : r.1 ∈ nm := List.mem_of_getElem? c.1
  refine ⟨S.nms _ hm, pm.mem_iff.mpr hm, fun d z e => ?_, fun l g e => ?_⟩
  · rcases c.2 with ⟨_, u2, g2, x1, sp, e2, _⟩ | ⟨_, e2⟩ | ⟨_, u2, g2, i, x1, sp, e2, _⟩
    · rw [e] at e2
      cases e2
    · rw [e] at e2
      injection e2 with e3 e4
      subst e3 e4
      rfl
    · rw [e] at e2
      cases e2
  · obtain ⟨h1, ⟨sp, h2, h3⟩, _⟩ := S.sup c e
    exact ⟨by omega, h2.rd _ fun y hy => pm.mem_iff.mpr (h3 y hy)⟩
end

end Bs
namespace Bs
open PySem
open L2
/-! ### with the first name's row cut: a good sheet -/
section
variable {nm : List Str} {many : Nat} {rs rows : List Rw}
theorem Sh16.pos (S : Sh16 nm many rs) : 0 < nm.length := Nat.lt_of_le_of_lt (Nat.zero_le _) S.mn
theorem cut_fst (r : Rw) : (cutR nm many r).1 = r.1 := by
  unfold cutR
  split <;> rfl
theorem cut_ns (rows : List Rw) : nsOf (rows.map (cutR nm many)) = nsOf rows := by
  unfold nsOf
  rw [List.map_map]
  exact List.map_congr_left fun r _ => cut_fst r
/-- a formula that stays: its cells have lower ranks -/
theorem Sh16.stay (S : Sh16 nm many rs) {j : Nat} {r : Rw} (c : Row16 nm many j r) {l : List Nat} {g : Fq} (e : (cutR nm many r).2 = .frm l g) :
    r.2 = .frm l g ∧ l.length ≤ 40 ∧ ∃ sp : List Str, sp.length ≤ 2 ∧ Nm sp g ∧ ∀ y ∈ sp, y ∈ nm ∧ rk16 nm many y < rk16 nm many r.1 := by
  have er : r.2 = .frm l g ∧ ¬ (many ≠ 0 ∧ nm[0]? = some r.1) := by
    unfold cutR at e
    split at e
    · cases e
    · rename_i h
      exact ⟨e, h⟩
  obtain ⟨e1, nc⟩ := er
  have kj : rkD nm r.1 = j := idx_of S.nd c.1
  have rank : ∀ {i : Nat} {x : Str}, nm[i]? = some x → rk16 nm many x = if 0 < i ∧ i < many then many - i else i := fun h => by
    unfold rk16 rkD
    rw [idx_of S.nd h]
  refine ⟨e1, (S.sup c e1).1, ?_⟩
  rcases c.2 with ⟨hj, u2, g2, x1, sp, e2, h1, h2, h3, h4, h5, h6⟩ | ⟨_, e2⟩ | ⟨hj, u2, g2, i, x1, sp, e2, h0, h1, h2, h3, h4⟩
  · rw [e1] at e2
    injection e2 with e3 e4
    subst e3 e4
    refine ⟨sp, h5, h3, fun y hy => ?_⟩
    have j0 : 0 < j := Nat.pos_of_ne_zero fun z => nc ⟨by omega, by rw [← z]; exact c.1⟩
    have rj : rk16 nm many r.1 = many - j := by rw [rank c.1, if_pos ⟨j0, hj⟩]
    have r0 : ∀ y, nm[0]? = some y → rk16 nm many y = 0 := fun y h => by rw [rank h, if_neg (by omega)]
    rcases h6 y hy with rfl | q
    · refine ⟨List.mem_of_getElem? h1, ?_⟩
      rw [rj]
      by_cases q : j + 1 = many
      · rw [q, Nat.mod_self] at h1
        rw [r0 _ h1]
        omega
      · rw [Nat.mod_eq_of_lt (by omega)] at h1
        rw [rank h1, if_pos ⟨by omega, by omega⟩]
        omega
    · exact ⟨List.mem_of_getElem? q, by rw [r0 y q, rj]; omega⟩
  · rw [e1] at e2
    cases e2
  · rw [e1] at e2
    injection e2 with e3 e4
    subst e3 e4
    refine ⟨[x1], Nat.le_succ 1, h4, fun y hy => ?_⟩
    rw [List.mem_singleton.mp hy]
    refine ⟨List.mem_of_getElem? h1, ?_⟩
    rw [rank h1, rank c.1, if_neg (by omega : ¬ (0 < j ∧ j < many))]
    split <;> omega
theorem Sh16.good (S : Sh16 nm many rs) (p : rows.Perm rs) : ShOk (rows.map (cutR nm many)) (rk16 nm many) (bk16 (rk16 nm many)) (valN (rows.map (cutR nm many)) 12) 40 := by
  have pm := S.perm p
  have ens := cut_ns (nm := nm) (many := many) rows
  have nd : (nsOf (rows.map (cutR nm many))).Nodup := by
    rw [ens]
    exact pm.nodup_iff.mpr S.nd
  have back : ∀ q ∈ rows.map (cutR nm many), ∃ r ∈ rows, cutR nm many r = q ∧ ∃ j, j < nm.length ∧ Row16 nm many j r ∧ rkD nm r.1 = j := fun q hq => by
    obtain ⟨r, hr, e⟩ := List.mem_map.mp hq
    exact ⟨r, hr, e, S.mem p hr⟩
  refine mk_shok nd (by rw [List.length_map, p.length_eq, S.len]; exact S.l12) (fun q hq => ?_) (fun q hq => ?_) (fun q hq l g e => ?_) ?_ (fun q hq d z e => ?_)
  · obtain ⟨r, hr, rfl, j, hj, c, k⟩ := back q hq
    rw [ens]
    have ok := S.rowOk p hr
    by_cases h : many ≠ 0 ∧ nm[0]? = some r.1
    · have e : cutR nm many r = (r.1, .inp (.int 5) (5, 1)) := if_pos h
      rw [e]
      refine ⟨ok.nm, ok.mem, fun d z e => ?_, fun l g e => nomatch e⟩
      injection e with e1 e2
      subst e1 e2
      rfl
    · have e : cutR nm many r = r := if_neg h
      rw [e]
      exact ok
  · obtain ⟨r, hr, rfl, j, hj, c, k⟩ := back q hq
    rw [cut_fst]
    unfold rk16
    rw [k]
    have := S.l12
    have := S.mn
    split <;> omega
  · obtain ⟨r, hr, rfl, j, hj, c, k⟩ := back q hq
    obtain ⟨_, h2, sp, h3, h4, h5⟩ := S.stay c e
    refine ⟨h2, sp, h3, h4, fun y hy => ?_⟩
    rw [ens, cut_fst]
    exact ⟨pm.mem_iff.mpr (h5 y hy).1, (h5 y hy).2⟩
  · obtain ⟨x0, hx0, _⟩ := nm_lt S.pos
    obtain ⟨xm, hxm, _⟩ := nm_lt S.mn
    have ndI : (insOf (rows.map (cutR nm many))).Nodup := nd.sublist (List.Sublist.map _ List.filter_sublist)
    have z := sub_len ndI (m := [x0, xm]) fun x hx => by
      obtain ⟨q, hq, rfl⟩ := List.mem_map.mp hx
      obtain ⟨hq1, hq2⟩ := List.mem_filter.mp hq
      obtain ⟨r, hr, rfl, j, hj, c, k⟩ := back q hq1
      rw [cut_fst]
      by_cases h : many ≠ 0 ∧ nm[0]? = some r.1
      · rw [hx0] at h
        rw [← Option.some.inj h.2]
        exact List.mem_cons_self ..
      · have e : cutR nm many r = r := if_neg h
        rw [e] at hq2
        rcases c.2 with ⟨_, u2, g2, x1, sp, e2, _⟩ | ⟨ej, _⟩ | ⟨_, u2, g2, i, x1, sp, e2, _⟩
        · unfold isF at hq2
          rw [e2] at hq2
          cases hq2
        · have c1 := c.1
          rw [ej, hxm] at c1
          rw [← Option.some.inj c1]
          exact List.mem_cons_of_mem _ (List.mem_cons_self ..)
        · unfold isF at hq2
          rw [e2] at hq2
          cases hq2
    exact z
  · obtain ⟨r, hr, rfl, j, hj, c, k⟩ := back q hq
    have s5 : Sz 40 (5, 1) := by unfold Sz; decide
    have s3 : Sz 40 (3, 1) := by unfold Sz; decide
    by_cases h : many ≠ 0 ∧ nm[0]? = some r.1
    · have e1 : cutR nm many r = (r.1, .inp (.int 5) (5, 1)) := if_pos h
      rw [e1] at e
      injection e with e1 e2
      subst e2
      exact s5
    · have e1 : cutR nm many r = r := if_neg h
      rw [e1] at e
      rcases c.2 with ⟨_, u2, g2, x1, sp, e2, _⟩ | ⟨_, e2⟩ | ⟨_, u2, g2, i, x1, sp, e2, _⟩
      · rw [e] at e2
        cases e2
      · rw [e] at e2
        injection e2 with e3 e4
        subst e4
        exact s3
      · rw [e] at e2
        cases e2
/-! ### the first cell of the circle -/
/-- a row that leads back to its cell -/
theorem Sh16.step (S : Sh16 nm many rs) (p : rows.Perm rs) {j : Nat} (hj : j < many) {x y : Str} (hx : nm[j]? = some x) (hy : nm[(j + 1) % many]? = some y) : stepF (csOf rows) (fOf rows) x y := by
  have hxm : x ∈ nsOf rows := (S.perm p).mem_iff.mpr (List.mem_of_getElem? hx)
  obtain ⟨r, hr, rfl⟩ := mem_ns hxm
  obtain ⟨i, hi, c, _⟩ := S.mem p hr
  have nd : (nsOf rows).Nodup := (S.perm p).nodup_iff.mpr S.nd
  have : i = j := get_inj S.nd c.1 hx
  subst this
  rcases c.2 with ⟨_, u2, g2, x1, sp, e2, h1, h2, h3, h4, h5, h6⟩ | ⟨ej, _⟩ | ⟨hj2, _⟩
  · rw [hy] at h1
    cases h1
    refine ⟨(cs_iff nd hr).mpr (by unfold isF; rw [e2]), ?_⟩
    rw [fOf_mem nd hr, cellF_frm e2]
    exact (h3 _).mpr h4
  · omega
  · omega
theorem Sh16.reach (S : Sh16 nm many rs) (p : rows.Perm rs) {j : Nat} (hj : j < many) {x : Str} (hx : nm[j]? = some x) : ∀ n y, nm[(j + n + 1) % many]? = some y → Relation.TransGen (stepF (csOf rows) (fOf rows)) x y
  | 0, y, hy => .single (S.step p hj hx hy)
  | n + 1, y, hy => by
    have m0 : 0 < many := by omega
    have hl : (j + n + 1) % many < many := Nat.mod_lt _ m0
    obtain ⟨z, hz, _⟩ := nm_lt (nm := nm) (Nat.lt_trans hl S.mn)
    refine .tail (S.reach p hj hx n z hz) (S.step p hl hz ?_)
    rw [Nat.mod_add_mod]
    exact hy
theorem Sh16.back (S : Sh16 nm many rs) (p : rows.Perm rs) {j : Nat} (hj : j < many) {x : Str} (hx : nm[j]? = some x) : Relation.TransGen (stepF (csOf rows) (fOf rows)) x x :=
  S.reach p hj hx (many - 1) x (by rw [show j + (many - 1) + 1 = j + many by omega, Nat.add_mod_right, Nat.mod_eq_of_lt hj]; exact hx)
/-- no other row does -/
theorem Sh16.away (S : Sh16 nm many rs) (p : rows.Perm rs) {j : Nat} (hj : many ≤ j) {x : Str} (hx : nm[j]? = some x) : ¬ Relation.TransGen (stepF (csOf rows) (fOf rows)) x x := fun t => by
  have nd : (nsOf rows).Nodup := (S.perm p).nodup_iff.mpr S.nd
  have one : ∀ {a b : Str}, stepF (csOf rows) (fOf rows) a b → ∃ i k, nm[i]? = some a ∧ nm[k]? = some b ∧ ((i < many ∧ k < many) ∨ (many ≤ i ∧ k < i)) := fun {a b} h => by
    obtain ⟨h1, h2⟩ := h
    obtain ⟨r, hr, rfl, hf⟩ := mem_cs h1
    obtain ⟨i, hi, c, _⟩ := S.mem p hr
    rcases c.2 with ⟨hi2, u2, g2, x1, sp, e2, g1, g3, g4, g5, g6, g7⟩ | ⟨_, e2⟩ | ⟨hi2, u2, g2, k, x1, sp, e2, h0, g1, g3, g4, g5⟩
    · rw [fOf_mem nd hr, cellF_frm e2] at h2
      rcases g7 b ((g4 b).mp h2) with rfl | q
      · exact ⟨i, _, c.1, g1, .inl ⟨hi2, Nat.mod_lt _ (by omega)⟩⟩
      · exact ⟨i, 0, c.1, q, .inl ⟨hi2, by omega⟩⟩
    · unfold isF at hf
      rw [e2] at hf
      cases hf
    · rw [fOf_mem nd hr, cellF_frm e2] at h2
      rw [List.mem_singleton.mp ((g5 b).mp h2)]
      exact ⟨i, k, c.1, g1, .inr ⟨by omega, h0⟩⟩
  have key : ∀ b, Relation.TransGen (stepF (csOf rows) (fOf rows)) x b → ∃ k, nm[k]? = some b ∧ k < j := fun b t => by
    induction t with
    | single s =>
      obtain ⟨i, k, h1, h2, h3⟩ := one s
      have : i = j := get_inj S.nd h1 hx
      exact ⟨k, h2, by omega⟩
    | tail _ s ih =>
      obtain ⟨i, k, h1, h2, h3⟩ := one s
      obtain ⟨i2, h4, h5⟩ := ih
      have : i = i2 := get_inj S.nd h1 h4
      exact ⟨k, h2, by omega⟩
  obtain ⟨k, h1, h2⟩ := key x t
  have := get_inj S.nd h1 hx
  omega
/-- what a list of rows with a circle is to the program -/
structure ShCirc (rows : List Rw) (x : Str) : Prop where
  nd : (nsOf rows).Nodup
  ok : ∀ r ∈ rows, RowOk (nsOf rows) r
  len : rows.length ≤ 60
  unk : ∀ y ∈ nsOf rows, ∀ z, (fOf rows y).1.1 z ≠ 0 → z ∈ nsOf rows
  first : ∃ i, (csOf rows)[i]? = some x ∧ (∀ y ∈ (csOf rows).take i, ¬ Relation.TransGen (stepF (csOf rows) (fOf rows)) y y) ∧ Relation.TransGen (stepF (csOf rows) (fOf rows)) x x
theorem Sh16.circ (S : Sh16 nm many rs) (p : rows.Perm rs) {x : Str} {l : List Str} (h : (nsOf rows).filter (fun y => decide (y ∈ nm.take many)) = x :: l) : ShCirc rows x := by
  have pm := S.perm p
  have nd : (nsOf rows).Nodup := pm.nodup_iff.mpr S.nd
  refine ⟨nd, fun r hr => S.rowOk p hr, by rw [p.length_eq, S.len]; have := S.l12; omega, fun y hy z hz => ?_, ?_⟩
  · obtain ⟨r, hr, rfl⟩ := mem_ns hy
    obtain ⟨j, _, c, _⟩ := S.mem p hr
    rw [fOf_mem nd hr] at hz
    cases hf : isF r with
    | false =>
      obtain ⟨d, q, e⟩ := isF_inp hf
      rw [cellF_inp e] at hz
      have : r.1 = z := by
        by_cases e : r.1 = z
        · exact e
        · exact absurd (if_neg e) hz
      rw [← this]
      exact hy
    | true =>
      obtain ⟨u, g, e⟩ := isF_frm hf
      rw [cellF_frm e] at hz
      exact pm.mem_iff.mpr ((S.sup c e).2.2 z hz)
  · obtain ⟨as, bs, e, ha, hx⟩ : ∃ as bs, rows = as ++ bs ∧ (∀ r ∈ as, r.1 ∉ nm.take many) ∧ ∃ r cs, bs = r :: cs ∧ r.1 = x ∧ x ∈ nm.take many := by
      clear nd pm
      have key : ∀ rows : List Rw, (nsOf rows).filter (fun y => decide (y ∈ nm.take many)) = x :: l → ∃ as bs, rows = as ++ bs ∧ (∀ r ∈ as, r.1 ∉ nm.take many) ∧ ∃ r cs, bs = r :: cs ∧ r.1 = x ∧ x ∈ nm.take many := by
        intro rows
        induction rows with
        | nil => intro h; cases h
        | cons r rows ih =>
          intro h
          by_cases c : r.1 ∈ nm.take many
          · have e : nsOf (r :: rows) = r.1 :: nsOf rows := rfl
            rw [e, List.filter_cons_of_pos (by exact decide_eq_true c)] at h
            injection h with h1 h2
            exact ⟨[], r :: rows, rfl, (fun q hq => nomatch hq), r, rows, rfl, h1, by rw [← h1]; exact c⟩
          · have e : nsOf (r :: rows) = r.1 :: nsOf rows := rfl
            rw [e, List.filter_cons_of_neg (by rw [decide_eq_false c]; exact Bool.false_ne_true)] at h
            obtain ⟨as, bs, e1, e2, e3⟩ := ih h
            refine ⟨r :: as, bs, by rw [e1]; rfl, fun q hq => ?_, e3⟩
            rcases List.mem_cons.mp hq with rfl | hq
            · exact c
            · exact e2 q hq
      exact key rows h
    obtain ⟨r, cs, rfl, rfl, hm⟩ := hx
    obtain ⟨j, hj, hjx⟩ := take_mem hm
    have hr : r ∈ rows := by rw [e]; exact List.mem_append_right _ (List.mem_cons_self ..)
    have hf : isF r = true := by
      obtain ⟨i, _, c, _⟩ := S.mem p hr
      have : i = j := get_inj S.nd c.1 hjx
      subst this
      rcases c.2 with ⟨_, u2, g2, x1, sp, e2, _⟩ | ⟨ej, _⟩ | ⟨hi2, _⟩
      · unfold isF
        rw [e2]
      · omega
      · omega
    have ec : csOf rows = csOf as ++ r.1 :: csOf cs := by
      unfold csOf
      rw [e, List.filter_append, List.filter_cons_of_pos hf, List.map_append, List.map_cons]
    refine ⟨(csOf as).length, by rw [ec, List.getElem?_append_right (Nat.le_refl _), Nat.sub_self]; rfl, fun y hy => ?_, S.back p hj hjx⟩
    rw [ec, List.take_left' rfl] at hy
    obtain ⟨q, hq, rfl, _⟩ := mem_cs hy
    have hq2 : q ∈ rows := by rw [e]; exact List.mem_append_left _ hq
    obtain ⟨i, hi, c, _⟩ := S.mem p hq2
    refine S.away p (Nat.le_of_not_lt fun lt => ha q hq ?_) c.1
    exact List.mem_of_getElem? (i := i) (by rw [List.getElem?_take, if_pos lt]; exact c.1)
end

end Bs
namespace Bs
open PySem
open L2
theorem fitW {n : Nat} (h : n ≤ 900000) : n ≤ sizeLine := Nat.le_trans h (by decide)
/-- a test that leaves the heap -/
def TtX (t : TT) (σ : L2.St) (H : Hp) (b : Bool) : Prop := ∀ Q : Bool → Hp → Prop, Q b H → t σ H Q
theorem tt_or {t u : TT} {σ : L2.St} {H : Hp} {a b : Bool} (h1 : TtX t σ H a) (h2 : TtX u σ H b) : TtX (tOr t u) σ H (a || b) := fun Q q => h1 _ (by
  cases a with
  | true =>
    show Q true H
    exact q
  | false =>
    show u σ H Q
    exact h2 Q q)
theorem tt_and {t u : TT} {σ : L2.St} {H : Hp} {a b : Bool} (h1 : TtX t σ H a) (h2 : TtX u σ H b) : TtX (tAnd t u) σ H (a && b) := fun Q q => h1 _ (by
  cases a with
  | true =>
    show u σ H Q
    exact h2 Q q
  | false =>
    show Q false H
    exact q)
theorem tt_if {t : TT} {A B : L2.TS} {σ : L2.St} {H : Hp} {D : Ends} {b : Bool} (h : TtX t σ H b) (h1 : b = true → A D σ H) (h2 : b = false → B D σ H) : tIfS t A B D σ H := h _ (by
  cases b with
  | true =>
    show (if true = true then A D σ H else B D σ H)
    rw [if_pos rfl]
    exact h1 rfl
  | false =>
    show (if false = true then A D σ H else B D σ H)
    rw [if_neg Bool.false_ne_true]
    exact h2 rfl)
theorem seq_go {t u : L2.TS} {D : Ends} {σ : L2.St} {H : Hp} (h : t { D with nx := u D } σ H) : tSeq t u D σ H := h
theorem name_go {i : Nat} {v : V} {σ : L2.St} {H : Hp} {D : Ends} (h : D.nx (σ.set i (some v)) H) : gName i v σ H D.nx := h
/-- a test whose answer tells something -/
def TtP (t : TT) (σ : L2.St) (H : Hp) (R : Bool → Hp → Prop) : Prop := ∀ Q : Bool → Hp → Prop, (∀ b H', R b H' → Q b H') → t σ H Q
theorem tp_and {t u : TT} {σ : L2.St} {H : Hp} {R1 R : Bool → Hp → Prop} (h1 : TtP t σ H R1) (h2 : ∀ H', R1 true H' → TtP u σ H' R) (h3 : ∀ H', R1 false H' → R false H') : TtP (tAnd t u) σ H R := fun Q q => h1 _ fun b H' r => by
  cases b with
  | true =>
    show u σ H' Q
    exact h2 H' r Q q
  | false =>
    show Q false H'
    exact q false H' (h3 H' r)
theorem tp_if {t : TT} {A B : L2.TS} {σ : L2.St} {H : Hp} {D : Ends} {R : Bool → Hp → Prop} (h : TtP t σ H R) (h1 : ∀ H', R true H' → A D σ H') (h2 : ∀ H', R false H' → B D σ H') : tIfS t A B D σ H := h _ fun b H' r => by
  cases b with
  | true =>
    show (if true = true then A D σ H' else B D σ H')
    rw [if_pos rfl]
    exact h1 H' r
  | false =>
    show (if false = true then A D σ H' else B D σ H')
    rw [if_neg Bool.false_ne_true]
    exact h2 H' r

theorem But.ts {b g c : Addr} {n : Nat} {H H' : Hp} (B : Box H b g c n) (x : But b g H H') : TS H H' := fun a u h => by
  obtain ⟨h1, h2⟩ := tps_of h
  obtain ⟨gs, cs, cur, m, B, _⟩ := B
  refine tps_at (x a u h1 (fun e => ?_) (fun e => ?_)) h2
  · rw [e, B.hb] at h1
    cases h1
    cases h2
  · rw [e, B.hg] at h1
    cases h1
    cases h2
theorem dps_perm {K : PySem.W.Frag} {H : Hp} {ys xs : List V} (p : ys.Perm xs) : ∀ rs : List Rw, DpAll K H xs (rs.map rowIn) → ∃ rs' : List Rw, rs'.Perm rs ∧ DpAll K H ys (rs'.map rowIn) := by
  induction p with
  | nil =>
    intro rs h
    cases rs with
    | nil => exact ⟨[], .nil, .nil⟩
    | cons r rs => cases h
  | cons x _ ih =>
    intro rs h
    cases rs with
    | nil => cases h
    | cons r rs =>
      cases h with
      | cons h1 h2 =>
        obtain ⟨rs', q1, q2⟩ := ih rs h2
        exact ⟨r :: rs', q1.cons r, .cons h1 q2⟩
  | swap x y l =>
    intro rs h
    cases rs with
    | nil => cases h
    | cons r rs =>
      cases h with
      | cons h1 h2 =>
        cases rs with
        | nil => cases h2
        | cons r2 rs =>
          cases h2 with
          | cons h3 h4 => exact ⟨r2 :: r :: rs, .swap r r2 rs, .cons h3 (.cons h1 h4)⟩
  | trans _ _ ih1 ih2 =>
    intro rs h
    obtain ⟨rs1, q1, q2⟩ := ih2 rs h
    obtain ⟨rs2, q3, q4⟩ := ih1 rs1 q2
    exact ⟨rs2, q3.trans q1, q4⟩
theorem mk_ts {b g c : Addr} {n : Nat} {H : Hp} (B : Box H b g c n) : TS H (mk b g H) := fun a u h => by
  obtain ⟨h1, h2⟩ := tps_of h
  obtain ⟨gs, cs, cur, m, B, _⟩ := B
  refine tps_at (mk_off h1 (fun e => ?_) (fun e => ?_)) h2
  · rw [e, B.hb] at h1
    cases h1
    cases h2
  · rw [e, B.hg] at h1
    cases h1
    cases h2
theorem rowIn_kd (r : Rw) : ∃ kd c, rowIn r = .tuple [.str r.1, .str kd, c] ∧ decide (V.str kd = V.str (Str.ofString "input")) = !isF r := by
  obtain ⟨x, c⟩ := r
  cases c with
  | inp d z => exact ⟨"input", d, rfl, show decide (V.str (Str.ofString "input") = V.str (Str.ofString "input")) = true from by decide +kernel⟩
  | frm l g => exact ⟨"formula", .str (SX.S l), rfl, show decide (V.str (Str.ofString "formula") = V.str (Str.ofString "input")) = false from by decide +kernel⟩

/-! ### the rows that the law draws, made -/
def spRowsOf (K : PySem.W.Frag) : Sp := fun vs H Q _ => ∃ (b g c po : Addr) (n many : Nat) (nm : List Str), vs = [.ref b, .ref po, .int (many : Int)] ∧ Box H b g c n ∧ n + 100 < 1000000 ∧ H po = some (.lst (nm.map V.str)) ∧ po ≠ b ∧ po ≠ g ∧ po ≠ c ∧ nm.Nodup ∧ (∀ x ∈ nm, nameL x.cps.toList = true) ∧ nm.length ≤ 12 ∧ many < nm.length ∧
  ∀ (pr : Addr) (xs : List V) (rs : List Rw) (H' : Hp), Sh16 nm many rs → H' pr = some (.lst xs) → DpAll K (tps H') xs (rs.map rowIn) → H pr = none → Box H' b g c (n + 36) → But b g H H' → Q (.ref pr) H'
theorem sl2 (a b : Str) : (a ++ b).length = a.length + b.length := by
  rw [← strS_eq a, ← strS_eq b, SX.S_cat, SX.S_len, SX.S_len, SX.S_len, List.length_append]
theorem sc1 {s : String} {l : List Nat} (h : Str.ofString s = SX.S l) (x : Str) : Str.ofString s ++ x = SX.S (l ++ x.cps.toList) := by
  rw [h, ← SX.S_cat, strS_eq]
theorem sc2 {s : String} {l u : List Nat} {x : Str} (h : Str.ofString s = SX.S l) (e : x = SX.S u) : x ++ Str.ofString s = SX.S (u ++ l) := by
  rw [h, e, SX.S_cat]
theorem sc3 {u : List Nat} {x y : Str} (e : x = SX.S u) : x ++ y = SX.S (u ++ y.cps.toList) := by
  rw [e, ← SX.S_cat, strS_eq]
theorem get_at {nm : List Str} {r : Int} (h0 : 0 ≤ r) (h1 : r < nm.length) : ∃ (k : Nat) (x : Str), r = (k : Int) ∧ k < nm.length ∧ nm[k]? = some x ∧ x ∈ nm ∧ atI (nm.map V.str) r = some (.str x) := by
  obtain ⟨k, rfl⟩ : ∃ k : Nat, r = (k : Int) := ⟨r.toNat, by omega⟩
  have hk : k < nm.length := by omega
  exact ⟨k, nm[k], rfl, hk, List.getElem?_eq_getElem hk, List.getElem_mem hk, atI_nat (by rw [List.getElem?_map, List.getElem?_eq_getElem hk]; rfl)⟩
section
variable {P : Program} {w : World} {K : PySem.W.Frag} {mg : Str → Option Value} {base : Heap}
theorem ok_rows_of (T : Bt mg) (Te : mg "enumerate" = none) (GT : Kn P w K mg base CX0 "_law_take" 34 ["_law_box_here", "_law_size"] spTake) (D : Df K mg "_law_rows_of" s_l_rows_of ["_law_box_here", "_law_names_here", "_law_many"]) :
    Kn P w K mg base CX0 "_law_rows_of" 35 ["_law_box_here", "_law_names_here", "_law_many"] (spRowsOf K) := by
  obtain ⟨f, fd, F, hm, hb⟩ := D
  obtain ⟨f_l_take, fd_l_take, G_l_take, m_l_take, k_l_take, b_l_take⟩ := GT
  refine ⟨f, fd, F.ok sc_l_rows_of (fun vs H Q E h => ?_) (fun cdv A outer s H vs Q E hr h => ?_), hm, F.kp, hb⟩
  · obtain ⟨b, g, c, po, n, many, nm, rfl, _⟩ := h
    rfl
  · obtain ⟨b, g, c, po, n, many, nm, rfl, B, hn, hpo, hpb, hpg, hpc, nd, hnm, l12, mn, q⟩ := h
    refine ⟨_, (pss_cons (ps_set (i := 3) sc_l_rows_of.nd rfl (Or.inl rfl) (pe_lst pa_nil))
      (pss_cons (ps_for PassesOwn.never rfl (pi_enumQ rfl Te (pa_cons (pv 1) pa_nil)) (pg_tup (by rfl) (pgs_cons (pg_name (i := 4) sc_l_rows_of.nd rfl (Or.inl rfl)) (pgs_cons (pg_name (i := 5) sc_l_rows_of.nd rfl (Or.inl rfl)) pgs_nil)))
        (pss_one (ps_if (pt_cmpR op_lt (pv 4) (pv 2) (nomark _)) (pss_cons (ps_set (i := 6) sc_l_rows_of.nd rfl (Or.inl rfl) (pe_ix ix_list (pv 1) (pe_op op_mod (pe_op op_add (pv 4) pe_int) (pv 2)) (fun _ _ => rfl)))
      (pss_cons (ps_set (i := 7) sc_l_rows_of.nd rfl (Or.inl rfl) (pe_ix ix_list (pe_lst (pa_cons (pv 6) (pa_cons (pe_op op_add_str (pe_op op_add_str pe_str (pv 6)) pe_str) (pa_cons (pe_op op_add_str (pe_op op_add_str (pv 6) pe_str) (pe_ix ix_list (pv 1) pe_int (fun _ _ => rfl))) pa_nil)))) (pe_call G_l_take (hr.mono (by omega)) rfl m_l_take k_l_take b_l_take .nil pass0 (pa_cons (pv 0) (pa_cons pe_int pa_nil))) (fun _ _ => rfl)))
      (pss_one (ps_expr (pe_bm PySem.F.plainAttrs_list PySem.F.slot_list_append PySem.F.type_list_append mt_append (pv 3) (pa_cons (pe_tup (pa_cons (pv 5) (pa_cons pe_str (pa_cons (pv 7) pa_nil)))) pa_nil)))))) (pss_one (ps_if (pt_cmpR op_eq (pv 4) (pv 2) (nomark _)) (pss_one (ps_expr (pe_bm PySem.F.plainAttrs_list PySem.F.slot_list_append PySem.F.type_list_append mt_append (pv 3) (pa_cons (pe_tup (pa_cons (pv 5) (pa_cons pe_str (pa_cons pe_int pa_nil)))) pa_nil)))) (pss_cons (ps_par (i := 8) (j := 9) (by rfl) sc_l_rows_of.nd rfl rfl (by decide) rfl rfl (pa_cons (pe_ix ix_list (pv 1) (pe_call G_l_take (hr.mono (by omega)) rfl m_l_take k_l_take b_l_take .nil pass0 (pa_cons (pv 0) (pa_cons (pv 4) pa_nil))) (fun _ _ => rfl)) (pa_cons (pe_ix ix_list (pv 1) (pe_call G_l_take (hr.mono (by omega)) rfl m_l_take k_l_take b_l_take .nil pass0 (pa_cons (pv 0) (pa_cons (pe_callB call_len_seq (by rfl) T.n_len (by decide +kernel) (pa_cons (pv 1) pa_nil)) pa_nil))) (fun _ _ => rfl)) pa_nil)) (by rfl))
      (pss_cons (ps_set (i := 10) sc_l_rows_of.nd rfl (Or.inl rfl) (pe_op op_add_str (pe_op op_add_str (pe_op op_add_str (pv 9) pe_str) (pv 9)) pe_str))
      (pss_cons (ps_set (i := 7) sc_l_rows_of.nd rfl (Or.inl rfl) (pe_ix ix_list (pe_lst (pa_cons (pv 8) (pa_cons (pe_op op_add_str (pv 8) pe_str) (pa_cons (pe_op op_add_str (pe_op op_add_str pe_str (pv 8)) pe_str) (pa_cons (pe_op op_add_str (pv 10) (pv 8)) pa_nil))))) (pe_call G_l_take (hr.mono (by omega)) rfl m_l_take k_l_take b_l_take .nil pass0 (pa_cons (pv 0) (pa_cons pe_int pa_nil))) (fun _ _ => rfl)))
      (pss_one (ps_expr (pe_bm PySem.F.plainAttrs_list PySem.F.slot_list_append PySem.F.type_list_append mt_append (pv 3) (pa_cons (pe_tup (pa_cons (pv 5) (pa_cons pe_str (pa_cons (pv 7) pa_nil)))) pa_nil))))))))))))
      (pss_one (ps_ret (pv 3))))), ?_⟩
    have l0 : 0 < nm.length := by omega
    have hl8 : ∀ y ∈ nm, y.length ≤ 8 := fun y hy => by
      have z := nm8 (hnm y hy)
      rw [← strS_eq y, SX.S_len]
      exact z
    refine ⟨(by show 0 ≤ sizeLine; decide), fun pr npr => ?_⟩
    obtain ⟨prb, prg, prc⟩ := B.ne npr
    have e4 : po ≠ pr := fun e => by rw [← e, hpo] at npr; cases npr
    obtain ⟨pob, pog, poc⟩ : po ≠ b ∧ po ≠ g ∧ po ≠ c := ⟨hpb, hpg, hpc⟩
    have s1 := same_new npr (.lst [])
    have hpo4 := s1 _ _ hpo
    refine ⟨_, rfl, po, rfl, .inl ⟨nm.map V.str, SqL.of hpo4, ?_⟩⟩
    refine for_it (Y := YPair (fun i => some (.int (i : Nat))) (fun i => (nm.map V.str)[i]?)) (G := fun G => G po = some (.lst (nm.map V.str))) (n := (nm.map V.str).length) ((walk_enum (K := K) (a := po) (xs := nm.map V.str)).mono (fun G h => SqL.of h) (fun _ _ _ _ _ _ y => y))
      (fun i σ G => ∃ (x4 x5 x6 x7 x8 x9 x10 : Option V) (rs : List Rw) (xs : List V), σ = [some (.ref b), some (.ref po), some (.int (many : Int)), some (.ref pr), x4, x5, x6, x7, x8, x9, x10] ∧ rs.length = i ∧
        (∀ j r, rs[j]? = some r → Row16 nm many j r) ∧ G pr = some (.lst xs) ∧ DpAll K (tps G) xs (rs.map rowIn) ∧ G po = some (.lst (nm.map V.str)) ∧ Box G b g c (n + 3 * i) ∧ But b g H G)
      ⟨none, none, none, none, none, none, none, [], [], rfl, rfl, (fun j r h => nomatch h), upd_same, .nil, hpo4, B.same s1, But.of s1⟩
      (fun i σ G _ h => by obtain ⟨_, _, _, _, _, _, _, _, _, _, _, _, _, _, h, _⟩ := h; exact h) ?_ ?_
    · rintro i v σ G G1 hi ⟨x4, x5, x6, x7, x8, x9, x10, rs, xs, rfl, lrs, hcell, hpr, hrows, hpoG, BG, bG⟩ ⟨tp, w1, x, rfl, ntp, rfl, ew, hx⟩
      cases ew
      dsimp only at hx
      rw [List.getElem?_map] at hx
      obtain ⟨y, hy, rfl⟩ : ∃ y, nm[i]? = some y ∧ V.str y = x := by
        cases z : nm[i]? with
        | none => rw [z] at hx; cases hx
        | some y => rw [z] at hx; exact ⟨y, rfl, Option.some.inj hx⟩
      have hin := get_lt hy
      have yin := List.mem_of_getElem? hy
      have st := same_new ntp (.tup [V.int (i : Nat), .str y])
      have Bt := BG.same st
      have bt := bG.trans (But.of st)
      have hpoT := st _ _ hpoG
      have hprT := st _ _ hpr
      have tT : TS G (upd G tp (.tup [V.int (i : Nat), .str y])) := TS.of st
      refine ⟨_, _, rfl, SqT.of upd_same, rfl, _, _, rfl, _, _, rfl, rfl, ?_⟩
      have lxs : xs.length = i := by
        have z := dps_len hrows
        rw [List.length_map, lrs] at z
        exact z
      have fin : ∀ (H5 : Hp) (r : Rw) (kd : String) (v : V) (dd : PyData) (p5 : Addr), But b g (upd G tp (.tup [V.int (i : Nat), .str y])) H5 → Box H5 b g c (n + 3 * i + 3) → H5 p5 = none → rowIn r = .tuple [.str y, .str kd, dd] → (∀ G', Dp K G' v dd) → Row16 nm many i r →
          (rs ++ [r]).length = i + 1 ∧ (∀ j r', (rs ++ [r])[j]? = some r' → Row16 nm many j r') ∧ upd (upd H5 p5 (.tup [.str y, .str kd, v])) pr (.lst (xs ++ [.ref p5])) pr = some (.lst (xs ++ [.ref p5])) ∧
          DpAll K (tps (upd (upd H5 p5 (.tup [.str y, .str kd, v])) pr (.lst (xs ++ [.ref p5])))) (xs ++ [.ref p5]) ((rs ++ [r]).map rowIn) ∧ upd (upd H5 p5 (.tup [.str y, .str kd, v])) pr (.lst (xs ++ [.ref p5])) po = some (.lst (nm.map V.str)) ∧
          Box (upd (upd H5 p5 (.tup [.str y, .str kd, v])) pr (.lst (xs ++ [.ref p5]))) b g c (n + 3 * (i + 1)) ∧ But b g H (upd (upd H5 p5 (.tup [.str y, .str kd, v])) pr (.lst (xs ++ [.ref p5]))) := fun H5 r kd v dd p5 b5 B5 np5 er hv rr => by
        have hpr5 := b5 _ _ hprT prb prg
        have hpo5 := b5 _ _ hpoT pob pog
        have u5 := same_new np5 (.tup [.str y, .str kd, v])
        have t5 : TS (upd H5 p5 (.tup [.str y, .str kd, v])) (upd (upd H5 p5 (.tup [.str y, .str kd, v])) pr (.lst (xs ++ [.ref p5]))) := TS.upd (u5 _ _ hpr5) rfl
        have t05 := (tT.trans (But.ts Bt b5)).trans ((TS.of u5).trans t5)
        refine ⟨by rw [List.length_append, lrs]; rfl, fun j r' hj => ?_, upd_same, ?_, ?_, ?_, ?_⟩
        · by_cases hji : j < i
          · rw [List.getElem?_append_left (by omega)] at hj
            exact hcell j r' hj
          · rw [List.getElem?_append_right (by omega), lrs] at hj
            have j0 : j = i := by
              have := get_lt hj
              simp at this
              omega
            subst j0
            rw [Nat.sub_self] at hj
            cases hj
            exact rr
        · rw [List.map_append]
          refine dps_snoc (dps_same t05 _ _ hrows) ?_
          rw [er]
          exact .tup (SqT.of (t5 _ _ (tps_at upd_same rfl))) (.cons (.str y) (.cons (.str _) (.cons (hv _) .nil)))
        · rw [upd_ne e4]
          exact u5 _ _ hpo5
        · exact ((B5.same u5).off prb prg prc).mono (by omega)
        · intro a o h h1 h2
          rw [upd_ne (ne_of_none h npr)]
          exact u5 _ _ (b5 _ _ (bt a o h h1 h2) h1 h2)
      refine tt_if (fun Q q => ⟨_, rfl, _, rfl, _, _, rfl, rfl, _, rfl, q⟩) (fun hc => ?_) (fun hc => ?_)
      · have im : i < many := by
          have z : ((i : Nat) : Int) < (many : Int) := of_decide_eq_true hc
          omega
        obtain ⟨k1, w1, ek, hk1, hw1, w1m, at1⟩ := get_at (nm := nm) (r := ((i : Nat) + 1 : Int) % (many : Int)) (Int.emod_nonneg _ (by omega)) (by have := Int.emod_lt_of_pos ((i : Nat) + 1 : Int) (by omega : (0 : Int) < (many : Int)); omega)
        have ek1 : k1 = (i + 1) % many := by
          have : ((k1 : Nat) : Int) = (((i + 1) % many : Nat) : Int) := by rw [← ek]; simp
          omega
        obtain ⟨k0, w0, e0, hk0, hw0, w0m, at0⟩ := get_at (nm := nm) (r := 0) (Int.le_refl _) (by omega)
        have ek0 : k0 = 0 := by omega
        subst ek0
        have c1 : Str.ofString "2*" = SX.S [50, 42] := by decide +kernel
        have c2 : Str.ofString " - 1" = SX.S [32, 45, 32, 49] := by decide +kernel
        have c3 : Str.ofString "/2 + " = SX.S [47, 50, 32, 43, 32] := by decide +kernel
        have m1 := hl8 _ w1m
        have m0 := hl8 _ w0m
        have d1 : (Str.ofString "2*").length = 2 := by decide +kernel
        have d2 : (Str.ofString " - 1").length = 4 := by decide +kernel
        have d3 : (Str.ofString "/2 + ").length = 5 := by decide +kernel
        refine ⟨_, rfl, _, rfl, _, _, rfl, rfl, _, rfl, _, _, rfl, rfl, by omega, po, _, _, _, rfl, rfl, SqL.of hpoT, at1, ?_⟩
        refine ⟨_, rfl, _, rfl, _, _, rfl, rfl, fitN (by rw [d1]; omega), _, _, rfl, rfl, fitN (by rw [sl2, d1, d2]; omega), ?_⟩
        refine ⟨_, rfl, _, _, rfl, rfl, fitN (by rw [d3]; omega), _, rfl, po, _, _, _, rfl, rfl, SqL.of hpoT, at0, _, _, rfl, rfl, fitN (by rw [sl2, d3]; omega), ?_⟩
        refine ⟨(by show 3 ≤ sizeLine; decide), fun p1 np1 => ?_⟩
        generalize hl3 : [V.str w1, V.str (Str.ofString "2*" ++ w1 ++ Str.ofString " - 1"), V.str (w1 ++ Str.ofString "/2 + " ++ w0)] = l3 at *
        have u1 := same_new np1 (.lst l3)
        refine ⟨_, rfl, b, g, c, _, 3, rfl, Bt.same u1, by omega, by decide, pow8000' _ 4 (by decide) (by decide), fun r3 H3 r30 r31 B3 b3 => ?_⟩
        obtain ⟨p1b, p1g, _⟩ := Bt.ne np1
        have pick : ∃ (t : Str) (u : List Nat) (g : Fq) (sp : List Str), atI l3 r3 = some (V.str t) ∧ t = SX.S u ∧ Fm sp u g ∧ Nm sp g ∧ w1 ∈ sp ∧ sp.length ≤ 2 ∧ ∀ y ∈ sp, y = w1 ∨ nm[0]? = some y := by
          rw [← hl3]
          rcases (by omega : r3 = 0 ∨ r3 = 1 ∨ r3 = 2) with rfl | rfl | rfl
          · exact ⟨w1, _, _, _, rfl, (strS_eq w1).symm, fm_cell (hnm _ w1m), cel_nm _, List.mem_singleton.mpr rfl, Nat.le_succ 1, fun y hy => .inl (List.mem_singleton.mp hy)⟩
          · obtain ⟨gq, f1, f2⟩ := fm_twice (hnm _ w1m)
            exact ⟨_, _, gq, _, rfl, sc2 c2 (sc1 c1 w1), f1, f2, List.mem_singleton.mpr rfl, Nat.le_succ 1, fun y hy => .inl (List.mem_singleton.mp hy)⟩
          · obtain ⟨gq, f1, f2⟩ := fm_half (hnm _ w1m) (hnm _ w0m)
            refine ⟨_, _, gq, _, rfl, sc3 (sc2 c3 (strS_eq w1).symm), f1, f2, List.mem_cons_self .., Nat.le_refl _, fun y hy => ?_⟩
            rcases List.mem_cons.mp hy with rfl | hy
            · exact .inl rfl
            · rw [List.mem_singleton.mp hy]
              exact .inr hw0
        obtain ⟨t, u, gq, sp, hat, et, f1, f2, f3, f4, f5⟩ := pick
        refine ⟨p1, _, _, _, rfl, rfl, SqL.of (b3 _ _ upd_same p1b p1g), hat, ?_⟩
        have bT3 : But b g (upd G tp (.tup [V.int (i : Nat), .str y])) H3 := (But.of u1).trans b3
        have hpr3 := bT3 _ _ hprT prb prg
        refine ⟨_, rfl, .inl ⟨rfl, _, SqL.of hpr3⟩, _, rfl, _, rfl, (by show 3 ≤ sizeLine; decide), fun p5 np5 => ?_⟩
        have u5 := same_new np5 (.tup [.str y, .str "formula", .str t])
        refine ⟨pr, xs, _, rfl, rfl, u5 _ _ hpr3, small1000 (by omega), ?_⟩
        obtain ⟨f6, f7, f8, f9, f10, f11, f12⟩ := fin H3 (y, .frm u gq) "formula" (.str t) (.str (SX.S u)) p5 bT3 (B3.mono (by omega)) np5 rfl (fun G' => by rw [et]; exact .str _) ⟨hy, .inl ⟨im, u, gq, w1, sp, rfl, by rw [← ek1]; exact hw1, f1, f2, f3, f4, f5⟩⟩
        exact ⟨_, _, _, _, _, _, _, _, _, rfl, f6, f7, f8, f9, f10, f11, f12⟩
      · refine tt_if (fun Q q => ⟨_, rfl, _, rfl, rfl, _, rfl, q⟩) (fun hc2 => ?_) (fun hc2 => ?_)
        · have ei : i = many := by
            have z := of_decide_eq_true hc2
            injection z with z
            omega
          refine ⟨_, rfl, .inl ⟨rfl, _, SqL.of hprT⟩, _, rfl, (by show 3 ≤ sizeLine; decide), fun p5 np5 => ?_⟩
          have u5 := same_new np5 (.tup [.str y, .str "input", .int 3])
          refine ⟨pr, xs, _, rfl, rfl, u5 _ _ hprT, small1000 (by omega), ?_⟩
          obtain ⟨f6, f7, f8, f9, f10, f11, f12⟩ := fin _ (y, .inp (.int 3) (3, 1)) "input" (.int 3) (.int 3) p5 (But.refl _ _ _) (Bt.mono (by omega)) np5 rfl (fun G' => .int _) ⟨hy, .inr (.inl ⟨ei, rfl⟩)⟩
          exact ⟨_, _, _, _, _, _, _, _, _, rfl, f6, f7, f8, f9, f10, f11, f12⟩
        · have im : many < i := by
            have z1 : ¬ ((i : Nat) : Int) < (many : Int) := of_decide_eq_false hc
            have z2 : i ≠ many := fun e => of_decide_eq_false hc2 (by rw [e])
            omega
          have c1 : Str.ofString " - " = SX.S [32, 45, 32] := by decide +kernel
          have c2 : Str.ofString " + " = SX.S [32, 43, 32] := by decide +kernel
          have c3 : Str.ofString " + 1" = SX.S [32, 43, 32, 49] := by decide +kernel
          have c4 : Str.ofString "average(" = SX.S (avgW ++ [40]) := by decide +kernel
          have c5 : Str.ofString ", 2)" = SX.S [44, 32, 50, 41] := by decide +kernel
          have d1 : (Str.ofString " - ").length = 3 := by decide +kernel
          have d2 : (Str.ofString " + ").length = 3 := by decide +kernel
          have d3 : (Str.ofString " + 1").length = 4 := by decide +kernel
          have d4 : (Str.ofString "average(").length = 8 := by decide +kernel
          have d5 : (Str.ofString ", 2)").length = 4 := by decide +kernel
          refine ⟨_, rfl, _, rfl, _, rfl, b, g, c, _, (i : Int), rfl, Bt, by omega, by omega, pow8000' _ 4 (by decide) (by omega), fun r1 H1 r10 r11 B1 b1 => ?_⟩
          obtain ⟨k1, w1, ek, hk1, hw1, w1m, at1⟩ := get_at (nm := nm) (r := r1) r10 (by omega)
          have hpo1 := b1 _ _ hpoT pob pog
          refine ⟨po, _, _, _, rfl, rfl, SqL.of hpo1, at1, _, rfl, _, rfl, _, rfl, po, _, rfl, .inl (SqL.of hpo1), ?_⟩
          refine ⟨b, g, c, _, _, rfl, B1, by omega, (by rw [List.length_map]; omega), pow8000' _ 4 (by decide) (by rw [List.length_map]; omega), fun r2 H2 r20 r21 B2 b2 => ?_⟩
          rw [List.length_map] at r21
          obtain ⟨k2, w2, ek2, hk2, hw2, w2m, at2⟩ := get_at (nm := nm) (r := r2) r20 r21
          have hpo2 := b2 _ _ hpo1 pob pog
          have m1 := hl8 _ w1m
          have m2 := hl8 _ w2m
          refine ⟨po, _, _, _, rfl, rfl, SqL.of hpo2, at2, ?_⟩
          refine ⟨_, _, rfl, _, rfl, _, _, rfl, rfl, fitN (by rw [d1]; omega), _, rfl, _, _, rfl, rfl, fitN (by rw [sl2, d1]; omega), _, _, rfl, rfl, fitN (by rw [sl2, sl2, d1, d2]; omega), ?_⟩
          refine ⟨_, rfl, _, rfl, _, _, rfl, rfl, fitN (by rw [d3]; omega), _, rfl, _, _, rfl, rfl, fitN (by rw [d4]; omega), _, _, rfl, rfl, fitN (by rw [sl2, d4, d5]; omega), ?_⟩
          refine ⟨_, rfl, _, rfl, _, _, rfl, rfl, fitN (by rw [sl2, sl2, sl2, d1, d2]; omega), ?_⟩
          refine ⟨(by show 4 ≤ sizeLine; decide), fun p1 np1 => ?_⟩
          generalize hl3 : [V.str w1, V.str (w1 ++ Str.ofString " + 1"), V.str (Str.ofString "average(" ++ w1 ++ Str.ofString ", 2)"), V.str (w2 ++ Str.ofString " - " ++ w2 ++ Str.ofString " + " ++ w1)] = l3 at *
          have u1 := same_new np1 (.lst l3)
          refine ⟨_, rfl, b, g, c, _, 4, rfl, B2.same u1, by omega, by decide, pow8000' _ 4 (by decide) (by decide), fun r3 H3 r30 r31 B3 b3 => ?_⟩
          obtain ⟨p1b, p1g, _⟩ := B2.ne np1
          have pick : ∃ (t : Str) (u : List Nat) (g : Fq) (sp : List Str), atI l3 r3 = some (V.str t) ∧ t = SX.S u ∧ Fm sp u g ∧ (∀ y ∈ sp, y ∈ nm) ∧ Nm [w1] g := by
            have one : ∀ y ∈ [w1], y ∈ nm := fun y hy => by rw [List.mem_singleton.mp hy]; exact w1m
            rw [← hl3]
            rcases (by omega : r3 = 0 ∨ r3 = 1 ∨ r3 = 2 ∨ r3 = 3) with rfl | rfl | rfl | rfl
            · exact ⟨w1, _, _, _, rfl, (strS_eq w1).symm, fm_cell (hnm _ w1m), one, cel_nm _⟩
            · obtain ⟨gq, f1, f2⟩ := fm_plus (hnm _ w1m)
              exact ⟨_, _, gq, _, rfl, sc2 c3 (strS_eq w1).symm, f1, one, f2⟩
            · obtain ⟨gq, f1, f2⟩ := fm_avg (hnm _ w1m)
              exact ⟨_, _, gq, _, rfl, sc2 c5 (sc1 c4 w1), f1, one, f2⟩
            · obtain ⟨gq, f1, f2⟩ := fm_gone (hnm _ w1m) (hnm _ w2m)
              refine ⟨_, _, gq, _, rfl, sc3 (sc2 c2 (sc3 (sc2 c1 (strS_eq w2).symm))), f1, fun y hy => ?_, f2⟩
              rcases List.mem_cons.mp hy with rfl | hy
              · exact w2m
              · exact one y hy
          obtain ⟨t, u, gq, sp, hat, et, f1, f2, f3⟩ := pick
          refine ⟨p1, _, _, _, rfl, rfl, SqL.of (b3 _ _ upd_same p1b p1g), hat, ?_⟩
          have bT3 : But b g (upd G tp (.tup [V.int (i : Nat), .str y])) H3 := (b1.trans b2).trans ((But.of u1).trans b3)
          have hpr3 := bT3 _ _ hprT prb prg
          refine ⟨_, rfl, .inl ⟨rfl, _, SqL.of hpr3⟩, _, rfl, _, rfl, (by show 3 ≤ sizeLine; decide), fun p5 np5 => ?_⟩
          have u5 := same_new np5 (.tup [.str y, .str "formula", .str t])
          refine ⟨pr, xs, _, rfl, rfl, u5 _ _ hpr3, small1000 (by omega), ?_⟩
          have hw1' : nm[k1]? = some w1 := hw1
          obtain ⟨f6, f7, f8, f9, f10, f11, f12⟩ := fin H3 (y, .frm u gq) "formula" (.str t) (.str (SX.S u)) p5 bT3 (B3.mono (by omega)) np5 rfl (fun G' => by rw [et]; exact .str _) ⟨hy, .inr (.inr ⟨im, u, gq, k1, w1, sp, rfl, by omega, hw1', f1, f2, f3⟩)⟩
          exact ⟨_, _, _, _, _, _, _, _, _, rfl, f6, f7, f8, f9, f10, f11, f12⟩
    · rintro σ G ⟨x4, x5, x6, x7, x8, x9, x10, rs, xs, rfl, lrs, hcell, hpr, hrows, hpoG, BG, bG⟩
      rw [List.length_map] at lrs BG
      exact ⟨_, rfl, q pr xs rs G ⟨nd, hnm, lrs, l12, mn, hcell⟩ hpr hrows npr (BG.mono (by omega)) bG⟩
end

end Bs
namespace Bs
open PySem
open L2
/-! ### Sheet with a circle; both ways of a promise -/
def spInitCirc (K : PySem.W.Frag) (C Cc : Addr) : Sp := fun vs H _ E => ∃ (o dx a : Addr) (xs : List V) (rows : List Rw) (x0 : Str), vs = [.ref o, .ref a] ∧ H o = some (.ins C dx []) ∧ (SqL K H a xs ∨ SqT K H a xs) ∧ DpAll K H xs (rows.map rowIn) ∧ ShCirc rows x0 ∧
  ∀ ed H', (∀ b u, H b = some u → b ≠ o → H' b = some u) → H' ed = some (.xd [("name", .str x0)]) → E (.ref Cc) (some ed) H'
theorem FnOk.up {P : Program} {w : World} {K : PySem.W.Frag} {mg : Str → Option Value} {base : Heap} {CX : CXT} {k : Nat} {f : Addr} {fd : FuncData} {ps : List Str} {sp : Sp} (F : FnOk P w K mg base CX0 k f fd ps sp) : FnOk P w K mg base CX k f fd ps sp :=
  ⟨F.len, fun A outer s H args us vs Q E hr he hb hv hs => codeAny_mono (F.run A outer s H args us vs Q E hr he hb hv hs) fun r s' h => by
    cases r with
    | error e => exact False.elim h
    | ok fl =>
      cases fl with
      | ret u => exact h
      | next => exact h
      | brk => exact h
      | cont => exact h⟩
theorem FnOk.either {P : Program} {w : World} {K : PySem.W.Frag} {mg : Str → Option Value} {base : Heap} {CX : CXT} {k : Nat} {f : Addr} {fd : FuncData} {ps : List Str} {sp sq : Sp} (F : FnOk P w K mg base CX k f fd ps sp) (G : FnOk P w K mg base CX k f fd ps sq) :
    FnOk P w K mg base CX k f fd ps (fun vs H Q E => sp vs H Q E ∨ sq vs H Q E) :=
  ⟨fun vs H Q E h => h.elim (F.len vs H Q E) (G.len vs H Q E), fun A outer s H args us vs Q E hr he hb hv hs => hs.elim (F.run A outer s H args us vs Q E hr he hb hv) (G.run A outer s H args us vs Q E hr he hb hv)⟩
section
variable {P : Program} {w : World} {K : PySem.W.Frag} {mg : Str → Option Value} {base : Heap}
theorem ok_init_circ {C Cc : Addr} (T : Bt mg) (S : Shc K C) (GR : Kn P w K mg base CX0 "read_rows" 44 ["rows"] (spReadRows K)) (GN : KnM P w K mg base CX0 C "computed_names" 33 ["self"] (spCompN K C csOf))
    (GU : Kn P w K mg base (L2.CX P w) "check_unknown" 35 ["forms"] (spUnk K)) (GC : Kn P w K mg base (L2.CX P w) "check_circles" 36 ["formulas"] (spCircles K Cc)) (GB : Kn P w K mg base CX0 "forms_by_inputs" 39 ["forms", "formulas"] (spByIn K))
    (GT : Kn P w K mg base CX0 "filled_table" 37 ["sheet", "numbers"] (spFilled K C))
    {f : Addr} {fd : FuncData} {dv : List V} (F : FunD K "__init__" "Sheet.__init__" (defArgs s_Sheet_init) (defBody s_Sheet_init) (defScope s_Sheet_init) dv [] f fd) : FnOk P w K mg base (L2.CX P w) 45 f fd ["self", "rows"] (spInitCirc K C Cc) := by
  obtain ⟨f_read_rows, fd_read_rows, G_read_rows, m_read_rows, k_read_rows, b_read_rows⟩ := GR
  obtain ⟨f_n, fd_n, G_Sheet_computed_names, h_Sheet_computed_names, b_Sheet_computed_names⟩ := GN
  obtain ⟨f_check_unknown, fd_check_unknown, G_check_unknown, m_check_unknown, k_check_unknown, b_check_unknown⟩ := GU
  obtain ⟨f_check_circles, fd_check_circles, G_check_circles, m_check_circles, k_check_circles, b_check_circles⟩ := GC
  obtain ⟨f_forms_by_inputs, fd_forms_by_inputs, G_forms_by_inputs, m_forms_by_inputs, k_forms_by_inputs, b_forms_by_inputs⟩ := GB
  obtain ⟨f_filled_table, fd_filled_table, G_filled_table, m_filled_table, k_filled_table, b_filled_table⟩ := GT
  have c_Sheet := S.c
  refine F.ok (CX := L2.CX P w) sc_Sheet_init (fun vs H Q E h => ?_) (fun cdv A outer s H vs Q E hr h => ?_)
  · obtain ⟨o, dx, a, xs, rows, x0, rfl, _⟩ := h
    rfl
  · obtain ⟨o, dx, a, xs, rows, x0, rfl, ho, hs, hall, Sh, q⟩ := h
    refine ⟨_, (pss_cons (ps_asg (pe_call G_read_rows (hr.mono (by omega)) rfl m_read_rows k_read_rows b_read_rows .nil pass0 (pa_cons (pv 1) pa_nil)) (pg_tup (by rfl) (pgs_cons (pg_att (pv 0)) (pgs_cons (pg_att (pv 0)) pgs_nil))))
      (pss_cons (ps_setDc (i := 2) (own := [("name", 4)]) rfl sc_Sheet_init.nd rfl rfl (sw_trueD rfl rfl rfl (by decide +kernel)) (pi_tup (pe_meth0 (pv 0) c_Sheet h_Sheet_computed_names G_Sheet_computed_names (hr.mono (by omega)) b_Sheet_computed_names .nil pass0)) (blkOk_by (N := ["self", "rows", "formulas", "numbers", "name", "kind", "content"]) (sc := defScope s_Sheet_init) (by decide +kernel)) (fun _ _ _ _ _ => (pg_name (i := 4) sc_Sheet_init.nd rfl (Or.inl rfl))) (fun _ _ _ _ _ => pts_nil) (fun _ _ _ _ _ => (pv 4)) (fun _ _ _ _ _ => (pe_dget (hu_of hr) (pe_fldK (K := K) rfl (pv 0) rfl) (pv 4) (fun _ _ => rfl))))
      (pss_cons (ps_expr (pe_call G_check_unknown (hr.mono (by omega)) rfl m_check_unknown k_check_unknown b_check_unknown .nil passL (pa_cons (pe_fld (pv 0) rfl) pa_nil)))
      (pss_cons (ps_expr (pe_call G_check_circles (hr.mono (by omega)) rfl m_check_circles k_check_circles b_check_circles .nil (passes_call (takes_of rfl rfl rfl rfl) (fun _ _ _ _ h => h)) (pa_cons (pv 2) pa_nil)))
      (pss_cons (ps_fld (pv 0) (pe_call G_forms_by_inputs (hr.mono (by omega)) rfl m_forms_by_inputs k_forms_by_inputs b_forms_by_inputs .nil pass0 (pa_cons (pe_fld (pv 0) rfl) (pa_cons (pv 2) pa_nil))) rfl)
      (pss_cons (ps_setLc (i := 3) (own := [("name", 4), ("kind", 5), ("content", 6)]) rfl sc_Sheet_init.nd rfl rfl (sw_true rfl rfl rfl (by decide +kernel)) (pi_tup (pe_fld (pv 0) rfl)) (blkOk_by (N := ["self", "rows", "formulas", "numbers", "name", "kind", "content"]) (sc := defScope s_Sheet_init) (by decide +kernel)) (fun _ _ _ _ _ => (pg_tupK (K := K) (n := 3) rfl (by rfl) (pgs_cons (pg_name (i := 4) sc_Sheet_init.nd rfl (Or.inl rfl)) (pgs_cons (pg_name (i := 5) sc_Sheet_init.nd rfl (Or.inl rfl)) (pgs_cons (pg_name (i := 6) sc_Sheet_init.nd rfl (Or.inl rfl)) pgs_nil))) (by rfl) (by rfl))) (fun _ _ _ _ _ => (pts_one (pt_cmpR op_eq (pv 5) pe_str (nomark _)))) (fun _ _ _ _ _ => (pe_tup (pa_cons (pv 4) (pa_cons (pv 6) pa_nil)))))
      (pss_one (ps_fld (pv 0) (pe_call G_filled_table (hr.mono (by omega)) rfl m_filled_table k_filled_table b_filled_table .nil pass0 (pa_cons (pv 0) (pa_cons (pv 3) pa_nil))) rfl)))))))), ?_⟩
    have lns : (nsOf rows).length ≤ 60 := by
      unfold nsOf
      rw [List.length_map]
      exact Sh.len
    have hstr : ∀ x ∈ nsOf rows, PyData.strOk x = true := fun x hx => by
      obtain ⟨r, hr, rfl⟩ := mem_ns hx
      exact name_ok (Sh.ok r hr).nm
    have ndC : (csOf rows).Nodup := Sh.nd.sublist (List.Sublist.map _ List.filter_sublist)
    have csub0 : ∀ x ∈ csOf rows, x ∈ nsOf rows := fun x hx => by
      obtain ⟨r, hr, rfl, _⟩ := mem_cs hx
      exact List.mem_map.mpr ⟨r, hr, rfl⟩
    refine ⟨_, rfl, a, xs, rows, nsOf rows, rfl, hs, hall, Sh.nd, Sh.ok, Sh.len, lns, hstr, fun p pr pf H1 s1 hp hprows hpf npf => ?_⟩
    have ho1 := s1 _ _ ho
    refine ⟨p, _, rfl, SqT.of hp, rfl, _, _, rfl, _, rfl, o, C, dx, _, rfl, ho1, S.c, S.n1, (by show 0 < 1000; decide), ?_⟩
    refine ⟨_, _, rfl, _, rfl, o, C, dx, _, rfl, upd_same, S.c, S.n2, (by show 1 < 1000; decide), rfl, ?_⟩
    have opf : pf ≠ o := fun e => by rw [e, ho] at npf; cases npf
    have t2 : TS H1 (upd (upd H1 o (.ins C dx [("_rows", .ref pr)])) o (.ins C dx (shA pr pf []))) := (TS.upd ho1 rfl).trans (TS.upd upd_same rfl)
    have k2 : ∀ b u, H b = some u → b ≠ o → upd (upd H1 o (.ins C dx [("_rows", .ref pr)])) o (.ins C dx (shA pr pf [])) b = some u := fun b u h n => by
      rw [upd_ne n, upd_ne n]
      exact s1 _ _ h
    have ho2 : upd (upd H1 o (.ins C dx [("_rows", .ref pr)])) o (.ins C dx (shA pr pf [])) o = some (.ins C dx (shA pr pf [])) := upd_same
    have hf2 : DX (FmR K (nsOf rows) (fOf rows)) (upd (upd H1 o (.ins C dx [("_rows", .ref pr)])) o (.ins C dx (shA pr pf []))) pf (nsOf rows) := hpf.keepT (FmR.st K _ _) (by rw [upd_ne opf, upd_ne opf]) t2
    have hr2 := dp_ts t2 (nL_rows rows) hprows
    show tSeq _ _ _ _ (upd (upd H1 o (.ins C dx [("_rows", .ref pr)])) o (.ins C dx (shA pr pf [])))
    generalize upd (upd H1 o (.ins C dx [("_rows", .ref pr)])) o (.ins C dx (shA pr pf [])) = H2 at *
    refine ⟨_, rfl, o, dx, _, rfl, ho2, rfl, o, dx, pr, pf, [], rows, rfl, ho2, hr2, Sh.len, fun p2 H3 s3 hp3 => ?_⟩
    refine ⟨p2, rfl, ⟨_, hp3.sq⟩, fun pm npm => ?_⟩
    have csub : ∀ x ∈ csOf rows, x ∈ nsOf rows := csub0
    have lcs : (csOf rows).length ≤ 60 := Nat.le_trans (sub_len ndC csub) lns
    refine dc_it (walk_tup (K := K) (a := p2) (xs := (csOf rows).map V.str)) (fun i G => Same H3 G ∧ ∃ km, G pm = some (.dK km) ∧ DX (FmR K (nsOf rows) (fOf rows)) G pm ((csOf rows).take i)) ⟨same_new npm _, [], upd_same, DX.new⟩ (fun i G _ h => same_seqT h.1 hp3.sq) ?_ ?_
    · rintro i x0 G G' hi ⟨s4, km, hkm, hd⟩ ⟨rfl, hx0⟩
      rw [List.getElem?_map] at hx0
      obtain ⟨x, hx, rfl⟩ : ∃ x, (csOf rows)[i]? = some x ∧ V.str x = x0 := by
        cases z : (csOf rows)[i]? with
        | none => rw [z] at hx0; cases hx0
        | some x => rw [z] at hx0; exact ⟨x, rfl, Option.some.inj hx0⟩
      have hxm := List.mem_of_getElem? hx
      have s34 := s3.trans s4
      obtain ⟨v, g, fv⟩ := (hf2.keep (FmR.st K _ _) s34).get (csub x hxm)
      have etk := take_more hx
      have nin : x ∉ (csOf rows).take i := fun h => by
        have z := ndC.sublist (List.take_sublist (i + 1) (csOf rows))
        rw [etk] at z
        exact (List.nodup_append.mp z).2.2 x h x (List.mem_singleton.mpr rfl) rfl
      have lkm : km.length ≤ 60 := by
        rw [hd.len hkm, List.length_take]
        omega
      refine ⟨rfl, _, rfl, _, rfl, o, C, dx, _, .ref pf, rfl, s34 _ _ ho2, S.c, S.n2, rfl, _, rfl, pf, v, rfl, g, km, Sum.inr x, rfl, hkm, small1000 (by omega), same_upd s4 npm, _, upd_same, ?_⟩
      have z := hd.put (FmR.st K _ _) hkm (x := x) (v := v) fv (fun _ _ _ h => h)
      unfold addN at z
      rw [if_neg nin] at z
      rw [etk]
      exact z
    · rintro H4 ⟨s4, km, hkm, hd4⟩
      rw [List.length_map, List.take_length] at hd4
      have s24 := s3.trans s4
      have hf4 := hf2.keep (FmR.st K _ _) s24
      refine ⟨_, rfl, o, C, dx, _, .ref pf, rfl, s24 _ _ ho2, S.c, S.n2, rfl, pf, nsOf rows, nsOf rows, fOf rows, rfl, hf4, lns, fun x hx y hy => Sh.unk x hx y hy, fun H5 s5 => ?_⟩
      obtain ⟨i0, hi0, hno, hcyc⟩ := Sh.first
      refine ⟨_, rfl, pm, nsOf rows, csOf rows, fOf rows, rfl, hd4.keep (FmR.st K _ _) s5, lns, hstr, fun x hx => hstr x (csub x hx), lcs, fun hn => absurd hcyc (hn x0 (List.mem_of_getElem? hi0)), fun i x hx hnox hx1 ed H6 s6 hed => ?_⟩
      have mem_take : ∀ {j n : Nat} {y : Str}, (csOf rows)[j]? = some y → j < n → y ∈ (csOf rows).take n := fun h lt => List.mem_of_getElem? (by rw [List.getElem?_take, if_pos lt]; exact h)
      have ei : i = i0 := by
        rcases Nat.lt_trichotomy i i0 with h | h | h
        · exact absurd hx1 (hno x (mem_take hx h))
        · exact h
        · exact absurd hcyc (hnox x0 (mem_take hi0 h))
      rw [ei, hi0] at hx
      cases hx
      refine q ed H6 (fun b u hb n => s6 _ _ (hide_at ((s4.trans s5) _ _ (s3 _ _ (k2 b u hb n))) fun e => ?_)) hed
      have z := s3 _ _ (k2 b u hb n)
      rw [e, npm] at z
      cases z
end

end Bs
namespace Bs
open PySem
open L2
/-! ### an object made where a handler stands -/
def tMakeT (C : Addr) (sp : Sp) (E : L2.St → XK) (t : TA) : TE := fun σ H Q => t σ H fun vs H1 => ∀ x dx, H1 x = none → H1 dx = none → dx ≠ x →
  sp (.ref x :: vs) (upd (upd H1 dx (.own x)) x (.ins C dx [])) (fun v H2 => v = .non ∧ Q (.ref x) H2) (E σ)
section
variable {X : Cx} {CX : CXT} {lv : Nat} {init C : Addr} {fd : FuncData} {ps : List Str} {sp : Sp} {E : L2.St → XK}
/-- the class is called; what its __init__ lets out is told the variables -/
theorem run_makeS {pins : List (Addr × Obj)} {σ : L2.St} {H : Hp} {s : Shared} {Q : VK} {us : List Value} {vs : List V} (M : Mk X.K C init) (F : FnOk X.prog X.w X.K X.mg X.base CX lv init fd ps sp) (hr : Room (lv + 1) X.A) (hb : Binds X.K fd ps [])
    (hx : PassesAt CX X σ (E σ)) (I : Inv X pins σ H s) (rv : Vals vs us)
    (want : ∀ o dx, H o = none → H dx = none → dx ≠ o → sp (.ref o :: vs) (upd (upd H dx (.own o)) o (.ins C dx [])) (fun v G => v = .non ∧ Q (.ref o) G) (E σ)) : wpAny (model X.prog X.w) X.A (call (.ref C) us) (EP X pins σ Q) X.xe s := by
  have made := Inv.made (C := C) I
  have asked := want (s.heap.objs.size + 1) s.heap.objs.size (I.hok.fresh (Nat.le_add_right _ 1)) (I.hok.fresh (Nat.le_refl _)) (Nat.ne_of_lt (Nat.lt_add_one _))
  have both : Vals (V.ref (s.heap.objs.size + 1) :: vs) (Value.ref (s.heap.objs.size + 1) :: us) := Paired.cons rfl rv
  have many := both.length.symm.trans (F.len _ _ _ _ asked)
  have bound := hb _ (.ref (s.heap.objs.size + 1) :: us) made.kIn ((congrArg List.length (List.append_nil _)).trans many)
  rw [List.append_nil] at bound
  have inner := F.run _ X.stack _ _ ⟨.ref (s.heap.objs.size + 1) :: us, []⟩ (.ref (s.heap.objs.size + 1) :: us) _ _ (E σ) (hr.make C us []) (made.env0.make C us []) bound both asked
  refine wpAny_call (make_map (f := init) I.kIn M.makes M.init (beq_iff_eq.mp M.fn) (codeAny_mono inner fun res t got => ?_))
  match res, got with
  | .error e, got => exact hx pins _ _ e t made got
  | .ok (.ret u), got =>
    obtain ⟨v, G, J, vu, ve, qq⟩ := made.after got
    rw [ve] at vu
    exact ⟨vu, V.ref (s.heap.objs.size + 1), G, J, rfl, qq⟩
theorem pe_makeT {x : Str} {p pos : Pos} {e : Expr} {es : List Expr} {t : TA} (M : Mk X.K C init) (F : FnOk X.prog X.w X.K X.mg X.base CX lv init fd ps sp) (hr : Room (lv + 1) X.A) (hg : Gl X x) (hm : X.mg x = some (.ref C)) (hb : Binds X.K fd ps []) (hx : ∀ σ, PassesAt CX X σ (E σ)) (ha : PA X (e :: es) t)
    (hd : (x == ("__debug__" : Str)) = false := by decide) (hst : starEach (e :: es) X.env = (false, eval e X.env) :: starEach es X.env := by rfl) (hpl : (backTo pos (starEach es X.env)).any (·.1) = false := by rfl) : PE X (.Call (.Name x p) (e :: es) [] pos) (tMakeT C sp E t) := by
  constructor
  intro pins s σ H Q I h
  refine wpAny_Call_Name_kw (ld_glob I hg hm (PySem.W.callWith_K (h₀ := X.base) I.ok.mod.kin M.kp ?_ hst hpl) hd)
  refine thn (ha.run pos pins s σ H _ I h) fun us s1 z => ?_
  obtain ⟨vs, G, J, rv, qq⟩ := z
  exact ⟨J.kIn, run_makeS M F hr hb (hx σ) J rv qq⟩
end
def spRound (K : PySem.W.Frag) : Sp := fun vs H Q _ => ∃ (a : Addr) (xs : List V) (rows : List Rw), vs = [.ref a] ∧ H a = some (.lst xs) ∧ DpAll K H xs (rows.map rowIn) ∧
  ((∃ rk bk val m, ShOk rows rk bk val m ∧ ∀ H', Same H H' → Q .non H') ∨ ∃ x0, ShCirc rows x0 ∧ ∀ p H', Same H H' → H' p = some (.tup [.str x0, .bl true]) → Q (.ref p) H')
section
variable {P : Program} {w : World} {K : PySem.W.Frag} {mg : Str → Option Value} {base : Heap}
theorem ok_round {C Cc Sx : Addr} (T : Bt mg) (S : Shc K C) (hSh : mg "Sheet" = some (.ref C)) (Ti : ErrF P w K mg base "CircularCell" "name" Cc) (gS : mg "SheetError" = some (.ref Sx)) (kS : PySem.W.kitOne K (.ref Cc) (.ref Sx) = some true)
    (GI : ∃ f fd, FnOk P w K mg base (L2.CX P w) 45 f fd ["self", "rows"] (fun vs H Q E => spInitSh K C vs H Q E ∨ spInitCirc K C Cc vs H Q E) ∧ Mk K C f ∧ Binds K fd ["self", "rows"] [])
    (D : Df K mg "_law_round" s_l_round ["_law_rows"]) : Kn P w K mg base CX0 "_law_round" 47 ["_law_rows"] (spRound K) := by
  obtain ⟨f, fd, F, hm, hb⟩ := D
  obtain ⟨f_i, fd_i, G_Sheet_init, M_Sheet, b_Sheet_init⟩ := GI
  refine ⟨f, fd, F.ok sc_l_round (fun vs H Q E h => ?_) (fun cdv A outer s H vs Q E hr h => ?_), hm, F.kp, hb⟩
  · obtain ⟨a, xs, rows, rfl, _⟩ := h
    rfl
  · obtain ⟨a, xs, rows, rfl, hs, hd, way⟩ := h
    refine ⟨_, (pss_cons (ps_set (i := 1) sc_l_round.nd rfl (Or.inl rfl) pe_non)
      (pss_cons (ps_try_as (i := 2) rfl rfl sc_l_round.nd rfl rfl ⟨rfl, by decide, Or.inl Ti.gC⟩ takes0 (fun W pn xe tk _ => (pss_one (ps_expr @(pe_makeT M_Sheet G_Sheet_init (hr.mono (by omega)) rfl hSh b_Sheet_init (fun σ => passAt tk σ) (pa_cons (pv 0) pa_nil))))) (fun ea oe cls ed pn hz hf => (pss_one (ps_set (i := 1) sc_l_round.nd rfl (Or.inl rfl) (pe_tup (pa_cons (pe_xf Ti.xf Ti.no hz hf (pv 2)) (pa_cons (pe_callB (call_isErr Ti.ec hz hf) (by rfl) T.n_isinstance (by decide +kernel) (pa_cons (pv 2) (pa_cons (pe_glob (v := .ref Sx) rfl gS rfl) pa_nil))) pa_nil)))))))
      (pss_one (ps_ret (pv 1))))), ?_⟩
    refine ⟨_, rfl, ?_⟩
    intro o dx no ndx ndo
    have s1 : Same H (upd (upd H dx (.own o)) o (.ins C dx [])) := (same_new ndx _).trans (same_new (by rw [upd_ne fun e => ndo e.symm]; exact no) _)
    have k2 : ∀ {H' : Hp}, (∀ b u, upd (upd H dx (.own o)) o (.ins C dx []) b = some u → b ≠ o → H' b = some u) → Same H H' := fun k b' u' h' => k b' u' (s1 _ _ h') (fun e => by rw [e, no] at h'; cases h')
    rcases way with ⟨rk, bk, val, m, Sh, q⟩ | ⟨x0, Sh, q⟩
    · exact .inl ⟨o, dx, a, xs, rows, rk, bk, val, m, rfl, upd_same, .inl (SqL.of (s1 _ _ hs)), dps_same s1 _ _ hd, Sh, fun H4 k4 R4 => ⟨rfl, _, rfl, q H4 (k2 k4)⟩⟩
    · refine .inr ⟨o, dx, a, xs, rows, x0, rfl, upd_same, .inl (SqL.of (s1 _ _ hs)), dps_same s1 _ _ hd, Sh, fun ed H4 k4 he => ?_⟩
      have s4 := k2 k4
      refine ⟨true, Ti.ex, fun _ ea hea => ?_, fun z => nomatch z⟩
      refine ⟨_, rfl, rfl, rfl, ed, _, .str x0, rfl, he, rfl, ?_⟩
      refine ⟨_, rfl, .ref Sx, .ref Sx, true, rfl, rfl, .own Sx, kS, .inr ⟨ed, _, rfl, he⟩, (by show 2 ≤ sizeLine; decide), fun p np => ?_⟩
      exact ⟨_, rfl, q p _ (s4.trans (same_new np _)) upd_same⟩
end

end Bs
namespace Bs
open PySem
open L2
/-! ### len of an object with a __len__ of its own -/
theorem call_lenOwn {X : Cx} {CX : CXT} {C fl : Addr} {lv : Nat} {fd : FuncData} {ps : List Str} {sp : Sp} {E : XK} (L : Meth X.K C "__len__" fl) (F : FnOk X.prog X.w X.K X.mg X.base CX lv fl fd ps sp) (hr : Room (lv + 1) X.A) (bF : Binds X.K fd ps []) (hx : Passes CX X E) :
    CallR X (.builtin "len") (fun xs H Q => ∃ a dx fs, xs = [.ref a] ∧ H a = some (.ins C dx fs) ∧ sp [.ref a] H (fun v G => ∃ n : Int, v = .int n ∧ 0 ≤ n ∧ n < 2 ^ 63 ∧ Q (.int n) G) E) := by
  intro pins st σ H xs us Q I rv h
  obtain ⟨a, dx, fs, rfl, ha, asked⟩ := h
  obtain ⟨u, rfl, ru⟩ := vals1 rv
  obtain rfl : u = .ref a := ru
  obtain ⟨_, inst, _⟩ := ins_get I.hok ha
  obtain ⟨_, inst, _⟩ := inst.look
  obtain ⟨_, hF⟩ := I.fr
  have one := F.len _ _ _ _ asked
  have bound := bF st [.ref a] I.kIn (by simpa using one)
  rw [List.append_nil] at bound
  have inner := F.run X.A.in1 X.stack st H ⟨[.ref a], []⟩ [.ref a] [.ref a] _ E hr.in1 I.env0.in1 bound (Paired.cons rfl Paired.nil) asked
  refine PySem.W.len_K hF I.ok.mod.kin inst L.at_ L.fn (wpAny_call (codeAny_mono inner fun res t got => ?_))
  match res, got with
  | .error e, got => exact hx pins _ _ _ e t I got
  | .ok (.ret u), got =>
    obtain ⟨v, G, J, vu, n, ve, h0, h1, qq⟩ := I.after got
    rw [ve] at vu
    obtain ⟨tk, vu⟩ := vu
    rw [vu]
    exact ⟨⟨h0, h1⟩, .int n, G, J.tok _, ⟨_, rfl⟩, qq⟩
def spLenS (K : PySem.W.Frag) (C : Addr) : Sp := fun vs H Q _ => ∃ (o : Addr) (rows : List Rw) (rk bk : Str → Nat) (val : Str → Rat) (m : Nat), vs = [.ref o] ∧ ShR K C o rows rk bk val m H ∧ Q (.int (rows.length : Nat)) H
section
variable {P : Program} {w : World} {K : PySem.W.Frag} {mg : Str → Option Value} {base : Heap}
theorem ok_len {C : Addr} (T : Bt mg) (S : Shc K C) (D : Dm K C "__len__" "Sheet.__len__" s_Sheet_len ["self"]) : KnM P w K mg base CX0 C "__len__" 33 ["self"] (spLenS K C) := by
  obtain ⟨f, fd, F, hm, hb⟩ := D
  have c_Sheet := S.c
  refine ⟨f, fd, F.ok sc_Sheet_len (fun vs H Q E h => ?_) (fun cdv A outer s H vs Q E hr h => ?_), hm, hb⟩
  · obtain ⟨o, rows, rk, bk, val, m, rfl, _⟩ := h
    rfl
  · obtain ⟨o, rows, rk, bk, val, m, rfl, sh, q⟩ := h
    refine ⟨_, (pss_one (ps_ret (pe_callB call_len_seq (by rfl) T.n_len (by decide +kernel) (pa_cons (pe_fld (pv 0) rfl) pa_nil)))), ?_⟩
    obtain ⟨Sh, dx, pr, pf, pb, pt, ord, ho, hr0, hf, hb0, hord, topo, ht⟩ := sh
    cases hr0 with
    | @tup _ xs8 _ hs8 ha8 =>
      have lx8 := dps_len ha8
      rw [List.length_map] at lx8
      refine ⟨_, rfl, o, C, dx, _, .ref pr, rfl, ho, S.c, S.n1, rfl, pr, xs8, rfl, .inr hs8, ?_⟩
      rw [lx8]
      exact q
end

end Bs
namespace Bs
open PySem
open L2
/-! ### k16: the law -/
theorem ixl_K {X : Cx} {K : PySem.W.Frag} (h : X.K = K) : IxR X (rIxL K) := by
  subst h
  exact ix_list
theorem sl_listK {X : Cx} {K : PySem.W.Frag} (h : X.K = K) : SlR X (rSlL K) := by
  subst h
  exact sl_list
theorem iteEqv {c : Bool} {A B : Prop} (hc : c = true) (h : B) : if (!c) = true then A else B := by
  rw [hc]
  exact iteF h
def spLaw (K : PySem.W.Frag) : Sp := fun vs H Q _ => ∃ (a : Addr) (ns : List Int), vs = [.ref a] ∧ SqL K H a (ns.map V.int) ∧ ns.length ≤ 63 ∧ ∀ H', Q (.bl true) H'
section
variable {P : Program} {w : World} {K : PySem.W.Frag} {mg : Str → Option Value} {base : Heap}
set_option maxHeartbeats 3200000 in
theorem ok_law {C : Addr} (T : Bt mg) (Tm : mg "min" = none) (S : Shc K C) (hSh : mg "Sheet" = some (.ref C)) (GB : Kn P w K mg base CX0 "_law_box" 33 ["_law_script"] (spBox K)) (GN : Kn P w K mg base CX0 "_law_names" 35 ["_law_box_here", "_law_many"] spNames)
    (GT : Kn P w K mg base CX0 "_law_take" 34 ["_law_box_here", "_law_size"] spTake) (GR : Kn P w K mg base CX0 "_law_rows_of" 35 ["_law_box_here", "_law_names_here", "_law_many"] (spRowsOf K)) (GH : Kn P w K mg base CX0 "_law_shuffled" 35 ["_law_box_here", "_law_things"] spShufV)
    (GO : Kn P w K mg base CX0 "_law_round" 47 ["_law_rows"] (spRound K)) (GI : ∃ f fd, FnOk P w K mg base CX0 45 f fd ["self", "rows"] (spInitSh K C) ∧ Mk K C f ∧ Binds K fd ["self", "rows"] [])
    (GL : KnM P w K mg base CX0 C "__len__" 33 ["self"] (spLenS K C))
    {f : Addr} {fd : FuncData} (F : Fun K "law" "law" s_law f fd) : FnOk P w K mg base CX0 80 f fd ["_law_script"] (spLaw K) := by
  obtain ⟨f_l_box, fd_l_box, G_l_box, m_l_box, k_l_box, b_l_box⟩ := GB
  obtain ⟨f_l_names, fd_l_names, G_l_names, m_l_names, k_l_names, b_l_names⟩ := GN
  obtain ⟨f_l_take, fd_l_take, G_l_take, m_l_take, k_l_take, b_l_take⟩ := GT
  obtain ⟨f_l_rows_of, fd_l_rows_of, G_l_rows_of, m_l_rows_of, k_l_rows_of, b_l_rows_of⟩ := GR
  obtain ⟨f_l_shuffled, fd_l_shuffled, G_l_shuffled, m_l_shuffled, k_l_shuffled, b_l_shuffled⟩ := GH
  obtain ⟨f_l_round, fd_l_round, G_l_round, m_l_round, k_l_round, b_l_round⟩ := GO
  obtain ⟨f_i, fd_i, G_Sheet_init, M_Sheet, b_Sheet_init⟩ := GI
  obtain ⟨f_len, fd_len, G_len, h_len, b_len⟩ := GL
  have c_Sheet := S.c
  refine F.ok sc_law (k := 79) (fun vs H Q E h => ?_) (fun cdv A outer s H vs Q E hr h => ?_)
  · obtain ⟨a, ns, rfl, _⟩ := h
    rfl
  · obtain ⟨a, ns, rfl, hS, hl, q⟩ := h
    refine ⟨_, (pss_cons (ps_set (i := 1) sc_law.nd rfl (Or.inl rfl) (pe_call G_l_box (hr.mono (by omega)) rfl m_l_box k_l_box b_l_box .nil pass0 (pa_cons (pv 0) pa_nil)))
      (pss_cons (ps_for PassesOwn.never rfl (pi_range1 rfl T.n_range (pa_cons pe_int pa_nil)) (pg_name (i := 2) sc_law.nd rfl (Or.inl rfl))
        (pss_cons (ps_set (i := 3) sc_law.nd rfl (Or.inr rfl) (pe_call G_l_names (hr.mono (by omega)) rfl m_l_names k_l_names b_l_names .nil pass0 (pa_cons (pv 1) (pa_cons (pe_op op_add pe_int (pe_call G_l_take (hr.mono (by omega)) rfl m_l_take k_l_take b_l_take .nil pass0 (pa_cons (pv 1) (pa_cons pe_int pa_nil)))) pa_nil))))
      (pss_cons (ps_set (i := 4) sc_law.nd rfl (Or.inr rfl) (pe_call G_l_take (hr.mono (by omega)) rfl m_l_take k_l_take b_l_take .nil pass0 (pa_cons (pv 1) (pa_cons (pe_callB (call_min2 rfl) (by rfl) Tm (by decide +kernel) (pa_cons (pe_ix ix_list (pe_lst (pa_cons pe_int (pa_cons pe_int pa_nil))) (pe_call G_l_take (hr.mono (by omega)) rfl m_l_take k_l_take b_l_take .nil pass0 (pa_cons (pv 1) (pa_cons pe_int pa_nil))) (fun _ _ => rfl)) (pa_cons (pe_callB call_len_seq (by rfl) T.n_len (by decide +kernel) (pa_cons (pv 3) pa_nil)) pa_nil))) pa_nil))))
      (pss_cons (ps_set (i := 5) sc_law.nd rfl (Or.inl rfl) (pe_call G_l_shuffled (hr.mono (by omega)) rfl m_l_shuffled k_l_shuffled b_l_shuffled .nil pass0 (pa_cons (pv 1) (pa_cons (pe_call G_l_rows_of (hr.mono (by omega)) rfl m_l_rows_of k_l_rows_of b_l_rows_of .nil pass0 (pa_cons (pv 1) (pa_cons (pv 3) (pa_cons (pv 4) pa_nil)))) pa_nil))))
      (pss_cons (ps_setLc (i := 6) (own := [("_law_row", 8)]) rfl sc_law.nd rfl rfl (sw_true rfl rfl rfl (by decide +kernel)) (pi_list (pv 5)) (blkOk_by (N := ["_law_script", "_law_box_here", "_law_turn", "_law_names_here", "_law_many", "_law_rows", "_law_due", "_law_cut", "_law_row"]) (sc := defScope s_law) (by decide +kernel)) (fun _ _ _ _ _ => (pg_name (i := 8) sc_law.nd rfl (Or.inl rfl))) (fun _ _ _ _ _ => (pts_one (pt_cmpR (op_inK (K := K) rfl) (pe_ix (ix_tupK (K := K) rfl) (pv 8) pe_int (fun _ _ => rfl)) (pe_slice (sl_listK (K := K) rfl) (pv 3) po_none (po_some (pv 4))) (by rfl)))) (fun _ _ _ _ _ => (pe_ix (ix_tupK (K := K) rfl) (pv 8) pe_int (fun _ _ => rfl))))
      (pss_cons (ps_if (pt_cmpR (op_neD hr.units) (pe_call G_l_round (hr.mono (by omega)) rfl m_l_round k_l_round b_l_round .nil pass0 (pa_cons (pv 5) pa_nil)) (pe_ifExp (pt_cmpR op_gt (pv 4) pe_int (nomark _)) (pe_tup (pa_cons (pe_ix ix_list (pv 6) pe_int (fun _ _ => rfl)) (pa_cons pe_bl pa_nil))) pe_non) (nomark _)) (pss_one (ps_ret pe_bl)) pss_nil)
      (pss_cons (ps_setLc (i := 7) (own := [("_law_row", 8)]) rfl sc_law.nd rfl rfl (sw_true rfl rfl rfl (by decide +kernel)) (pi_list (pv 5)) (blkOk_by (N := ["_law_script", "_law_box_here", "_law_turn", "_law_names_here", "_law_many", "_law_rows", "_law_due", "_law_cut", "_law_row"]) (sc := defScope s_law) (by decide +kernel)) (fun _ _ _ _ _ => (pg_name (i := 8) sc_law.nd rfl (Or.inl rfl))) (fun _ _ _ _ _ => pts_nil) (fun _ _ _ _ _ => (pe_ifExp (PW.pt (pw_or (pt_cmpR op_ne (pe_ix (ix_tupK (K := K) rfl) (pv 8) pe_int (fun _ _ => rfl)) (pe_ix (ixl_K (K := K) rfl) (pv 3) pe_int (fun _ _ => rfl)) (nomark _)) (pw_or1 (pt_cmpR op_eq (pv 4) pe_int (nomark _))))) (pv 8) (pe_tup (pa_cons (pe_ix (ix_tupK (K := K) rfl) (pv 8) pe_int (fun _ _ => rfl)) (pa_cons pe_str (pa_cons pe_int pa_nil)))))))
      (pss_one (ps_if (PW.pt (pw_or (pt_cmpR op_notN (pe_call G_l_round (hr.mono (by omega)) rfl m_l_round k_l_round b_l_round .nil pass0 (pa_cons (pv 7) pa_nil)) pe_non (nomark _)) (pw_or1 (pt_cmpR op_ne (pe_callB (call_lenOwn h_len G_len (hr.mono (by omega)) b_len pass0) (by rfl) T.n_len (by decide +kernel) (pa_cons (pe_make M_Sheet G_Sheet_init (hr.mono (by omega)) rfl hSh b_Sheet_init .nil pass0 (pa_cons (pv 7) pa_nil)) pa_nil)) (pe_callB call_len_seq (by rfl) T.n_len (by decide +kernel) (pa_cons (pv 3) pa_nil)) (nomark _))))) (pss_one (ps_ret pe_bl)) pss_nil)))))))))
      (pss_one (ps_ret pe_bl)))), ?_⟩
    refine ⟨_, rfl, a, ns, rfl, hS, hl, fun b g c H0 B0 _ _ _ _ => ?_⟩
    refine ⟨8, rfl, by decide, by decide, ?_⟩
    refine for_range (lo := 0) (n := 8) (fun i σ H' => ∃ x2 x3 x4 x5 x6 x7 x8, σ = [some (.ref a), some (.ref b), x2, x3, x4, x5, x6, x7, x8] ∧ Box H' b g c (200 * i)) ⟨_, _, _, _, _, _, _, rfl, B0⟩ ?_ ?_
    · rintro i σ H1 hi ⟨x2, x3, x4, x5, x6, x7, x8, rfl, B⟩
      have hi8 : i < 8 := hi
      refine ⟨_, rfl, _, rfl, b, g, c, _, 11, rfl, B, by omega, by decide, pow8000' _ 4 (by decide) (by decide), fun r0 H2 r00 r01 B2 b2 => ⟨_, _, rfl, rfl, ?_⟩⟩
      obtain ⟨m, hm2, hm12, em⟩ : ∃ m : Nat, 2 ≤ m ∧ m ≤ 12 ∧ (2 : Int) + r0 = (m : Int) := ⟨(r0 + 2).toNat, by omega, by omega, by omega⟩
      refine ⟨b, g, c, _, m, congrArg (fun z => [V.ref b, V.int z]) em, B2, by omega, by omega, fun po nm H3 ln nd hnm hpo npo B3 b3 => ?_⟩
      obtain ⟨pob, pog, poc⟩ := B2.ne npo
      refine ⟨_, rfl, (by show 2 ≤ sizeLine; decide), fun p1 np1 => ?_⟩
      have u1 := same_new np1 (.lst [V.int 5, V.int 12])
      refine ⟨_, rfl, b, g, c, _, 2, rfl, B3.same u1, by omega, by decide, pow8000' _ 4 (by decide) (by decide), fun r1 H4 r10 r11 B4 b4 => ?_⟩
      obtain ⟨p1b, p1g, _⟩ := B3.ne np1
      have hat : ∃ k : Int, 5 ≤ k ∧ atI [V.int 5, V.int 12] r1 = some (.int k) := by
        rcases (by omega : r1 = 0 ∨ r1 = 1) with rfl | rfl
        · exact ⟨5, by decide, rfl⟩
        · exact ⟨12, by decide, rfl⟩
      obtain ⟨k, k5, hat⟩ := hat
      have hpo4 := b4 _ _ (u1 _ _ hpo) pob pog
      refine ⟨p1, _, _, _, rfl, rfl, SqL.of (b4 _ _ upd_same p1b p1g), hat, _, rfl, ?_⟩
      have hsz : ∃ z : Nat, 1 ≤ z ∧ z ≤ nm.length ∧ (if ((nm.map V.str).length : Int) < k then ((nm.map V.str).length : Int) else k) = (z : Int) := by
        rw [List.length_map]
        split
        · exact ⟨nm.length, by omega, Nat.le_refl _, rfl⟩
        · exact ⟨k.toNat, by omega, by omega, by omega⟩
      obtain ⟨z, z1, zn, ez⟩ := hsz
      refine ⟨po, _, rfl, .inl (SqL.of hpo4), _, _, rfl, b, g, c, _, (z : Int), congrArg (fun y => [V.ref b, V.int y]) ez, B4, by omega, by omega, pow8000' _ 4 (by decide) (by omega), fun r2 H5 r20 r21 B5 b5 => ?_⟩
      obtain ⟨many, rfl⟩ : ∃ many : Nat, r2 = (many : Int) := ⟨r2.toNat, by omega⟩
      have hpo5 := b5 _ _ hpo4 pob pog
      refine ⟨_, rfl, _, rfl, _, rfl, _, rfl, b, g, c, po, _, many, nm, rfl, B5, by omega, hpo5, pob, pog, poc, nd, hnm, by omega, by omega, fun pr xs rs H6 S16 hpr hrw npr B6 b6 => ?_⟩
      obtain ⟨prb, prg, prc⟩ := B5.ne npr
      have lxs : xs.length = rs.length := by
        have z := dps_len hrw
        rw [List.length_map] at z
        exact z
      refine ⟨b, g, c, pr, _, xs, rfl, B6, by omega, hpr, by rw [lxs, S16.len]; omega, fun D ys H7 pm hD nD B7 b7 => ?_⟩
      obtain ⟨Db, Dg, Dc⟩ := B6.ne nD
      obtain ⟨rows, prm, hrw7⟩ := dps_perm pm rs (dps_same (But.ts B6 b7) _ _ hrw)
      have hpo7 := b7 _ _ (b6 _ _ hpo5 pob pog) pob pog
      have lys : ys.length = rows.length := by
        have z := dps_len hrw7
        rw [List.length_map] at z
        exact z
      have lrows : rows.length = nm.length := by rw [prm.length_eq, S16.len]
      have hrw7' : DpAll K H7 ys (rows.map rowIn) := dps_same (tps_sub H7) _ _ hrw7
      refine ⟨_, rfl, D, rfl, ⟨_, SqL.of hD⟩, fun D2 hD2 => ?_⟩
      obtain ⟨D2b, D2g, D2c⟩ := B7.ne hD2
      refine lc_list (K := K) (a := D) (xs := ys) (fun j H' => Same H7 H' ∧ H' D2 = some (.lst (((nsOf (rows.take j)).filter fun y => decide (y ∈ nm.take many)).map V.str))) ⟨same_new hD2 _, upd_same⟩ (fun j H' _ h => SqL.of (h.1 _ _ hD)) ?_ ?_
      · rintro j x H8 hx ⟨s8, hacc⟩
        obtain ⟨dt, hdt, hdx⟩ := dps_get hrw7' hx
        rw [List.getElem?_map] at hdt
        obtain ⟨rr, hr2, rfl⟩ : ∃ rr, rows[j]? = some rr ∧ rowIn rr = dt := by
          cases z : rows[j]? with
          | none => rw [z] at hdt; cases hdt
          | some rr => rw [z] at hdt; exact ⟨rr, rfl, Option.some.inj hdt⟩
        obtain ⟨kd, cc, er, _⟩ := rowIn_kd rr
        have hdx8 := dp_same s8 _ _ hdx
        rw [er] at hdx8
        cases hdx8 with
        | @tup ax zs _ hs3 ha3 =>
          cases ha3 with
          | cons h1 ha3 =>
            cases h1
            refine ⟨rfl, _, rfl, ax, _, 0, .str rr.1, rfl, rfl, hs3, at_of (j := 0) rfl rfl, ?_⟩
            refine ⟨_, rfl, _, rfl, _, rfl, po, _, rfl, SqL.of (s8 _ _ hpo7), fun p np => ?_⟩
            have ecut : cutV (nm.map V.str) none (some (many : Int)) = (nm.take many).map V.str := by
              unfold cutV
              rw [HT.sIx_none, HT.sIx_nat, List.length_map, List.drop_zero, Nat.sub_zero, ← List.map_take, Nat.min_eq_left (by omega)]
            rw [ecut]
            have up := same_new np (.lst ((nm.take many).map V.str))
            have hin := inV_strs rr.1 (nm.take many)
            refine ⟨p, _, rfl, .inl (SqL.of upd_same), rfl, flat_strs _, _, rfl, ?_⟩
            have hacc' := up _ _ hacc
            have etk := take_more hr2
            have ens : nsOf (rows.take (j + 1)) = nsOf (rows.take j) ++ [rr.1] := by
              unfold nsOf
              rw [etk, List.map_append]
              rfl
            refine ite2 (fun mm => ?_) (fun mm => ?_)
            · have mem : rr.1 ∈ nm.take many := of_decide_eq_true (hin.symm.trans mm)
              refine ⟨_, rfl, ax, _, 0, .str rr.1, rfl, rfl, same_seqT up hs3, at_of (j := 0) rfl rfl, _, hacc', ?_, same_upd (s8.trans up) hD2, ?_⟩
              · rw [List.length_map]
                refine Nat.lt_of_le_of_lt (List.length_filter_le _ _) ?_
                unfold nsOf
                rw [List.length_map, List.length_take]
                exact small1000 (by omega)
              · rw [upd_same, ens, List.filter_append, List.filter_cons_of_pos (by exact decide_eq_true mem), List.filter_nil, List.map_append]
                rfl
            · have nmem : rr.1 ∉ nm.take many := fun h => mm (hin.trans (decide_eq_true h))
              refine ⟨s8.trans up, ?_⟩
              rw [hacc', ens, List.filter_append, List.filter_cons_of_neg (by rw [decide_eq_false nmem]; exact Bool.false_ne_true), List.filter_nil, List.append_nil]
      rintro H8 ⟨s8, hacc⟩
      rw [lys, List.take_length] at hacc
      have B8 := B7.same s8
      have hrw8 := dps_same s8 _ _ hrw7'
      have hD8 := s8 _ _ hD
      have G := S16.good prm
      have hnm8 := s8 _ _ hpo7
      dsimp only [gName, tSeq]
      refine tp_if (R := fun bb H' => bb = false ∧ Same H8 H') (fun Q' q' => ?_) (fun H' r => nomatch r.1) (fun H9 r9 => ?_)
      · refine ⟨_, rfl, D, ys, rows, rfl, hD8, hrw8, ?_⟩
        by_cases h0 : many = 0
        · subst h0
          have ecr : rows.map (cutR nm 0) = rows := by
            refine (List.map_congr_left fun r _ => ?_).trans (List.map_id rows)
            unfold cutR
            rw [if_neg (fun h => h.1 rfl)]
            rfl
          rw [ecr] at G
          refine .inl ⟨_, _, _, _, G, fun H9 s9 => ?_⟩
          refine ⟨_, rfl, _, _, rfl, rfl, _, rfl, ?_⟩
          refine ite2 (fun mm => ?_) (fun mm => ?_)
          · exact absurd (of_decide_eq_true mm) (by omega)
          · refine ⟨_, _, .non, .non, rfl, rfl, _, rfl, ?_⟩
            exact q' _ _ ⟨rfl, s9⟩
        · obtain ⟨x0, hx0, x0m⟩ := nm_lt (nm := nm) (j := 0) (by omega)
          have x0t : x0 ∈ nm.take many := List.mem_of_getElem? (i := 0) (by rw [List.getElem?_take, if_pos (by omega)]; exact hx0)
          obtain ⟨y0, l0, ef⟩ : ∃ y l, (nsOf rows).filter (fun y => decide (y ∈ nm.take many)) = y :: l := by
            cases z : (nsOf rows).filter (fun y => decide (y ∈ nm.take many)) with
            | nil =>
              have h : x0 ∈ (nsOf rows).filter (fun y => decide (y ∈ nm.take many)) := List.mem_filter.mpr ⟨(S16.perm prm).mem_iff.mpr x0m, decide_eq_true x0t⟩
              rw [z] at h
              cases h
            | cons y l => exact ⟨y, l, rfl⟩
          have y0ok : PyData.strOk y0 = true := by
            have h : y0 ∈ (nsOf rows).filter (fun y => decide (y ∈ nm.take many)) := by rw [ef]; exact List.mem_cons_self ..
            exact name_ok (hnm _ ((S16.perm prm).mem_iff.mp (List.mem_filter.mp h).1))
          rw [ef, List.map_cons] at hacc
          refine .inr ⟨y0, S16.circ prm ef, fun pq H9 s9 hpq => ?_⟩
          refine ⟨_, rfl, _, _, rfl, rfl, _, rfl, ?_⟩
          refine ite2 (fun mm => ?_) (fun mm => ?_)
          · refine ⟨_, rfl, D2, _, 0, .str y0, rfl, rfl, SqL.of (s9 _ _ hacc), at_of (j := 0) rfl rfl, (by show 2 ≤ sizeLine; decide), fun pn npn => ?_⟩
            have un := same_new npn (.tup [.str y0, .bl true])
            have dl : ∀ {H : Hp} {p : Addr}, H p = some (.tup [V.str y0, .bl true]) → Dp K H (.ref p) (.tuple [.str y0, .bool true]) := fun h => .tup (SqT.of h) (.cons (.str y0) (.cons (.bl true) .nil))
            have cl : PyData.canLay0 (.tuple [.str y0, .bool true]) = true := by
              show (PyData.strOk y0 && (true && true)) = true
              rw [y0ok]
              rfl
            have sh : SeqAt.shaped (.tuple [.str y0, .bool true]) = true := by
              unfold SeqAt.shaped
              rw [cl]
              rfl
            refine ⟨_, _, dl (un _ _ hpq), dl upd_same, sh, sh, _, rfl, ?_⟩
            refine q' _ _ ⟨?_, s9.trans un⟩
            rw [PySem.SeqAt.eqv_refl _ cl]
            rfl
          · exact absurd (decide_eq_true (by omega : (0 : Int) < (many : Int))) mm
      have s9 : Same H8 H9 := r9.2
      have B9 := B8.same s9
      have hD9 := s9 _ _ hD8
      have hpo9 := s9 _ _ hnm8
      have hrw9 := dps_same s9 _ _ hrw8
      have hrwT : DpAll K (tps H9) ys (rows.map rowIn) := dps_same ((TS.of s8).trans (TS.of s9)) _ _ hrw7
      clear hacc hrw hrw7 hrw7' hpr
      obtain ⟨x0, hx0, x0m⟩ := nm_lt (nm := nm) (j := 0) (by omega)
      have at0 : atI (nm.map V.str) 0 = some (.str x0) := at_of (j := 0) rfl (by rw [List.getElem?_map, hx0]; rfl)
      refine ⟨_, rfl, D, rfl, ⟨_, SqL.of hD9⟩, fun D3 hD3 => ?_⟩
      obtain ⟨D3b, D3g, D3c⟩ := B9.ne hD3
      refine lc_list (K := K) (a := D) (xs := ys) (fun j H' => Same H9 H' ∧ ∃ zs : List V, zs.length = j ∧ H' D3 = some (.lst zs) ∧ DpAll K (tps H') zs (((rows.take j).map (cutR nm many)).map rowIn)) ⟨same_new hD3 _, [], rfl, upd_same, .nil⟩ (fun j H' _ h => SqL.of (h.1 _ _ hD9)) ?_ ?_
      · rintro j x H10 hx ⟨s10, zs, lz, hz, hzr⟩
        obtain ⟨dt, hdt, hdx⟩ := dps_get hrwT hx
        rw [List.getElem?_map] at hdt
        obtain ⟨rr, hr2, rfl⟩ : ∃ rr, rows[j]? = some rr ∧ rowIn rr = dt := by
          cases z : rows[j]? with
          | none => rw [z] at hdt; cases hdt
          | some rr => rw [z] at hdt; exact ⟨rr, rfl, Option.some.inj hdt⟩
        have hj := get_lt hr2
        have ecut : ((rows.take (j + 1)).map (cutR nm many)).map rowIn = ((rows.take j).map (cutR nm many)).map rowIn ++ [rowIn (cutR nm many rr)] := by
          rw [take_more hr2, List.map_append, List.map_append]
          rfl
        obtain ⟨kd, cc, er, _⟩ := rowIn_kd rr
        have hdx10 := dp_same (TS.of s10) _ _ hdx
        have hdr := dp_same (tps_sub H10) _ _ hdx10
        rw [er] at hdr
        have hax : ∃ ax qs, x = .ref ax ∧ SqT K H10 ax (.str rr.1 :: qs) := by
          cases hdr with
          | @tup ax qs _ hs3 ha3 =>
            cases ha3 with
            | cons h1 ha3 =>
              cases h1
              exact ⟨ax, _, rfl, hs3⟩
        obtain ⟨ax, qs, rfl, hs3⟩ := hax
        refine ⟨rfl, ?_⟩
        dsimp only [tYes]
        rw [if_pos rfl]
        refine tt_or (a := !decide (V.str rr.1 = V.str x0)) (b := decide (V.int (many : Int) = V.int 0)) (fun Q' q' => ⟨_, rfl, ax, _, 0, .str rr.1, rfl, rfl, hs3, at_of (j := 0) rfl rfl, _, rfl, po, _, 0, .str x0, rfl, rfl, SqL.of (s10 _ _ hpo9), at0, rfl, _, rfl, q'⟩) (fun Q' q' => ⟨_, rfl, rfl, _, rfl, q'⟩) _ ?_
        have econd : (!decide (V.str rr.1 = V.str x0) || decide (V.int (many : Int) = V.int 0)) = !decide (many ≠ 0 ∧ nm[0]? = some rr.1) := by
          rw [hx0]
          by_cases e1 : rr.1 = x0
          · by_cases e2 : many = 0
            · simp [e1, e2]
            · have e3 : ¬ (many : Int) = 0 := by omega
              simp [e1, e2]
          · have e1' : x0 ≠ rr.1 := fun e => e1 e.symm
            simp [e1, e1']
        rw [econd]
        have lzs : zs.length < sizeLine := small1000 (by omega)
        refine ite2 (fun mm => ?_) (fun mm => ?_)
        · have nc : ¬ (many ≠ 0 ∧ nm[0]? = some rr.1) := fun h => by rw [decide_eq_true h] at mm; cases mm
          refine ⟨_, rfl, _, hz, lzs, same_upd s10 hD3, zs ++ [.ref ax], by rw [List.length_append, lz]; rfl, upd_same, ?_⟩
          have t1 : TS H10 (upd H10 D3 (.lst (zs ++ [.ref ax]))) := TS.upd hz rfl
          rw [ecut]
          refine dps_snoc (dps_same t1 _ _ hzr) ?_
          have ec : cutR nm many rr = rr := if_neg nc
          rw [ec]
          exact dp_same t1 _ _ hdx10
        · have cc2 : many ≠ 0 ∧ nm[0]? = some rr.1 := Classical.byContradiction fun h => mm (by rw [decide_eq_false h]; rfl)
          refine ⟨_, rfl, ax, _, 0, .str rr.1, rfl, rfl, hs3, at_of (j := 0) rfl rfl, (by show 3 ≤ sizeLine; decide), fun p5 np5 => ?_⟩
          have u5 := same_new np5 (.tup [.str rr.1, .str "input", .int 5])
          have hz5 := u5 _ _ hz
          refine ⟨_, hz5, lzs, same_upd (s10.trans u5) hD3, zs ++ [.ref p5], by rw [List.length_append, lz]; rfl, upd_same, ?_⟩
          have t5 : TS (upd H10 p5 (.tup [.str rr.1, .str "input", .int 5])) (upd (upd H10 p5 (.tup [.str rr.1, .str "input", .int 5])) D3 (.lst (zs ++ [.ref p5]))) := TS.upd hz5 rfl
          rw [ecut]
          refine dps_snoc (dps_same ((TS.of u5).trans t5) _ _ hzr) ?_
          have ec : cutR nm many rr = (rr.1, .inp (.int 5) (5, 1)) := if_pos cc2
          rw [ec]
          exact .tup (SqT.of (t5 _ _ (tps_at upd_same rfl))) (.cons (.str _) (.cons (.str _) (.cons (.int _) .nil)))
      rintro H10 ⟨s10, zs, lz, hz, hzr⟩
      rw [lys, List.take_length] at hzr
      have hz10 := dps_same (tps_sub H10) _ _ hzr
      have B10 := B9.same s10
      have lrs := S16.len
      dsimp only [gName, tSeq]
      refine tp_if (R := fun bb H' => bb = false ∧ Same H10 H') (fun Q' q' => ?_) (fun H' r => nomatch r.1) (fun H11 r11 => ⟨_, _, _, _, _, _, _, rfl, (B10.same r11.2).mono (by omega)⟩)
      refine ⟨_, rfl, D3, zs, _, rfl, hz, hz10, .inl ⟨_, _, _, _, G, fun H11 s11 => ?_⟩⟩
      have hz11 := s11 _ _ hz
      refine ⟨rfl, _, rfl, ?_⟩
      show (if false = true then _ else _)
      refine iteF ?_
      refine ⟨_, rfl, ?_⟩
      intro o dx no ndx ndo
      have s12 : Same H11 (upd (upd H11 dx (.own o)) o (.ins C dx [])) := (same_new ndx _).trans (same_new (by rw [upd_ne fun e => ndo e.symm]; exact no) _)
      refine ⟨o, dx, D3, zs, _, _, _, _, _, rfl, upd_same, .inl (SqL.of (s12 _ _ hz11)), dps_same (s11.trans s12) _ _ hz10, G, fun H13 k13 R13 => ⟨rfl, ?_⟩⟩
      have s13 : Same H11 H13 := fun b' u' h' => k13 b' u' (s12 _ _ h') (fun e => by rw [e, no] at h'; cases h')
      have R13' := R13
      obtain ⟨_, dxa, pra, pfa, pba, pta, orda, hoa, _⟩ := R13'
      have el : (rows.map (cutR nm many)).length = nm.length := by rw [List.length_map, lrows]
      refine ⟨o, dxa, _, rfl, hoa, o, _, _, _, _, _, rfl, R13, ?_⟩
      refine ⟨_, rfl, Int.natCast_nonneg _, (by rw [el]; omega), _, rfl, po, _, rfl, .inl (SqL.of (s13 _ _ (s11 _ _ (s10 _ _ hpo9)))), rfl, _, rfl, ?_⟩
      refine q' _ _ ⟨?_, s11.trans s13⟩
      rw [el, List.length_map, decide_eq_true rfl]
      rfl
    · rintro σ H1 ⟨x2, x3, x4, x5, x6, x7, x8, rfl, B⟩
      exact q _
end

end Bs
namespace Bs
open PySem L2
/-! ### the ranks, from what the text's dict holds -/
theorem keys_miss {P : Params} {x : Str} : ∀ {l : List DictEntry} {ks : List Str}, l.map He.keyOf = He.keysIn P ks → x ∉ ks → l.find? (·.key.isStr x) = none ∧ l.any (·.refKey) = false
  | [], _, _, _ => ⟨rfl, rfl⟩
  | e :: r, [], h, _ => by cases h
  | e :: r, k :: ks, h, hx => by
    have h1 : He.keyOf e :: r.map He.keyOf = some (k, PyData.keyHash P k) :: He.keysIn P ks := h
    injection h1 with h2 h3
    obtain ⟨i1, i2⟩ := keys_miss h3 fun m => hx (List.mem_cons_of_mem _ m)
    obtain ⟨t, ek⟩ : ∃ t, e.key = .str k t := by
      unfold He.keyOf at h2
      split at h2
      · rename_i y t q
        have h4 := Option.some.inj h2
        exact ⟨t, by rw [q, (Prod.mk.inj h4).1]⟩
      · cases h2
    have ne : k ≠ x := fun e => hx (by rw [e]; exact List.mem_cons_self ..)
    refine ⟨?_, ?_⟩
    · rw [List.find?_cons_of_neg, i1]
      rw [ek]
      intro z
      exact ne (of_decide_eq_true (by
        have : (k == x) = true := z
        rw [beq_iff_eq] at this
        exact decide_eq_true this))
    · rw [List.any_cons, i2, Bool.or_false]
      unfold DictEntry.refKey
      rw [ek]
theorem nsIn_miss {K : PySem.W.Frag} {P : Params} {a : Addr} {o : Value} {od : Option Addr} {es : Array DictEntry} {n : Nat} {sl : Array (Option Value)} {ks : List Str} {x : Str} (l : K.lookup a = some ⟨o, od, .dict es n, sl⟩) (h : es.toList.map He.keyOf = He.keysIn P ks) (hx : x ∉ ks) : PySem.W.nsIn K a x = some none := by
  obtain ⟨m1, m2⟩ := keys_miss h hx
  unfold PySem.W.nsIn
  rw [l]
  dsimp only
  rw [m1, m2]
  rfl
theorem rnk_mk {K : PySem.W.Frag} {w : World} {mg : Str → Option Value} {a : Addr} {es : Array DictEntry} {n : Nat} {t0 t1 t2 t3 t4 : Tok} (hm : mg "RANKS" = some (.ref a)) (hl : K.lookup a = some ⟨.type "dict", none, .dict es n, #[]⟩) (hd : es.toList.map He.keyOf = He.keysIn w.params ["+", "-", "*", "/", "- factor"]) (low : (a == sysModules) = false)
    (h0 : PySem.W.nsIn K a "+" = some (some (.int 1 t0))) (h1 : PySem.W.nsIn K a "-" = some (some (.int 1 t1))) (h2 : PySem.W.nsIn K a "*" = some (some (.int 2 t2))) (h3 : PySem.W.nsIn K a "/" = some (some (.int 2 t3)))
    (h4 : PySem.W.nsIn K a "- factor" = some (some (.int 3 t4))) : Rnk K w mg := by
  have kd : KDict K w a es n := ⟨hl, He.keysLit_of hd, low⟩
  have e0 : Str.ofString "+" = SX.S [43] := by decide +kernel
  have e1 : Str.ofString "-" = SX.S [45] := by decide +kernel
  have e2 : Str.ofString "*" = SX.S [42] := by decide +kernel
  have e3 : Str.ofString "/" = SX.S [47] := by decide +kernel
  have e4 : Str.ofString "- factor" = SX.S oppW := by decide +kernel
  rw [e0] at h0
  rw [e1] at h1
  rw [e2] at h2
  rw [e3] at h3
  rw [e4] at h4
  have some_of : ∀ {x : List Nat} {r : Nat} {t : Tok}, PySem.W.nsIn K a (SX.S x) = some (some (.int (r : Int) t)) → rankW x = r → r ≠ 0 → ∃ r : Option Value, PySem.W.nsIn K a (SX.S x) = some r ∧ (rankW x = 0 → r = none) ∧ (rankW x ≠ 0 → ∃ t, r = some (.int (rankW x : Nat) t)) :=
    fun {x r t} h e n => ⟨_, h, fun z => absurd (e.symm.trans z) n, fun _ => ⟨t, by rw [e]⟩⟩
  refine ⟨a, es, n, hm, kd, fun x _ => ?_⟩
  by_cases c0 : x = [43]
  · subst c0; exact some_of (r := 1) h0 rfl (by decide)
  by_cases c1 : x = [45]
  · subst c1; exact some_of (r := 1) h1 rfl (by decide)
  by_cases c2 : x = [42]
  · subst c2; exact some_of (r := 2) h2 rfl (by decide)
  by_cases c3 : x = [47]
  · subst c3; exact some_of (r := 2) h3 rfl (by decide)
  by_cases c4 : x = oppW
  · subst c4; exact some_of (r := 3) h4 (by decide) (by decide)
  have rz : rankW x = 0 := by
    unfold rankW
    rw [if_neg (fun z => z.elim c0 c1), if_neg (fun z => z.elim c2 c3), if_neg c4]
  refine ⟨none, nsIn_miss hl hd ?_, fun _ => rfl, fun z => absurd rz z⟩
  intro m
  rw [List.mem_cons, List.mem_cons, List.mem_cons, List.mem_cons, List.mem_cons] at m
  rcases m with m | m | m | m | m | m
  · exact c0 (SX.S_inj (m.trans e0))
  · exact c1 (SX.S_inj (m.trans e1))
  · exact c2 (SX.S_inj (m.trans e2))
  · exact c3 (SX.S_inj (m.trans e3))
  · exact c4 (SX.S_inj (m.trans e4))
  · cases m

/-! ### the head by one run of the kernel: what my ends lean on -/
theorem fun_of {K : PySem.W.Frag} {x qual : Str} {st : Stmt} {f : Addr} {fd : FuncData} (F : FunD K x qual (defArgs st) (defBody st) (defScope st) [] [] f fd) : Fun K x qual st f fd := by
  obtain ⟨⟨oc, od, dV, kV, doc, pm, an, cdv, ct, osl, e, lk, hcd, hD, _⟩, kp⟩ := F
  rcases hD with ⟨_, rfl⟩ | ⟨z, _⟩
  · exact ⟨⟨oc, od, kV, doc, pm, an, cdv, ct, osl, e, lk, hcd⟩, kp⟩
  · exact absurd rfl z
theorem oexB_ok {K : PySem.W.Frag} {C : Addr} (h : oexB K C = true) : ∃ nm q N bs bm sn sub ab col dd k0 k1 k2 k3 k5, K.lookup C = some (excClassObj nm q C N bs bm true sn sub ab col dd k0 k1 k2 k3 k5 "ValueError.__new__") ∧ PySem.HandSPX.refsVE bm = true := by
  unfold oexB at h
  cases q : K.lookup C with
  | none =>
    rw [q] at h
    cases h
  | some o =>
    obtain ⟨oc, od, dt, sl⟩ := o
    rw [q] at h
    cases oc with
    | type t =>
      cases dt with
      | cls cd =>
        obtain ⟨h1, h⟩ := He.ba h
        obtain ⟨h2, h⟩ := He.ba h
        obtain ⟨h3, h⟩ := He.ba h
        obtain ⟨h4, h5⟩ := He.ba h
        have et : t = "type" := of_decide_eq_true h1
        obtain ⟨nm, bs, mro, ns, qn, hd, sn, sb, ab, col, del⟩ := cd
        have e3 : hd = true := h3
        have e4 : del = false := by
          cases del with
          | false => rfl
          | true => cases h4
        obtain ⟨bm, em, hr⟩ : ∃ bm, mro = .ref C :: bm ∧ PySem.HandSPX.refsVE bm = true := by
          cases mro with
          | nil => cases h2
          | cons v bm =>
            cases v with
            | ref c =>
              obtain ⟨z1, z2⟩ := He.ba h2
              exact ⟨bm, by rw [of_decide_eq_true z1], z2⟩
            | _ => cases h2
        obtain ⟨k0, k1, k2, k3, k5, es⟩ : ∃ k0 k1 k2 k3 k5, sl = #[k0, k1, k2, k3, some (.builtin "ValueError.__new__"), k5] := by
          obtain ⟨l⟩ := sl
          match l, h5 with
          | [a, b, c, d, some (.builtin n), f], h5 =>
            have en : n = "ValueError.__new__" := of_decide_eq_true h5
            exact ⟨a, b, c, d, f, by rw [en]⟩
        subst et e3 e4 em es
        exact ⟨nm, qn, ns, bs, bm, sn, sb, ab, col, od, k0, k1, k2, k3, k5, rfl, hr⟩
      | _ => cases h
    | _ => cases dt <;> cases h
structure ExcK (K : PySem.W.Frag) (C S : Addr) : Prop where
  ec : ExcC K C
  xf : XfC K C
  kS : PySem.W.kitOne K (.ref C) (.ref S) = some true
  ex : PySem.W.exmOne K (.ref C) (.ref C) = some true
  ty : PySem.W.typeIn K (.ref C) = some (.type "type")
  kp : PySem.W.keepIn K (.ref C) = true
theorem excB_ok {K : PySem.W.Frag} {C S : Addr} (z : spcB K = true) (h : excB K C S = true) : ExcK K C S := by
  obtain ⟨z1, z2⟩ := He.ba z
  obtain ⟨h1, h⟩ := He.ba h
  obtain ⟨h2, h⟩ := He.ba h
  obtain ⟨h3, h⟩ := He.ba h
  obtain ⟨h4, h⟩ := He.ba h
  obtain ⟨h5, h⟩ := He.ba h
  obtain ⟨h6, h⟩ := He.ba h
  obtain ⟨h7, h⟩ := He.ba h
  obtain ⟨h8, h⟩ := He.ba h
  obtain ⟨h9, h10⟩ := He.ba h
  exact ⟨⟨He.eqO_ok h1, He.eqO_ok h2, of_decide_eq_true h3, h4, He.eqO_ok h5, He.eqO_ok z1, of_decide_eq_true z2, of_decide_eq_true h6⟩, ⟨He.eqO_ok h1, He.eqO_ok h2, of_decide_eq_true h3, h4⟩, of_decide_eq_true h7, of_decide_eq_true h8, of_decide_eq_true h9, h10⟩
structure ErrK (K : PySem.W.Frag) (C S I : Addr) (fld : Str) : Prop where
  ex : ExcK K C S
  ox : OexC K C
  no : PySem.W.findIn K (.ref C) fld = some none
  i : PySem.W.findIn K (.ref C) "__init__" = some (some (.ref I))
  ti : PySem.W.typeIn K (.ref I) = some (.type "function")
theorem errB_ok {K : PySem.W.Frag} {C S I : Addr} {fld : Str} (z : spcB K = true) (h : errB K C S I fld = true) : ErrK K C S I fld := by
  obtain ⟨h1, h⟩ := He.ba h
  obtain ⟨h2, h⟩ := He.ba h
  obtain ⟨h3, h⟩ := He.ba h
  obtain ⟨h4, h⟩ := He.ba h
  obtain ⟨h5, h6⟩ := He.ba h
  have e := excB_ok z h1
  exact ⟨e, ⟨oexB_ok h2, He.eqO_ok h3, e.ec.hs, e.ty, e.kp⟩, He.eqO_ok h4, He.eqO_ok h5, of_decide_eq_true h6⟩
theorem errF_of {P : Program} {w : World} {K : PySem.W.Frag} {mg : Str → Option Value} {base : Heap} {x fld : Str} {C S I : Addr} {fd : FuncData} (hm : mg x = some (.ref C)) (e : ErrK K C S I fld) (F : FnOk P w K mg base CX0 1 I fd ["self", fld] (spErrInit C fld)) (b : Binds K fd ["self", fld] []) :
    ErrF P w K mg base x fld C := ⟨hm, e.ox, e.ex.xf, e.no, e.ex.ec, e.ex.ex, ⟨I, fd, e.i, e.ti, F, b⟩⟩
theorem errZ_of {K : PySem.W.Frag} {mg : Str → Option Value} {x : Str} {C S : Addr} (hm : mg x = some (.ref C)) (e : ExcK K C S) (x1 : PySem.W.excIn K C He.veBase "ValueError.__new__" = true) : ErrZ K mg x C := ⟨hm, x1, e.kp, e.ec.hs, e.ty, e.ec, e.ex⟩
/-! ### the Hook: facts, defs, tables, and what else is to be seen -/
section
variable {fs : List He.Fa} {fn : List He.DefD} {ts : List He.Tab} {xs : List (PySem.W.Frag → Bool)} {w : World} {K : PySem.W.Frag}
theorem SaysZ.ex (c : SaysZ fs fn ts xs w K) (i : Nat) {x : PySem.W.Frag → Bool} (h : xs[i]? = some x := by rfl) : x K = true := List.all_eq_true.mp c.x x (List.mem_of_getElem? h)
theorem SaysZ.fact (c : SaysZ fs fn ts xs w K) (i : Nat) {f : He.Fa} (h : fs[i]? = some f := by rfl) : f.ok K = true := c.t.d.fact i h
end
/-- the tables whose keys are texts -/
theorem tab_at {K : PySem.W.Frag} {a : Addr} {P : Params} {ks : List Str} (h : He.dicW K a = some (He.keysIn P ks)) : ∃ es n, K.lookup a = some ⟨.type "dict", none, .dict es n, #[]⟩ ∧ es.toList.map He.keyOf = He.keysIn P ks ∧ (a == sysModules) = false := by
  unfold He.dicW at h
  cases q : K.lookup a with
  | none =>
    rw [q] at h
    cases h
  | some o =>
    obtain ⟨oc, od, dt, osl⟩ := o
    rw [q] at h
    cases oc with
    | type c =>
      cases od with
      | none =>
        cases dt with
        | dict es n =>
          have h1 : (match decide (c = "dict") && (osl.isEmpty && !(a == sysModules)) with
            | true => some (es.toList.map He.keyOf)
            | false => none) = some (He.keysIn P ks) := h
          cases z : decide (c = "dict") && (osl.isEmpty && !(a == sysModules)) with
          | false =>
            rw [z] at h1
            cases h1
          | true =>
            rw [z] at h1
            obtain ⟨z1, z2⟩ := He.ba z
            obtain ⟨z3, z4⟩ := He.ba z2
            have e1 : c = "dict" := of_decide_eq_true z1
            have e2 : osl = #[] := Array.isEmpty_iff.mp z3
            have e3 : (a == sysModules) = false := by
              cases y : a == sysModules with
              | false => rfl
              | true =>
                rw [y] at z4
                cases z4
            subst e1 e2
            exact ⟨es, n, rfl, Option.some.inj h1, e3⟩
        | _ => cases h
      | some b => cases dt <;> cases h
    | _ => cases od <;> cases dt <;> cases h
theorem SaysZ.tab {fs : List He.Fa} {fn : List He.DefD} {ts : List He.Tab} {xs : List (PySem.W.Frag → Bool)} {w : World} {K : PySem.W.Frag} (c : SaysZ fs fn ts xs w K) (i : Nat) {t : He.Tab} (h : ts[i]? = some t := by rfl) : He.dicW K (t.1 K) = some (He.keysIn w.params t.2) := by
  have e : ts.map (fun t => He.dicW K (t.1 K)) = ts.map fun t => some (He.keysIn w.params t.2) := congrArg (fun z : He.AlT => z.2) c.t
  have e2 : (ts.map fun t => He.dicW K (t.1 K))[i]? = (ts.map fun t => some (He.keysIn w.params t.2))[i]? := by rw [e]
  rw [List.getElem?_map, List.getElem?_map, h] at e2
  exact Option.some.inj e2
/-- a law's end over such a head -/
theorem walkZ {l : PySem.W.OpenLaw} {q : Program} {loose : List Str} {XP : (Str → Option Value) → Heap → Prop} {YP : World → Heap → Prop} {d : DefRec} (hn : l.most = some 63) (hdf : d.params.defaults = [])
    (ht : l.prog.given.tree = none) (hi : PyProof.Rows.importsNone q = true)
    (F : ∀ (w : World) (mg : Str → Option Value) (fa : Addr) (h : Heap), YP w h → h.Ns mainGlobals mg → mg d.name = some (.ref fa) →
      ∃ (K : PySem.W.Frag) (fd : FuncData), K.In h ∧ (∀ (s : Shared) (u : Value), BindsTo s fd ⟨[u], []⟩ [("_law_script", u)]) ∧ ∀ base : Heap, K.In base → base.Ns mainGlobals mg → Sr l.prog base → FnG l.prog w K mg base CX0 80 fa fd ["_law_script"] (spLaw K)) :
    PySem.W.WalkO q loose XP YP l.row.toRowW d [] (fun f vs => PySem.call f vs) := by
  refine Att.attach_call hn hdf fun w s0 s1 mg mb fa o pm cd doc a vs ns G Y ho hd hcd hmg hob hin hle hge => ?_
  obtain ⟨K, fd, kx, hb, hF⟩ := F w mg fa _ Y G.T.g hmg
  exact top_callG kx G.T.g G.T.b G.T.builtins G.T.nolimit hge hob hin (Nat.le_trans hle (by decide)) ⟨rfl, by decide, by decide⟩ ht (G.T.seer hi) hF hb fun H _ hS => ⟨a, ns, rfl, hS, hle, fun _ => rfl⟩

end Bs
namespace Bs
open PySem L2
theorem walkG {l : PySem.W.OpenLaw} {q : Program} {loose : List Str} {XP : (Str → Option Value) → Heap → Prop} {YP : World → Heap → Prop} {d : DefRec} {K : Params → PySem.W.Frag} (hn : l.most = some 63) (hdf : d.params.defaults = [])
    (ht : l.prog.given.tree = none) (hi : PyProof.Rows.importsNone q = true) (hY : ∀ (w : World) (h : Heap), YP w h → (K w.params).In h)
    (F : ∀ (w : World) (mg : Str → Option Value) (fa : Addr) (h : Heap), (K w.params).In h → h.Ns mainGlobals mg → mg d.name = some (.ref fa) →
      ∃ fd : FuncData, (∀ (s : Shared) (u : Value), BindsTo s fd ⟨[u], []⟩ [("_law_script", u)]) ∧ ∀ base : Heap, (K w.params).In base → base.Ns mainGlobals mg → Sr l.prog base → FnG l.prog w (K w.params) mg base CX0 80 fa fd ["_law_script"] (spLaw (K w.params))) :
    PySem.W.WalkO q loose XP YP l.row.toRowW d [] (fun f vs => PySem.call f vs) := by
  refine Att.attach_call hn hdf fun w s0 s1 mg mb fa o pm cd doc a vs ns G Y ho hd hcd hmg hob hin hle hge => ?_
  have kx := hY w _ Y
  obtain ⟨fd, hb, hF⟩ := F w mg fa _ kx G.T.g hmg
  exact top_callG kx G.T.g G.T.b G.T.builtins G.T.nolimit hge hob hin (Nat.le_trans hle (by decide)) ⟨rfl, by decide, by decide⟩ ht (G.T.seer hi) hF hb fun H _ hS => ⟨a, ns, rfl, hS, hle, fun _ => rfl⟩

theorem UNIT_GROUP_UNIT : (10000000000000000000000000000000000000000000000000000000000000000 : Int) = 10 ^ 64 := by decide +kernel
theorem ok_ei_InvalidNumber {P : Program} {w : World} {K : PySem.W.Frag} {mg : Str → Option Value} {base : Heap} {x : Str} {C f : Addr} {fd : FuncData} (F : Fun K "__init__" x s_InvalidNumber_init f fd) (ox : OexC K C) (no : PySem.W.findIn K (.ref C) "value" = some none) : FnOk P w K mg base CX0 1 f fd ["self", "value"] (spErrInit C "value") := by
  refine F.ok sc_InvalidNumber_init (fun vs H Q E h => ?_) (fun cdv A outer s H vs Q E hr h => ?_)
  · obtain ⟨e, v, rfl, _⟩ := h
    rfl
  · obtain ⟨e, v, rfl, he, q⟩ := h
    refine ⟨_, pss_one (ps_ost (pv 0) (pv 1)), ?_⟩
    exact ⟨_, rfl, _, rfl, e, C, rfl, ox, no, .inl ⟨he, fun dx h1 h2 => q dx h1 h2⟩⟩
theorem ok_ei_InvalidText {P : Program} {w : World} {K : PySem.W.Frag} {mg : Str → Option Value} {base : Heap} {x : Str} {C f : Addr} {fd : FuncData} (F : Fun K "__init__" x s_InvalidText_init f fd) (ox : OexC K C) (no : PySem.W.findIn K (.ref C) "text" = some none) : FnOk P w K mg base CX0 1 f fd ["self", "text"] (spErrInit C "text") := by
  refine F.ok sc_InvalidText_init (fun vs H Q E h => ?_) (fun cdv A outer s H vs Q E hr h => ?_)
  · obtain ⟨e, v, rfl, _⟩ := h
    rfl
  · obtain ⟨e, v, rfl, he, q⟩ := h
    refine ⟨_, pss_one (ps_ost (pv 0) (pv 1)), ?_⟩
    exact ⟨_, rfl, _, rfl, e, C, rfl, ox, no, .inl ⟨he, fun dx h1 h2 => q dx h1 h2⟩⟩
theorem ok_ei_FormulaSyntax {P : Program} {w : World} {K : PySem.W.Frag} {mg : Str → Option Value} {base : Heap} {x : Str} {C f : Addr} {fd : FuncData} (F : Fun K "__init__" x s_FormulaSyntax_init f fd) (ox : OexC K C) (no : PySem.W.findIn K (.ref C) "position" = some none) : FnOk P w K mg base CX0 1 f fd ["self", "position"] (spErrInit C "position") := by
  refine F.ok sc_FormulaSyntax_init (fun vs H Q E h => ?_) (fun cdv A outer s H vs Q E hr h => ?_)
  · obtain ⟨e, v, rfl, _⟩ := h
    rfl
  · obtain ⟨e, v, rfl, he, q⟩ := h
    refine ⟨_, pss_one (ps_ost (pv 0) (pv 1)), ?_⟩
    exact ⟨_, rfl, _, rfl, e, C, rfl, ox, no, .inl ⟨he, fun dx h1 h2 => q dx h1 h2⟩⟩
theorem ok_ei_NotLinear {P : Program} {w : World} {K : PySem.W.Frag} {mg : Str → Option Value} {base : Heap} {x : Str} {C f : Addr} {fd : FuncData} (F : Fun K "__init__" x s_NotLinear_init f fd) (ox : OexC K C) (no : PySem.W.findIn K (.ref C) "position" = some none) : FnOk P w K mg base CX0 1 f fd ["self", "position"] (spErrInit C "position") := by
  refine F.ok sc_NotLinear_init (fun vs H Q E h => ?_) (fun cdv A outer s H vs Q E hr h => ?_)
  · obtain ⟨e, v, rfl, _⟩ := h
    rfl
  · obtain ⟨e, v, rfl, he, q⟩ := h
    refine ⟨_, pss_one (ps_ost (pv 0) (pv 1)), ?_⟩
    exact ⟨_, rfl, _, rfl, e, C, rfl, ox, no, .inl ⟨he, fun dx h1 h2 => q dx h1 h2⟩⟩
theorem ok_ei_ZeroDivisor {P : Program} {w : World} {K : PySem.W.Frag} {mg : Str → Option Value} {base : Heap} {x : Str} {C f : Addr} {fd : FuncData} (F : Fun K "__init__" x s_ZeroDivisor_init f fd) (ox : OexC K C) (no : PySem.W.findIn K (.ref C) "position" = some none) : FnOk P w K mg base CX0 1 f fd ["self", "position"] (spErrInit C "position") := by
  refine F.ok sc_ZeroDivisor_init (fun vs H Q E h => ?_) (fun cdv A outer s H vs Q E hr h => ?_)
  · obtain ⟨e, v, rfl, _⟩ := h
    rfl
  · obtain ⟨e, v, rfl, he, q⟩ := h
    refine ⟨_, pss_one (ps_ost (pv 0) (pv 1)), ?_⟩
    exact ⟨_, rfl, _, rfl, e, C, rfl, ox, no, .inl ⟨he, fun dx h1 h2 => q dx h1 h2⟩⟩
theorem ok_ei_UnknownCell {P : Program} {w : World} {K : PySem.W.Frag} {mg : Str → Option Value} {base : Heap} {x : Str} {C f : Addr} {fd : FuncData} (F : Fun K "__init__" x s_UnknownCell_init f fd) (ox : OexC K C) (no : PySem.W.findIn K (.ref C) "name" = some none) : FnOk P w K mg base CX0 1 f fd ["self", "name"] (spErrInit C "name") := by
  refine F.ok sc_UnknownCell_init (fun vs H Q E h => ?_) (fun cdv A outer s H vs Q E hr h => ?_)
  · obtain ⟨e, v, rfl, _⟩ := h
    rfl
  · obtain ⟨e, v, rfl, he, q⟩ := h
    refine ⟨_, pss_one (ps_ost (pv 0) (pv 1)), ?_⟩
    exact ⟨_, rfl, _, rfl, e, C, rfl, ox, no, .inl ⟨he, fun dx h1 h2 => q dx h1 h2⟩⟩
theorem ok_ei_CircularCell {P : Program} {w : World} {K : PySem.W.Frag} {mg : Str → Option Value} {base : Heap} {x : Str} {C f : Addr} {fd : FuncData} (F : Fun K "__init__" x s_CircularCell_init f fd) (ox : OexC K C) (no : PySem.W.findIn K (.ref C) "name" = some none) : FnOk P w K mg base CX0 1 f fd ["self", "name"] (spErrInit C "name") := by
  refine F.ok sc_CircularCell_init (fun vs H Q E h => ?_) (fun cdv A outer s H vs Q E hr h => ?_)
  · obtain ⟨e, v, rfl, _⟩ := h
    rfl
  · obtain ⟨e, v, rfl, he, q⟩ := h
    refine ⟨_, pss_one (ps_ost (pv 0) (pv 1)), ?_⟩
    exact ⟨_, rfl, _, rfl, e, C, rfl, ox, no, .inl ⟨he, fun dx h1 h2 => q dx h1 h2⟩⟩
set_option maxHeartbeats 6400000 in
theorem all_mk {l : PySem.W.OpenLaw} {w : World} {K : PySem.W.Frag} {h : Heap} {mg : Str → Option Value} {fa : Addr} (X : K.In h) (G : h.Ns mainGlobals mg) (hfa : mg "law" = some (.ref fa)) (c : SaysZ fcZ fnZ tsZ xsZ w K) :
    ∃ fd : FuncData, (∀ (s : Shared) (v : Value), BindsTo s fd ⟨[v], []⟩ [("_law_script", v)]) ∧ ∀ base : Heap, K.In base → base.Ns mainGlobals mg → Sr l.prog base → FnG l.prog w K mg base CX0 80 fa fd ["_law_script"] (spLaw K) := by
  have T : Bt mg := ⟨He.free_ok X G (c.fact 0 (f := .free "len") rfl), He.free_ok X G (c.fact 1 (f := .free "max") rfl), He.free_ok X G (c.fact 2 (f := .free "abs") rfl), He.free_ok X G (c.fact 3 (f := .free "any") rfl), He.free_ok X G (c.fact 4 (f := .free "all") rfl), He.free_ok X G (c.fact 5 (f := .free "isinstance") rfl), He.free_ok X G (c.fact 6 (f := .free "range") rfl), He.free_ok X G (c.fact 7 (f := .free "zip") rfl), He.free_ok X G (c.fact 8 (f := .free "int") rfl), He.free_ok X G (c.fact 9 (f := .free "bool") rfl), He.free_ok X G (c.fact 10 (f := .free "tuple") rfl), He.free_ok X G (c.fact 11 (f := .free "list") rfl)⟩
  have n_str := He.free_ok X G (c.fact 12 (f := .free "str") rfl)
  have n_set := He.free_ok X G (c.fact 13 (f := .free "set") rfl)
  have n_sorted := He.free_ok X G (c.fact 14 (f := .free "sorted") rfl)
  have n_dict := He.free_ok X G (c.fact 15 (f := .free "dict") rfl)
  have n_divmod := He.free_ok X G (c.fact 16 (f := .free "divmod") rfl)
  have n_enumerate := He.free_ok X G (c.fact 17 (f := .free "enumerate") rfl)
  have n_min := He.free_ok X G (c.fact 18 (f := .free "min") rfl)
  have w_GROUP_DIGITS : ∃ t, mg "GROUP_DIGITS" = some (.int 64 t) := He.int_ok X G (c.fact 19 (f := .int "GROUP_DIGITS" 64) rfl)
  have w_GROUP_UNIT : ∃ t, mg "GROUP_UNIT" = some (.int 10000000000000000000000000000000000000000000000000000000000000000 t) := He.int_ok X G (c.fact 20 (f := .int "GROUP_UNIT" 10000000000000000000000000000000000000000000000000000000000000000) rfl)
  have w_NAME_LETTERS : ∃ t, mg "NAME_LETTERS" = some (.int 8 t) := He.int_ok X G (c.fact 21 (f := .int "NAME_LETTERS" 8) rfl)
  have w_LOWEST_RANK : ∃ t, mg "LOWEST_RANK" = some (.int 1 t) := He.int_ok X G (c.fact 22 (f := .int "LOWEST_RANK" 1) rfl)
  obtain ⟨tk_DIGITS, w_DIGITS⟩ := He.str_ok X G (c.fact 23 (f := .str "DIGITS" "0123456789") rfl)
  obtain ⟨tk_LETTERS, w_LETTERS⟩ := He.str_ok X G (c.fact 24 (f := .str "LETTERS" "abcdefghijklmnopqrstuvwxyz") rfl)
  obtain ⟨tk_SIGNS, w_SIGNS⟩ := He.str_ok X G (c.fact 25 (f := .str "SIGNS" "+-*/(),") rfl)
  obtain ⟨tk_OPPOSITE, w_OPPOSITE⟩ := He.str_ok X G (c.fact 26 (f := .str "OPPOSITE" "- factor") rfl)
  obtain ⟨tk_FACTOR, w_FACTOR⟩ := He.str_ok X G (c.fact 27 (f := .str "FACTOR" "a factor") rfl)
  obtain ⟨tk_LIST, w_LIST⟩ := He.str_ok X G (c.fact 28 (f := .str "LIST" "the opening parenthesis of a list") rfl)
  obtain ⟨tk_OPERATOR, w_OPERATOR⟩ := He.str_ok X G (c.fact 29 (f := .str "OPERATOR" "an operator, a comma, a closing parenthesis or the end") rfl)
  have w_ZERO : ∃ a, mg "ZERO" = some (.ref a) ∧ ∀ H, SqT K H a [V.int 0, V.int 1] := ⟨_, (He.glo_ok X G (c.fact 30 (f := .glo "ZERO") rfl)), fun H => He.tupB_ok (c.ex 0 (x := fun K => He.tupB K "ZERO" [.int 0, .int 1]) rfl) H⟩
  have w_ONE : ∃ a, mg "ONE" = some (.ref a) ∧ ∀ H, SqT K H a [V.int 1, V.int 1] := ⟨_, (He.glo_ok X G (c.fact 31 (f := .glo "ONE") rfl)), fun H => He.tupB_ok (c.ex 1 (x := fun K => He.tupB K "ONE" [.int 1, .int 1]) rfl) H⟩
  have w_FUNCTION_WORDS : ∃ a, mg "FUNCTION_WORDS" = some (.ref a) ∧ ∀ H, SqT K H a [V.str "sum", V.str "average"] := ⟨_, (He.glo_ok X G (c.fact 32 (f := .glo "FUNCTION_WORDS") rfl)), fun H => He.tupB_ok (c.ex 2 (x := fun K => He.tupB K "FUNCTION_WORDS" [.str "sum", .str "average"]) rfl) H⟩
  have w_RANKS := (He.glo_ok X G (c.fact 33 (f := .glo "RANKS") rfl))
  obtain ⟨es_RANKS, en_RANKS, lk_RANKS, ek_RANKS, lo_RANKS⟩ := tab_at (a := He.ga K "RANKS") (ks := ["+", "-", "*", "/", "- factor"]) (c.tab 0 rfl)
  obtain ⟨u0_RANKS, dk0_RANKS, ⟨t0_RANKS, e0_RANKS⟩⟩ := He.valsB_ok (c.ex 3 (x := fun K => He.valsB K (He.ga K "RANKS") [("+", .int 1), ("-", .int 1), ("*", .int 2), ("/", .int 2), ("- factor", .int 3)]) rfl) (q := ("+", .int 1)) (List.mem_cons_self ..)
  rw [e0_RANKS] at dk0_RANKS
  obtain ⟨u1_RANKS, dk1_RANKS, ⟨t1_RANKS, e1_RANKS⟩⟩ := He.valsB_ok (c.ex 3 (x := fun K => He.valsB K (He.ga K "RANKS") [("+", .int 1), ("-", .int 1), ("*", .int 2), ("/", .int 2), ("- factor", .int 3)]) rfl) (q := ("-", .int 1)) (List.mem_cons_of_mem _ (List.mem_cons_self ..))
  rw [e1_RANKS] at dk1_RANKS
  obtain ⟨u2_RANKS, dk2_RANKS, ⟨t2_RANKS, e2_RANKS⟩⟩ := He.valsB_ok (c.ex 3 (x := fun K => He.valsB K (He.ga K "RANKS") [("+", .int 1), ("-", .int 1), ("*", .int 2), ("/", .int 2), ("- factor", .int 3)]) rfl) (q := ("*", .int 2)) (List.mem_cons_of_mem _ (List.mem_cons_of_mem _ (List.mem_cons_self ..)))
  rw [e2_RANKS] at dk2_RANKS
  obtain ⟨u3_RANKS, dk3_RANKS, ⟨t3_RANKS, e3_RANKS⟩⟩ := He.valsB_ok (c.ex 3 (x := fun K => He.valsB K (He.ga K "RANKS") [("+", .int 1), ("-", .int 1), ("*", .int 2), ("/", .int 2), ("- factor", .int 3)]) rfl) (q := ("/", .int 2)) (List.mem_cons_of_mem _ (List.mem_cons_of_mem _ (List.mem_cons_of_mem _ (List.mem_cons_self ..))))
  rw [e3_RANKS] at dk3_RANKS
  obtain ⟨u4_RANKS, dk4_RANKS, ⟨t4_RANKS, e4_RANKS⟩⟩ := He.valsB_ok (c.ex 3 (x := fun K => He.valsB K (He.ga K "RANKS") [("+", .int 1), ("-", .int 1), ("*", .int 2), ("/", .int 2), ("- factor", .int 3)]) rfl) (q := ("- factor", .int 3)) (List.mem_cons_of_mem _ (List.mem_cons_of_mem _ (List.mem_cons_of_mem _ (List.mem_cons_of_mem _ (List.mem_cons_self ..)))))
  rw [e4_RANKS] at dk4_RANKS
  have g_gcd : mg "gcd" = some (.builtin "math.gcd") := PySem.W.mg_of X G (He.eqO_ok (c.ex 4 (x := fun K => He.eqO (PySem.W.nsIn K mainGlobals "gcd") (some (some (.builtin "math.gcd")))) rfl))
  have Tg : Gt mg := ⟨g_gcd⟩
  have spc := (c.ex 5 (x := fun K => spcB K) rfl)
  obtain ⟨fd_is_whole, F0_is_whole⟩ := c.t.d.def_ 0 (d := dd_is_whole) rfl
  have F_is_whole : Fun K "is_whole" "is_whole" s_is_whole (He.ga K "is_whole") fd_is_whole := fun_of F0_is_whole
  have g_is_whole := (He.glo_ok X G (c.fact 34 (f := .glo "is_whole") rfl))
  have D_is_whole : Df K mg "is_whole" s_is_whole ["value"] := ⟨_, _, F_is_whole, g_is_whole, F_is_whole.binds fun _ _ _ _ _ _ us hl => match us, hl with | [_], _ => rfl⟩
  obtain ⟨fd_is_ratio, F0_is_ratio⟩ := c.t.d.def_ 1 (d := dd_is_ratio) rfl
  have F_is_ratio : Fun K "is_ratio" "is_ratio" s_is_ratio (He.ga K "is_ratio") fd_is_ratio := fun_of F0_is_ratio
  have g_is_ratio := (He.glo_ok X G (c.fact 35 (f := .glo "is_ratio") rfl))
  have D_is_ratio : Df K mg "is_ratio" s_is_ratio ["value"] := ⟨_, _, F_is_ratio, g_is_ratio, F_is_ratio.binds fun _ _ _ _ _ _ us hl => match us, hl with | [_], _ => rfl⟩
  obtain ⟨fd_is_number, F0_is_number⟩ := c.t.d.def_ 2 (d := dd_is_number) rfl
  have F_is_number : Fun K "is_number" "is_number" s_is_number (He.ga K "is_number") fd_is_number := fun_of F0_is_number
  have g_is_number := (He.glo_ok X G (c.fact 36 (f := .glo "is_number") rfl))
  have D_is_number : Df K mg "is_number" s_is_number ["value"] := ⟨_, _, F_is_number, g_is_number, F_is_number.binds fun _ _ _ _ _ _ us hl => match us, hl with | [_], _ => rfl⟩
  obtain ⟨fd_as_ratio, F0_as_ratio⟩ := c.t.d.def_ 3 (d := dd_as_ratio) rfl
  have F_as_ratio : Fun K "as_ratio" "as_ratio" s_as_ratio (He.ga K "as_ratio") fd_as_ratio := fun_of F0_as_ratio
  have g_as_ratio := (He.glo_ok X G (c.fact 37 (f := .glo "as_ratio") rfl))
  have D_as_ratio : Df K mg "as_ratio" s_as_ratio ["value"] := ⟨_, _, F_as_ratio, g_as_ratio, F_as_ratio.binds fun _ _ _ _ _ _ us hl => match us, hl with | [_], _ => rfl⟩
  obtain ⟨fd_add_ratios, F0_add_ratios⟩ := c.t.d.def_ 4 (d := dd_add_ratios) rfl
  have F_add_ratios : Fun K "add_ratios" "add_ratios" s_add_ratios (He.ga K "add_ratios") fd_add_ratios := fun_of F0_add_ratios
  have g_add_ratios := (He.glo_ok X G (c.fact 38 (f := .glo "add_ratios") rfl))
  have D_add_ratios : Df K mg "add_ratios" s_add_ratios ["one", "other"] := ⟨_, _, F_add_ratios, g_add_ratios, F_add_ratios.binds fun _ _ _ _ _ _ us hl => match us, hl with | [_, _], _ => rfl⟩
  obtain ⟨fd_multiply_ratios, F0_multiply_ratios⟩ := c.t.d.def_ 5 (d := dd_multiply_ratios) rfl
  have F_multiply_ratios : Fun K "multiply_ratios" "multiply_ratios" s_multiply_ratios (He.ga K "multiply_ratios") fd_multiply_ratios := fun_of F0_multiply_ratios
  have g_multiply_ratios := (He.glo_ok X G (c.fact 39 (f := .glo "multiply_ratios") rfl))
  have D_multiply_ratios : Df K mg "multiply_ratios" s_multiply_ratios ["one", "other"] := ⟨_, _, F_multiply_ratios, g_multiply_ratios, F_multiply_ratios.binds fun _ _ _ _ _ _ us hl => match us, hl with | [_, _], _ => rfl⟩
  obtain ⟨fd_divide, F0_divide⟩ := c.t.d.def_ 6 (d := dd_divide) rfl
  have F_divide : Fun K "divide" "divide" s_divide (He.ga K "divide") fd_divide := fun_of F0_divide
  have g_divide := (He.glo_ok X G (c.fact 40 (f := .glo "divide") rfl))
  have D_divide : Df K mg "divide" s_divide ["one", "other"] := ⟨_, _, F_divide, g_divide, F_divide.binds fun _ _ _ _ _ _ us hl => match us, hl with | [_, _], _ => rfl⟩
  obtain ⟨fd_read_ratio, F0_read_ratio⟩ := c.t.d.def_ 7 (d := dd_read_ratio) rfl
  have F_read_ratio : Fun K "read_ratio" "read_ratio" s_read_ratio (He.ga K "read_ratio") fd_read_ratio := fun_of F0_read_ratio
  have g_read_ratio := (He.glo_ok X G (c.fact 41 (f := .glo "read_ratio") rfl))
  have D_read_ratio : Df K mg "read_ratio" s_read_ratio ["text"] := ⟨_, _, F_read_ratio, g_read_ratio, F_read_ratio.binds fun _ _ _ _ _ _ us hl => match us, hl with | [_], _ => rfl⟩
  obtain ⟨fd_are_digits, F0_are_digits⟩ := c.t.d.def_ 8 (d := dd_are_digits) rfl
  have F_are_digits : Fun K "are_digits" "are_digits" s_are_digits (He.ga K "are_digits") fd_are_digits := fun_of F0_are_digits
  have g_are_digits := (He.glo_ok X G (c.fact 42 (f := .glo "are_digits") rfl))
  have D_are_digits : Df K mg "are_digits" s_are_digits ["text"] := ⟨_, _, F_are_digits, g_are_digits, F_are_digits.binds fun _ _ _ _ _ _ us hl => match us, hl with | [_], _ => rfl⟩
  obtain ⟨fd_read_digits, F0_read_digits⟩ := c.t.d.def_ 9 (d := dd_read_digits) rfl
  have F_read_digits : Fun K "read_digits" "read_digits" s_read_digits (He.ga K "read_digits") fd_read_digits := fun_of F0_read_digits
  have g_read_digits := (He.glo_ok X G (c.fact 43 (f := .glo "read_digits") rfl))
  have D_read_digits : Df K mg "read_digits" s_read_digits ["digits"] := ⟨_, _, F_read_digits, g_read_digits, F_read_digits.binds fun _ _ _ _ _ _ us hl => match us, hl with | [_], _ => rfl⟩
  obtain ⟨fd_is_name, F0_is_name⟩ := c.t.d.def_ 10 (d := dd_is_name) rfl
  have F_is_name : Fun K "is_name" "is_name" s_is_name (He.ga K "is_name") fd_is_name := fun_of F0_is_name
  have g_is_name := (He.glo_ok X G (c.fact 44 (f := .glo "is_name") rfl))
  have D_is_name : Df K mg "is_name" s_is_name ["value"] := ⟨_, _, F_is_name, g_is_name, F_is_name.binds fun _ _ _ _ _ _ us hl => match us, hl with | [_], _ => rfl⟩
  obtain ⟨fd_constant_form, F0_constant_form⟩ := c.t.d.def_ 11 (d := dd_constant_form) rfl
  have F_constant_form : Fun K "constant_form" "constant_form" s_constant_form (He.ga K "constant_form") fd_constant_form := fun_of F0_constant_form
  have g_constant_form := (He.glo_ok X G (c.fact 45 (f := .glo "constant_form") rfl))
  have D_constant_form : Df K mg "constant_form" s_constant_form ["number"] := ⟨_, _, F_constant_form, g_constant_form, F_constant_form.binds fun _ _ _ _ _ _ us hl => match us, hl with | [_], _ => rfl⟩
  obtain ⟨fd_cell_form, F0_cell_form⟩ := c.t.d.def_ 12 (d := dd_cell_form) rfl
  have F_cell_form : Fun K "cell_form" "cell_form" s_cell_form (He.ga K "cell_form") fd_cell_form := fun_of F0_cell_form
  have g_cell_form := (He.glo_ok X G (c.fact 46 (f := .glo "cell_form") rfl))
  have D_cell_form : Df K mg "cell_form" s_cell_form ["name"] := ⟨_, _, F_cell_form, g_cell_form, F_cell_form.binds fun _ _ _ _ _ _ us hl => match us, hl with | [_], _ => rfl⟩
  obtain ⟨fd_names_in, F0_names_in⟩ := c.t.d.def_ 13 (d := dd_names_in) rfl
  have F_names_in : Fun K "names_in" "names_in" s_names_in (He.ga K "names_in") fd_names_in := fun_of F0_names_in
  have g_names_in := (He.glo_ok X G (c.fact 47 (f := .glo "names_in") rfl))
  have D_names_in : Df K mg "names_in" s_names_in ["form"] := ⟨_, _, F_names_in, g_names_in, F_names_in.binds fun _ _ _ _ _ _ us hl => match us, hl with | [_], _ => rfl⟩
  obtain ⟨fd_add_forms, F0_add_forms⟩ := c.t.d.def_ 14 (d := dd_add_forms) rfl
  have F_add_forms : Fun K "add_forms" "add_forms" s_add_forms (He.ga K "add_forms") fd_add_forms := fun_of F0_add_forms
  have g_add_forms := (He.glo_ok X G (c.fact 48 (f := .glo "add_forms") rfl))
  have D_add_forms : Df K mg "add_forms" s_add_forms ["one", "other"] := ⟨_, _, F_add_forms, g_add_forms, F_add_forms.binds fun _ _ _ _ _ _ us hl => match us, hl with | [_, _], _ => rfl⟩
  obtain ⟨fd_subtract_forms, F0_subtract_forms⟩ := c.t.d.def_ 15 (d := dd_subtract_forms) rfl
  have F_subtract_forms : Fun K "subtract_forms" "subtract_forms" s_subtract_forms (He.ga K "subtract_forms") fd_subtract_forms := fun_of F0_subtract_forms
  have g_subtract_forms := (He.glo_ok X G (c.fact 49 (f := .glo "subtract_forms") rfl))
  have D_subtract_forms : Df K mg "subtract_forms" s_subtract_forms ["one", "other"] := ⟨_, _, F_subtract_forms, g_subtract_forms, F_subtract_forms.binds fun _ _ _ _ _ _ us hl => match us, hl with | [_, _], _ => rfl⟩
  obtain ⟨fd_scale_form, F0_scale_form⟩ := c.t.d.def_ 16 (d := dd_scale_form) rfl
  have F_scale_form : Fun K "scale_form" "scale_form" s_scale_form (He.ga K "scale_form") fd_scale_form := fun_of F0_scale_form
  have g_scale_form := (He.glo_ok X G (c.fact 50 (f := .glo "scale_form") rfl))
  have D_scale_form : Df K mg "scale_form" s_scale_form ["number", "form"] := ⟨_, _, F_scale_form, g_scale_form, F_scale_form.binds fun _ _ _ _ _ _ us hl => match us, hl with | [_, _], _ => rfl⟩
  obtain ⟨fd_value_at, F0_value_at⟩ := c.t.d.def_ 17 (d := dd_value_at) rfl
  have F_value_at : Fun K "value_at" "value_at" s_value_at (He.ga K "value_at") fd_value_at := fun_of F0_value_at
  have g_value_at := (He.glo_ok X G (c.fact 51 (f := .glo "value_at") rfl))
  have D_value_at : Df K mg "value_at" s_value_at ["form", "values"] := ⟨_, _, F_value_at, g_value_at, F_value_at.binds fun _ _ _ _ _ _ us hl => match us, hl with | [_, _], _ => rfl⟩
  obtain ⟨fd_parse_formula, F0_parse_formula⟩ := c.t.d.def_ 18 (d := dd_parse_formula) rfl
  have F_parse_formula : Fun K "parse_formula" "parse_formula" s_parse_formula (He.ga K "parse_formula") fd_parse_formula := fun_of F0_parse_formula
  have g_parse_formula := (He.glo_ok X G (c.fact 52 (f := .glo "parse_formula") rfl))
  have D_parse_formula : Df K mg "parse_formula" s_parse_formula ["text"] := ⟨_, _, F_parse_formula, g_parse_formula, F_parse_formula.binds fun _ _ _ _ _ _ us hl => match us, hl with | [_], _ => rfl⟩
  obtain ⟨fd_tokens_of, F0_tokens_of⟩ := c.t.d.def_ 19 (d := dd_tokens_of) rfl
  have F_tokens_of : Fun K "tokens_of" "tokens_of" s_tokens_of (He.ga K "tokens_of") fd_tokens_of := fun_of F0_tokens_of
  have g_tokens_of := (He.glo_ok X G (c.fact 53 (f := .glo "tokens_of") rfl))
  have D_tokens_of : Df K mg "tokens_of" s_tokens_of ["text"] := ⟨_, _, F_tokens_of, g_tokens_of, F_tokens_of.binds fun _ _ _ _ _ _ us hl => match us, hl with | [_], _ => rfl⟩
  obtain ⟨fd_token_end, F0_token_end⟩ := c.t.d.def_ 20 (d := dd_token_end) rfl
  have F_token_end : Fun K "token_end" "token_end" s_token_end (He.ga K "token_end") fd_token_end := fun_of F0_token_end
  have g_token_end := (He.glo_ok X G (c.fact 54 (f := .glo "token_end") rfl))
  have D_token_end : Df K mg "token_end" s_token_end ["text", "at"] := ⟨_, _, F_token_end, g_token_end, F_token_end.binds fun _ _ _ _ _ _ us hl => match us, hl with | [_, _], _ => rfl⟩
  obtain ⟨fd_number_end, F0_number_end⟩ := c.t.d.def_ 21 (d := dd_number_end) rfl
  have F_number_end : Fun K "number_end" "number_end" s_number_end (He.ga K "number_end") fd_number_end := fun_of F0_number_end
  have g_number_end := (He.glo_ok X G (c.fact 55 (f := .glo "number_end") rfl))
  have D_number_end : Df K mg "number_end" s_number_end ["text", "at"] := ⟨_, _, F_number_end, g_number_end, F_number_end.binds fun _ _ _ _ _ _ us hl => match us, hl with | [_, _], _ => rfl⟩
  obtain ⟨fd_run_end, F0_run_end⟩ := c.t.d.def_ 22 (d := dd_run_end) rfl
  have F_run_end : Fun K "run_end" "run_end" s_run_end (He.ga K "run_end") fd_run_end := fun_of F0_run_end
  have g_run_end := (He.glo_ok X G (c.fact 56 (f := .glo "run_end") rfl))
  have D_run_end : Df K mg "run_end" s_run_end ["text", "at", "characters"] := ⟨_, _, F_run_end, g_run_end, F_run_end.binds fun _ _ _ _ _ _ us hl => match us, hl with | [_, _, _], _ => rfl⟩
  obtain ⟨fd_result_of, F0_result_of⟩ := c.t.d.def_ 23 (d := dd_result_of) rfl
  have F_result_of : Fun K "result_of" "result_of" s_result_of (He.ga K "result_of") fd_result_of := fun_of F0_result_of
  have g_result_of := (He.glo_ok X G (c.fact 57 (f := .glo "result_of") rfl))
  have D_result_of : Df K mg "result_of" s_result_of ["steps"] := ⟨_, _, F_result_of, g_result_of, F_result_of.binds fun _ _ _ _ _ _ us hl => match us, hl with | [_], _ => rfl⟩
  obtain ⟨fd_performed, F0_performed⟩ := c.t.d.def_ 24 (d := dd_performed) rfl
  have F_performed : Fun K "performed" "performed" s_performed (He.ga K "performed") fd_performed := fun_of F0_performed
  have g_performed := (He.glo_ok X G (c.fact 58 (f := .glo "performed") rfl))
  have D_performed : Df K mg "performed" s_performed ["word", "position", "parts"] := ⟨_, _, F_performed, g_performed, F_performed.binds fun _ _ _ _ _ _ us hl => match us, hl with | [_, _, _], _ => rfl⟩
  obtain ⟨fd_total_form, F0_total_form⟩ := c.t.d.def_ 25 (d := dd_total_form) rfl
  have F_total_form : Fun K "total_form" "total_form" s_total_form (He.ga K "total_form") fd_total_form := fun_of F0_total_form
  have g_total_form := (He.glo_ok X G (c.fact 59 (f := .glo "total_form") rfl))
  have D_total_form : Df K mg "total_form" s_total_form ["parts"] := ⟨_, _, F_total_form, g_total_form, F_total_form.binds fun _ _ _ _ _ _ us hl => match us, hl with | [_], _ => rfl⟩
  obtain ⟨fd_product_form, F0_product_form⟩ := c.t.d.def_ 26 (d := dd_product_form) rfl
  have F_product_form : Fun K "product_form" "product_form" s_product_form (He.ga K "product_form") fd_product_form := fun_of F0_product_form
  have g_product_form := (He.glo_ok X G (c.fact 60 (f := .glo "product_form") rfl))
  have D_product_form : Df K mg "product_form" s_product_form ["one", "other", "position"] := ⟨_, _, F_product_form, g_product_form, F_product_form.binds fun _ _ _ _ _ _ us hl => match us, hl with | [_, _, _], _ => rfl⟩
  obtain ⟨fd_quotient_form, F0_quotient_form⟩ := c.t.d.def_ 27 (d := dd_quotient_form) rfl
  have F_quotient_form : Fun K "quotient_form" "quotient_form" s_quotient_form (He.ga K "quotient_form") fd_quotient_form := fun_of F0_quotient_form
  have g_quotient_form := (He.glo_ok X G (c.fact 61 (f := .glo "quotient_form") rfl))
  have D_quotient_form : Df K mg "quotient_form" s_quotient_form ["one", "other", "position"] := ⟨_, _, F_quotient_form, g_quotient_form, F_quotient_form.binds fun _ _ _ _ _ _ us hl => match us, hl with | [_, _, _], _ => rfl⟩
  obtain ⟨fd_read_rows, F0_read_rows⟩ := c.t.d.def_ 28 (d := dd_read_rows) rfl
  have F_read_rows : Fun K "read_rows" "read_rows" s_read_rows (He.ga K "read_rows") fd_read_rows := fun_of F0_read_rows
  have g_read_rows := (He.glo_ok X G (c.fact 62 (f := .glo "read_rows") rfl))
  have D_read_rows : Df K mg "read_rows" s_read_rows ["rows"] := ⟨_, _, F_read_rows, g_read_rows, F_read_rows.binds fun _ _ _ _ _ _ us hl => match us, hl with | [_], _ => rfl⟩
  obtain ⟨fd_is_row, F0_is_row⟩ := c.t.d.def_ 29 (d := dd_is_row) rfl
  have F_is_row : Fun K "is_row" "is_row" s_is_row (He.ga K "is_row") fd_is_row := fun_of F0_is_row
  have g_is_row := (He.glo_ok X G (c.fact 63 (f := .glo "is_row") rfl))
  have D_is_row : Df K mg "is_row" s_is_row ["value"] := ⟨_, _, F_is_row, g_is_row, F_is_row.binds fun _ _ _ _ _ _ us hl => match us, hl with | [_], _ => rfl⟩
  obtain ⟨fd_formula_form, F0_formula_form⟩ := c.t.d.def_ 30 (d := dd_formula_form) rfl
  have F_formula_form : Fun K "formula_form" "formula_form" s_formula_form (He.ga K "formula_form") fd_formula_form := fun_of F0_formula_form
  have g_formula_form := (He.glo_ok X G (c.fact 64 (f := .glo "formula_form") rfl))
  have D_formula_form : Df K mg "formula_form" s_formula_form ["name", "text"] := ⟨_, _, F_formula_form, g_formula_form, F_formula_form.binds fun _ _ _ _ _ _ us hl => match us, hl with | [_, _], _ => rfl⟩
  obtain ⟨fd_check_unknown, F0_check_unknown⟩ := c.t.d.def_ 31 (d := dd_check_unknown) rfl
  have F_check_unknown : Fun K "check_unknown" "check_unknown" s_check_unknown (He.ga K "check_unknown") fd_check_unknown := fun_of F0_check_unknown
  have g_check_unknown := (He.glo_ok X G (c.fact 65 (f := .glo "check_unknown") rfl))
  have D_check_unknown : Df K mg "check_unknown" s_check_unknown ["forms"] := ⟨_, _, F_check_unknown, g_check_unknown, F_check_unknown.binds fun _ _ _ _ _ _ us hl => match us, hl with | [_], _ => rfl⟩
  obtain ⟨fd_check_circles, F0_check_circles⟩ := c.t.d.def_ 32 (d := dd_check_circles) rfl
  have F_check_circles : Fun K "check_circles" "check_circles" s_check_circles (He.ga K "check_circles") fd_check_circles := fun_of F0_check_circles
  have g_check_circles := (He.glo_ok X G (c.fact 66 (f := .glo "check_circles") rfl))
  have D_check_circles : Df K mg "check_circles" s_check_circles ["formulas"] := ⟨_, _, F_check_circles, g_check_circles, F_check_circles.binds fun _ _ _ _ _ _ us hl => match us, hl with | [_], _ => rfl⟩
  obtain ⟨fd_reached_names, F0_reached_names⟩ := c.t.d.def_ 33 (d := dd_reached_names) rfl
  have F_reached_names : Fun K "reached_names" "reached_names" s_reached_names (He.ga K "reached_names") fd_reached_names := fun_of F0_reached_names
  have g_reached_names := (He.glo_ok X G (c.fact 67 (f := .glo "reached_names") rfl))
  have D_reached_names : Df K mg "reached_names" s_reached_names ["formulas", "name"] := ⟨_, _, F_reached_names, g_reached_names, F_reached_names.binds fun _ _ _ _ _ _ us hl => match us, hl with | [_, _], _ => rfl⟩
  obtain ⟨fd_forms_by_inputs, F0_forms_by_inputs⟩ := c.t.d.def_ 34 (d := dd_forms_by_inputs) rfl
  have F_forms_by_inputs : Fun K "forms_by_inputs" "forms_by_inputs" s_forms_by_inputs (He.ga K "forms_by_inputs") fd_forms_by_inputs := fun_of F0_forms_by_inputs
  have g_forms_by_inputs := (He.glo_ok X G (c.fact 68 (f := .glo "forms_by_inputs") rfl))
  have D_forms_by_inputs : Df K mg "forms_by_inputs" s_forms_by_inputs ["forms", "formulas"] := ⟨_, _, F_forms_by_inputs, g_forms_by_inputs, F_forms_by_inputs.binds fun _ _ _ _ _ _ us hl => match us, hl with | [_, _], _ => rfl⟩
  obtain ⟨fd_replaced_form, F0_replaced_form⟩ := c.t.d.def_ 35 (d := dd_replaced_form) rfl
  have F_replaced_form : Fun K "replaced_form" "replaced_form" s_replaced_form (He.ga K "replaced_form") fd_replaced_form := fun_of F0_replaced_form
  have g_replaced_form := (He.glo_ok X G (c.fact 69 (f := .glo "replaced_form") rfl))
  have D_replaced_form : Df K mg "replaced_form" s_replaced_form ["form", "found"] := ⟨_, _, F_replaced_form, g_replaced_form, F_replaced_form.binds fun _ _ _ _ _ _ us hl => match us, hl with | [_, _], _ => rfl⟩
  obtain ⟨fd_filled_table, F0_filled_table⟩ := c.t.d.def_ 36 (d := dd_filled_table) rfl
  have F_filled_table : Fun K "filled_table" "filled_table" s_filled_table (He.ga K "filled_table") fd_filled_table := fun_of F0_filled_table
  have g_filled_table := (He.glo_ok X G (c.fact 70 (f := .glo "filled_table") rfl))
  have D_filled_table : Df K mg "filled_table" s_filled_table ["sheet", "numbers"] := ⟨_, _, F_filled_table, g_filled_table, F_filled_table.binds fun _ _ _ _ _ _ us hl => match us, hl with | [_, _], _ => rfl⟩
  obtain ⟨fd_l_box, F0_l_box⟩ := c.t.d.def_ 37 (d := dd_l_box) rfl
  have F_l_box : Fun K "_law_box" "_law_box" s_l_box (He.ga K "_law_box") fd_l_box := fun_of F0_l_box
  have g_l_box := (He.glo_ok X G (c.fact 71 (f := .glo "_law_box") rfl))
  have D_l_box : Df K mg "_law_box" s_l_box ["_law_script"] := ⟨_, _, F_l_box, g_l_box, F_l_box.binds fun _ _ _ _ _ _ us hl => match us, hl with | [_], _ => rfl⟩
  obtain ⟨fd_l_mixed, F0_l_mixed⟩ := c.t.d.def_ 38 (d := dd_l_mixed) rfl
  have F_l_mixed : Fun K "_law_mixed" "_law_mixed" s_l_mixed (He.ga K "_law_mixed") fd_l_mixed := fun_of F0_l_mixed
  have g_l_mixed := (He.glo_ok X G (c.fact 72 (f := .glo "_law_mixed") rfl))
  have D_l_mixed : Df K mg "_law_mixed" s_l_mixed ["_law_cell", "_law_k"] := ⟨_, _, F_l_mixed, g_l_mixed, F_l_mixed.binds fun _ _ _ _ _ _ us hl => match us, hl with | [_, _], _ => rfl⟩
  obtain ⟨fd_l_take, F0_l_take⟩ := c.t.d.def_ 39 (d := dd_l_take) rfl
  have F_l_take : Fun K "_law_take" "_law_take" s_l_take (He.ga K "_law_take") fd_l_take := fun_of F0_l_take
  have g_l_take := (He.glo_ok X G (c.fact 73 (f := .glo "_law_take") rfl))
  have D_l_take : Df K mg "_law_take" s_l_take ["_law_box_here", "_law_size"] := ⟨_, _, F_l_take, g_l_take, F_l_take.binds fun _ _ _ _ _ _ us hl => match us, hl with | [_, _], _ => rfl⟩
  obtain ⟨fd_l_shuffled, F0_l_shuffled⟩ := c.t.d.def_ 40 (d := dd_l_shuffled) rfl
  have F_l_shuffled : Fun K "_law_shuffled" "_law_shuffled" s_l_shuffled (He.ga K "_law_shuffled") fd_l_shuffled := fun_of F0_l_shuffled
  have g_l_shuffled := (He.glo_ok X G (c.fact 74 (f := .glo "_law_shuffled") rfl))
  have D_l_shuffled : Df K mg "_law_shuffled" s_l_shuffled ["_law_box_here", "_law_things"] := ⟨_, _, F_l_shuffled, g_l_shuffled, F_l_shuffled.binds fun _ _ _ _ _ _ us hl => match us, hl with | [_, _], _ => rfl⟩
  obtain ⟨fd_l_names, F0_l_names⟩ := c.t.d.def_ 41 (d := dd_l_names) rfl
  have F_l_names : Fun K "_law_names" "_law_names" s_l_names (He.ga K "_law_names") fd_l_names := fun_of F0_l_names
  have g_l_names := (He.glo_ok X G (c.fact 75 (f := .glo "_law_names") rfl))
  have D_l_names : Df K mg "_law_names" s_l_names ["_law_box_here", "_law_many"] := ⟨_, _, F_l_names, g_l_names, F_l_names.binds fun _ _ _ _ _ _ us hl => match us, hl with | [_, _], _ => rfl⟩
  obtain ⟨fd_l_rows_of, F0_l_rows_of⟩ := c.t.d.def_ 42 (d := dd_l_rows_of) rfl
  have F_l_rows_of : Fun K "_law_rows_of" "_law_rows_of" s_l_rows_of (He.ga K "_law_rows_of") fd_l_rows_of := fun_of F0_l_rows_of
  have g_l_rows_of := (He.glo_ok X G (c.fact 76 (f := .glo "_law_rows_of") rfl))
  have D_l_rows_of : Df K mg "_law_rows_of" s_l_rows_of ["_law_box_here", "_law_names_here", "_law_many"] := ⟨_, _, F_l_rows_of, g_l_rows_of, F_l_rows_of.binds fun _ _ _ _ _ _ us hl => match us, hl with | [_, _, _], _ => rfl⟩
  obtain ⟨fd_l_round, F0_l_round⟩ := c.t.d.def_ 43 (d := dd_l_round) rfl
  have F_l_round : Fun K "_law_round" "_law_round" s_l_round (He.ga K "_law_round") fd_l_round := fun_of F0_l_round
  have g_l_round := (He.glo_ok X G (c.fact 77 (f := .glo "_law_round") rfl))
  have D_l_round : Df K mg "_law_round" s_l_round ["_law_rows"] := ⟨_, _, F_l_round, g_l_round, F_l_round.binds fun _ _ _ _ _ _ us hl => match us, hl with | [_], _ => rfl⟩
  obtain ⟨fd_law, F0_law⟩ := c.t.d.def_ 44 (d := dd_law) rfl
  have F_law : Fun K "law" "law" s_law (He.ga K "law") fd_law := fun_of F0_law
  have g_law := (He.glo_ok X G (c.fact 78 (f := .glo "law") rfl))
  have D_law : Df K mg "law" s_law ["_law_script"] := ⟨_, _, F_law, g_law, F_law.binds fun _ _ _ _ _ _ us hl => match us, hl with | [_], _ => rfl⟩
  obtain ⟨fd_ratio, F0_ratio⟩ := c.t.d.def_ 45 (d := dd_ratio) rfl
  have F_ratio : FunD K "ratio" "ratio" (defArgs s_ratio) (defBody s_ratio) (defScope s_ratio) [.int 1] [] (He.ga K "ratio") fd_ratio := F0_ratio
  have D_ratio : Df1 K mg "ratio" s_ratio ["top", "bottom"] := by
    obtain ⟨ds0, v0, b0⟩ := F_ratio.binds1 (ps := ["top", "bottom"]) 2 1 (List.cons_ne_nil _ _) rfl fun _ _ _ _ _ _ _ us its hl hi => match us, its, hl, hi with | [_, _], [_], _, _ => ⟨_, rfl, rfl⟩
    obtain ⟨ds1, v1, b1⟩ := F_ratio.binds1 (ps := ["top", "bottom"]) 1 0 (List.cons_ne_nil _ _) rfl fun _ _ _ _ _ _ _ us its hl hi => match us, its, hl, hi with | [_], [_], _, _ => ⟨_, rfl, rfl⟩
    cases v0
    exact ⟨_, _, F_ratio, (He.glo_ok X G (c.fact 79 (f := .glo "ratio") rfl)), b0, ds1, v1, b1⟩
  have g_SheetError := (He.glo_ok X G (c.fact 80 (f := .glo "SheetError") rfl))
  have k_ZeroBottom := excB_ok spc (c.ex 6 (x := fun K => excB K (He.ga K "ZeroBottom") (He.ga K "SheetError")) rfl)
  have g_ZeroBottom := (He.glo_ok X G (c.fact 81 (f := .glo "ZeroBottom") rfl))
  have Z_ZeroBottom : ErrZ K mg "ZeroBottom" (He.ga K "ZeroBottom") := errZ_of g_ZeroBottom k_ZeroBottom (He.exc_ok (c.fact 82 (f := .exc "ZeroBottom") rfl)).1
  obtain ⟨fd_InvalidNumber_init, F0_InvalidNumber_init⟩ := c.t.d.def_ 46 (d := dd_InvalidNumber_init) rfl
  have k_InvalidNumber := errB_ok spc (c.ex 7 (x := fun K => errB K (He.ga K "InvalidNumber") (He.ga K "SheetError") (He.ma K (He.ga K "InvalidNumber") "__init__") "value") rfl)
  have g_InvalidNumber := (He.glo_ok X G (c.fact 83 (f := .glo "InvalidNumber") rfl))
  have Fi_InvalidNumber : Fun K "__init__" "InvalidNumber.__init__" s_InvalidNumber_init (He.ma K (He.ga K "InvalidNumber") "__init__") fd_InvalidNumber_init := fun_of F0_InvalidNumber_init
  obtain ⟨fd_InvalidText_init, F0_InvalidText_init⟩ := c.t.d.def_ 47 (d := dd_InvalidText_init) rfl
  have k_InvalidText := errB_ok spc (c.ex 8 (x := fun K => errB K (He.ga K "InvalidText") (He.ga K "SheetError") (He.ma K (He.ga K "InvalidText") "__init__") "text") rfl)
  have g_InvalidText := (He.glo_ok X G (c.fact 84 (f := .glo "InvalidText") rfl))
  have Fi_InvalidText : Fun K "__init__" "InvalidText.__init__" s_InvalidText_init (He.ma K (He.ga K "InvalidText") "__init__") fd_InvalidText_init := fun_of F0_InvalidText_init
  obtain ⟨fd_FormulaSyntax_init, F0_FormulaSyntax_init⟩ := c.t.d.def_ 48 (d := dd_FormulaSyntax_init) rfl
  have k_FormulaSyntax := errB_ok spc (c.ex 9 (x := fun K => errB K (He.ga K "FormulaSyntax") (He.ga K "SheetError") (He.ma K (He.ga K "FormulaSyntax") "__init__") "position") rfl)
  have g_FormulaSyntax := (He.glo_ok X G (c.fact 85 (f := .glo "FormulaSyntax") rfl))
  have Fi_FormulaSyntax : Fun K "__init__" "FormulaSyntax.__init__" s_FormulaSyntax_init (He.ma K (He.ga K "FormulaSyntax") "__init__") fd_FormulaSyntax_init := fun_of F0_FormulaSyntax_init
  obtain ⟨fd_NotLinear_init, F0_NotLinear_init⟩ := c.t.d.def_ 49 (d := dd_NotLinear_init) rfl
  have k_NotLinear := errB_ok spc (c.ex 10 (x := fun K => errB K (He.ga K "NotLinear") (He.ga K "SheetError") (He.ma K (He.ga K "NotLinear") "__init__") "position") rfl)
  have g_NotLinear := (He.glo_ok X G (c.fact 86 (f := .glo "NotLinear") rfl))
  have Fi_NotLinear : Fun K "__init__" "NotLinear.__init__" s_NotLinear_init (He.ma K (He.ga K "NotLinear") "__init__") fd_NotLinear_init := fun_of F0_NotLinear_init
  obtain ⟨fd_ZeroDivisor_init, F0_ZeroDivisor_init⟩ := c.t.d.def_ 50 (d := dd_ZeroDivisor_init) rfl
  have k_ZeroDivisor := errB_ok spc (c.ex 11 (x := fun K => errB K (He.ga K "ZeroDivisor") (He.ga K "SheetError") (He.ma K (He.ga K "ZeroDivisor") "__init__") "position") rfl)
  have g_ZeroDivisor := (He.glo_ok X G (c.fact 87 (f := .glo "ZeroDivisor") rfl))
  have Fi_ZeroDivisor : Fun K "__init__" "ZeroDivisor.__init__" s_ZeroDivisor_init (He.ma K (He.ga K "ZeroDivisor") "__init__") fd_ZeroDivisor_init := fun_of F0_ZeroDivisor_init
  obtain ⟨fd_UnknownCell_init, F0_UnknownCell_init⟩ := c.t.d.def_ 51 (d := dd_UnknownCell_init) rfl
  have k_UnknownCell := errB_ok spc (c.ex 12 (x := fun K => errB K (He.ga K "UnknownCell") (He.ga K "SheetError") (He.ma K (He.ga K "UnknownCell") "__init__") "name") rfl)
  have g_UnknownCell := (He.glo_ok X G (c.fact 88 (f := .glo "UnknownCell") rfl))
  have Fi_UnknownCell : Fun K "__init__" "UnknownCell.__init__" s_UnknownCell_init (He.ma K (He.ga K "UnknownCell") "__init__") fd_UnknownCell_init := fun_of F0_UnknownCell_init
  obtain ⟨fd_CircularCell_init, F0_CircularCell_init⟩ := c.t.d.def_ 52 (d := dd_CircularCell_init) rfl
  have k_CircularCell := errB_ok spc (c.ex 13 (x := fun K => errB K (He.ga K "CircularCell") (He.ga K "SheetError") (He.ma K (He.ga K "CircularCell") "__init__") "name") rfl)
  have g_CircularCell := (He.glo_ok X G (c.fact 89 (f := .glo "CircularCell") rfl))
  have Fi_CircularCell : Fun K "__init__" "CircularCell.__init__" s_CircularCell_init (He.ma K (He.ga K "CircularCell") "__init__") fd_CircularCell_init := fun_of F0_CircularCell_init
  have g_StepOrder := (He.glo_ok X G (c.fact 90 (f := .glo "StepOrder") rfl))
  have c_StepOrder : Cls K (He.ga K "StepOrder") := He.cls_ok (c.fact 91 (f := .cls "StepOrder") rfl)
  have na_StepOrder_steps := He.noat_ok (c.fact 92 (f := .noat "StepOrder" "steps") rfl)
  have na_StepOrder_waiting := He.noat_ok (c.fact 93 (f := .noat "StepOrder" "waiting") rfl)
  have na_StepOrder_expected := He.noat_ok (c.fact 94 (f := .noat "StepOrder" "expected") rfl)
  have M_StepOrder := He.mkr_ok (c.fact 95 (f := .mkr "StepOrder") rfl)
  obtain ⟨fd_StepOrder_init, F0_StepOrder_init⟩ := c.t.d.def_ 53 (d := dd_StepOrder_init) rfl
  have F_StepOrder_init : Fun K "__init__" "StepOrder.__init__" s_StepOrder_init (He.ma K (He.ga K "StepOrder") "__init__") fd_StepOrder_init := fun_of F0_StepOrder_init
  have D_StepOrder_init : ∃ f fd, Fun K "__init__" "StepOrder.__init__" s_StepOrder_init f fd ∧ Binds K fd ["self"] [] ∧ Mk K (He.ga K "StepOrder") f := ⟨_, _, F_StepOrder_init, F_StepOrder_init.binds fun _ _ _ _ _ _ us hl => match us, hl with | [_], _ => rfl, M_StepOrder⟩
  have g_Sheet := (He.glo_ok X G (c.fact 96 (f := .glo "Sheet") rfl))
  have c_Sheet : Cls K (He.ga K "Sheet") := He.cls_ok (c.fact 97 (f := .cls "Sheet") rfl)
  have na_Sheet_by_inputs := He.noat_ok (c.fact 98 (f := .noat "Sheet" "_by_inputs") rfl)
  have na_Sheet_table := He.noat_ok (c.fact 99 (f := .noat "Sheet" "_table") rfl)
  have na_Sheet_rows := He.noat_ok (c.fact 100 (f := .noat "Sheet" "_rows") rfl)
  have na_Sheet_forms := He.noat_ok (c.fact 101 (f := .noat "Sheet" "_forms") rfl)
  have M_Sheet := He.mkr_ok (c.fact 102 (f := .mkr "Sheet") rfl)
  obtain ⟨fd_Sheet_init, F0_Sheet_init⟩ := c.t.d.def_ 54 (d := dd_Sheet_init) rfl
  have F_Sheet_init : FunD K "__init__" "Sheet.__init__" (defArgs s_Sheet_init) (defBody s_Sheet_init) (defScope s_Sheet_init) [.ref (He.dflAt ("Sheet", some "__init__") 0 K)] [] (He.ma K (He.ga K "Sheet") "__init__") fd_Sheet_init := F0_Sheet_init
  have D_Sheet_init : ∃ f fd dv, FunD K "__init__" "Sheet.__init__" (defArgs s_Sheet_init) (defBody s_Sheet_init) (defScope s_Sheet_init) dv [] f fd ∧ Binds K fd ["self", "rows"] [] ∧ Mk K (He.ga K "Sheet") f := by
    obtain ⟨ds0, v0, b0⟩ := F_Sheet_init.binds1 (ps := ["self", "rows"]) 2 1 (List.cons_ne_nil _ _) rfl fun _ _ _ _ _ _ _ us its hl hi => match us, its, hl, hi with | [_, _], [_], _, _ => ⟨_, rfl, rfl⟩
    cases v0
    exact ⟨_, _, _, F_Sheet_init, b0, M_Sheet⟩
  obtain ⟨fd_StepOrder_take, F0_StepOrder_take⟩ := c.t.d.def_ 55 (d := dd_StepOrder_take) rfl
  have F_StepOrder_take : Fun K "take" "StepOrder.take" s_StepOrder_take (He.ma K (He.ga K "StepOrder") "take") fd_StepOrder_take := fun_of F0_StepOrder_take
  have D_StepOrder_take : Dm K (He.ga K "StepOrder") "take" "StepOrder.take" s_StepOrder_take ["self", "word", "position"] := ⟨_, _, F_StepOrder_take, He.meth_ok (c.fact 103 (f := .meth "StepOrder" "take") rfl), F_StepOrder_take.binds fun _ _ _ _ _ _ us hl => match us, hl with | [_, _, _], _ => rfl⟩
  obtain ⟨fd_StepOrder_take_factor, F0_StepOrder_take_factor⟩ := c.t.d.def_ 56 (d := dd_StepOrder_take_factor) rfl
  have F_StepOrder_take_factor : Fun K "take_factor" "StepOrder.take_factor" s_StepOrder_take_factor (He.ma K (He.ga K "StepOrder") "take_factor") fd_StepOrder_take_factor := fun_of F0_StepOrder_take_factor
  have D_StepOrder_take_factor : Dm K (He.ga K "StepOrder") "take_factor" "StepOrder.take_factor" s_StepOrder_take_factor ["self", "word", "position"] := ⟨_, _, F_StepOrder_take_factor, He.meth_ok (c.fact 104 (f := .meth "StepOrder" "take_factor") rfl), F_StepOrder_take_factor.binds fun _ _ _ _ _ _ us hl => match us, hl with | [_, _, _], _ => rfl⟩
  obtain ⟨fd_StepOrder_take_list, F0_StepOrder_take_list⟩ := c.t.d.def_ 57 (d := dd_StepOrder_take_list) rfl
  have F_StepOrder_take_list : Fun K "take_list" "StepOrder.take_list" s_StepOrder_take_list (He.ma K (He.ga K "StepOrder") "take_list") fd_StepOrder_take_list := fun_of F0_StepOrder_take_list
  have D_StepOrder_take_list : Dm K (He.ga K "StepOrder") "take_list" "StepOrder.take_list" s_StepOrder_take_list ["self", "word", "position"] := ⟨_, _, F_StepOrder_take_list, He.meth_ok (c.fact 105 (f := .meth "StepOrder" "take_list") rfl), F_StepOrder_take_list.binds fun _ _ _ _ _ _ us hl => match us, hl with | [_, _, _], _ => rfl⟩
  obtain ⟨fd_StepOrder_take_end, F0_StepOrder_take_end⟩ := c.t.d.def_ 58 (d := dd_StepOrder_take_end) rfl
  have F_StepOrder_take_end : Fun K "take_end" "StepOrder.take_end" s_StepOrder_take_end (He.ma K (He.ga K "StepOrder") "take_end") fd_StepOrder_take_end := fun_of F0_StepOrder_take_end
  have D_StepOrder_take_end : Dm K (He.ga K "StepOrder") "take_end" "StepOrder.take_end" s_StepOrder_take_end ["self", "word", "position"] := ⟨_, _, F_StepOrder_take_end, He.meth_ok (c.fact 106 (f := .meth "StepOrder" "take_end") rfl), F_StepOrder_take_end.binds fun _ _ _ _ _ _ us hl => match us, hl with | [_, _, _], _ => rfl⟩
  obtain ⟨fd_StepOrder_release, F0_StepOrder_release⟩ := c.t.d.def_ 59 (d := dd_StepOrder_release) rfl
  have F_StepOrder_release : Fun K "release" "StepOrder.release" s_StepOrder_release (He.ma K (He.ga K "StepOrder") "release") fd_StepOrder_release := fun_of F0_StepOrder_release
  have D_StepOrder_release : Dm K (He.ga K "StepOrder") "release" "StepOrder.release" s_StepOrder_release ["self", "rank"] := ⟨_, _, F_StepOrder_release, He.meth_ok (c.fact 107 (f := .meth "StepOrder" "release") rfl), F_StepOrder_release.binds fun _ _ _ _ _ _ us hl => match us, hl with | [_, _], _ => rfl⟩
  obtain ⟨fd_StepOrder_finish, F0_StepOrder_finish⟩ := c.t.d.def_ 60 (d := dd_StepOrder_finish) rfl
  have F_StepOrder_finish : Fun K "finish" "StepOrder.finish" s_StepOrder_finish (He.ma K (He.ga K "StepOrder") "finish") fd_StepOrder_finish := fun_of F0_StepOrder_finish
  have D_StepOrder_finish : Dm K (He.ga K "StepOrder") "finish" "StepOrder.finish" s_StepOrder_finish ["self", "length"] := ⟨_, _, F_StepOrder_finish, He.meth_ok (c.fact 108 (f := .meth "StepOrder" "finish") rfl), F_StepOrder_finish.binds fun _ _ _ _ _ _ us hl => match us, hl with | [_, _], _ => rfl⟩
  obtain ⟨fd_Sheet_len, F0_Sheet_len⟩ := c.t.d.def_ 61 (d := dd_Sheet_len) rfl
  have F_Sheet_len : Fun K "__len__" "Sheet.__len__" s_Sheet_len (He.ma K (He.ga K "Sheet") "__len__") fd_Sheet_len := fun_of F0_Sheet_len
  have D_Sheet_len : Dm K (He.ga K "Sheet") "__len__" "Sheet.__len__" s_Sheet_len ["self"] := ⟨_, _, F_Sheet_len, He.meth_ok (c.fact 109 (f := .meth "Sheet" "__len__") rfl), F_Sheet_len.binds fun _ _ _ _ _ _ us hl => match us, hl with | [_], _ => rfl⟩
  obtain ⟨fd_Sheet_cell_names, F0_Sheet_cell_names⟩ := c.t.d.def_ 62 (d := dd_Sheet_cell_names) rfl
  have F_Sheet_cell_names : Fun K "cell_names" "Sheet.cell_names" s_Sheet_cell_names (He.ma K (He.ga K "Sheet") "cell_names") fd_Sheet_cell_names := fun_of F0_Sheet_cell_names
  have D_Sheet_cell_names : Dm K (He.ga K "Sheet") "cell_names" "Sheet.cell_names" s_Sheet_cell_names ["self"] := ⟨_, _, F_Sheet_cell_names, He.meth_ok (c.fact 110 (f := .meth "Sheet" "cell_names") rfl), F_Sheet_cell_names.binds fun _ _ _ _ _ _ us hl => match us, hl with | [_], _ => rfl⟩
  obtain ⟨fd_Sheet_computed_names, F0_Sheet_computed_names⟩ := c.t.d.def_ 63 (d := dd_Sheet_computed_names) rfl
  have F_Sheet_computed_names : Fun K "computed_names" "Sheet.computed_names" s_Sheet_computed_names (He.ma K (He.ga K "Sheet") "computed_names") fd_Sheet_computed_names := fun_of F0_Sheet_computed_names
  have D_Sheet_computed_names : Dm K (He.ga K "Sheet") "computed_names" "Sheet.computed_names" s_Sheet_computed_names ["self"] := ⟨_, _, F_Sheet_computed_names, He.meth_ok (c.fact 111 (f := .meth "Sheet" "computed_names") rfl), F_Sheet_computed_names.binds fun _ _ _ _ _ _ us hl => match us, hl with | [_], _ => rfl⟩
  obtain ⟨fd_Sheet_form_by_inputs, F0_Sheet_form_by_inputs⟩ := c.t.d.def_ 64 (d := dd_Sheet_form_by_inputs) rfl
  have F_Sheet_form_by_inputs : Fun K "form_by_inputs" "Sheet.form_by_inputs" s_Sheet_form_by_inputs (He.ma K (He.ga K "Sheet") "form_by_inputs") fd_Sheet_form_by_inputs := fun_of F0_Sheet_form_by_inputs
  have D_Sheet_form_by_inputs : Dm K (He.ga K "Sheet") "form_by_inputs" "Sheet.form_by_inputs" s_Sheet_form_by_inputs ["self", "name"] := ⟨_, _, F_Sheet_form_by_inputs, He.meth_ok (c.fact 112 (f := .meth "Sheet" "form_by_inputs") rfl), F_Sheet_form_by_inputs.binds fun _ _ _ _ _ _ us hl => match us, hl with | [_, _], _ => rfl⟩
  obtain ⟨fd_Sheet_check_name, F0_Sheet_check_name⟩ := c.t.d.def_ 65 (d := dd_Sheet_check_name) rfl
  have F_Sheet_check_name : Fun K "check_name" "Sheet.check_name" s_Sheet_check_name (He.ma K (He.ga K "Sheet") "check_name") fd_Sheet_check_name := fun_of F0_Sheet_check_name
  have D_Sheet_check_name : Dm K (He.ga K "Sheet") "check_name" "Sheet.check_name" s_Sheet_check_name ["self", "name"] := ⟨_, _, F_Sheet_check_name, He.meth_ok (c.fact 113 (f := .meth "Sheet" "check_name") rfl), F_Sheet_check_name.binds fun _ _ _ _ _ _ us hl => match us, hl with | [_, _], _ => rfl⟩
  have eL := hfa.symm.trans g_law
  cases eL
  refine ⟨fd_law, fun s v => FunD.bindsA (ps := ["_law_script"]) F0_law (fun _ _ _ _ _ _ us hl => match us, hl with | [_], _ => rfl) s [v] rfl, fun base _ _ SR => ?_⟩
  have Tt : Ut4 K mg := ⟨n_str, n_set, n_sorted, w_FUNCTION_WORDS, w_ZERO, w_NAME_LETTERS⟩
  have Td := n_dict
  have Te := n_enumerate
  have Tu : Ut mg := ⟨n_divmod, n_str, by have z := w_GROUP_UNIT; rw [UNIT_GROUP_UNIT] at z; exact z, w_GROUP_DIGITS⟩
  have U : Ucs K mg := ⟨⟨_, w_FACTOR⟩, ⟨_, w_LIST⟩, ⟨_, w_OPERATOR⟩, ⟨_, w_OPPOSITE⟩, ⟨_, w_SIGNS⟩, w_FUNCTION_WORDS, w_LOWEST_RANK⟩
  have R : Rnk K w mg := rnk_mk w_RANKS lk_RANKS ek_RANKS lo_RANKS dk0_RANKS dk1_RANKS dk2_RANKS dk3_RANKS dk4_RANKS
  have So : SOc K (He.ga K "StepOrder") := ⟨c_StepOrder, na_StepOrder_steps, na_StepOrder_waiting, na_StepOrder_expected⟩
  have Ss : Shc K (He.ga K "Sheet") := ⟨c_Sheet, na_Sheet_rows, na_Sheet_forms, na_Sheet_by_inputs, na_Sheet_table⟩
  have E_InvalidNumber : ErrF l.prog w K mg base "InvalidNumber" "value" (He.ga K "InvalidNumber") := errF_of g_InvalidNumber k_InvalidNumber (ok_ei_InvalidNumber Fi_InvalidNumber k_InvalidNumber.ox k_InvalidNumber.no) (Fi_InvalidNumber.binds fun _ _ _ _ _ _ us hl => match us, hl with | [_, _], _ => rfl)
  have E_InvalidText : ErrF l.prog w K mg base "InvalidText" "text" (He.ga K "InvalidText") := errF_of g_InvalidText k_InvalidText (ok_ei_InvalidText Fi_InvalidText k_InvalidText.ox k_InvalidText.no) (Fi_InvalidText.binds fun _ _ _ _ _ _ us hl => match us, hl with | [_, _], _ => rfl)
  have E_FormulaSyntax : ErrF l.prog w K mg base "FormulaSyntax" "position" (He.ga K "FormulaSyntax") := errF_of g_FormulaSyntax k_FormulaSyntax (ok_ei_FormulaSyntax Fi_FormulaSyntax k_FormulaSyntax.ox k_FormulaSyntax.no) (Fi_FormulaSyntax.binds fun _ _ _ _ _ _ us hl => match us, hl with | [_, _], _ => rfl)
  have E_NotLinear : ErrF l.prog w K mg base "NotLinear" "position" (He.ga K "NotLinear") := errF_of g_NotLinear k_NotLinear (ok_ei_NotLinear Fi_NotLinear k_NotLinear.ox k_NotLinear.no) (Fi_NotLinear.binds fun _ _ _ _ _ _ us hl => match us, hl with | [_, _], _ => rfl)
  have E_ZeroDivisor : ErrF l.prog w K mg base "ZeroDivisor" "position" (He.ga K "ZeroDivisor") := errF_of g_ZeroDivisor k_ZeroDivisor (ok_ei_ZeroDivisor Fi_ZeroDivisor k_ZeroDivisor.ox k_ZeroDivisor.no) (Fi_ZeroDivisor.binds fun _ _ _ _ _ _ us hl => match us, hl with | [_, _], _ => rfl)
  have E_UnknownCell : ErrF l.prog w K mg base "UnknownCell" "name" (He.ga K "UnknownCell") := errF_of g_UnknownCell k_UnknownCell (ok_ei_UnknownCell Fi_UnknownCell k_UnknownCell.ox k_UnknownCell.no) (Fi_UnknownCell.binds fun _ _ _ _ _ _ us hl => match us, hl with | [_, _], _ => rfl)
  have E_CircularCell : ErrF l.prog w K mg base "CircularCell" "name" (He.ga K "CircularCell") := errF_of g_CircularCell k_CircularCell (ok_ei_CircularCell Fi_CircularCell k_CircularCell.ox k_CircularCell.no) (Fi_CircularCell.binds fun _ _ _ _ _ _ us hl => match us, hl with | [_, _], _ => rfl)
  -- draws
  have K_mixed := ok_mixed (P := l.prog) (w := w) (base := base) D_l_mixed
  have K_take := ok_take T K_mixed D_l_take
  have K_box := ok_box (P := l.prog) (w := w) (base := base) D_l_box
  -- numbers
  have K_whole := ok_is_whole (P := l.prog) (w := w) (base := base) T D_is_whole
  have K_isr := ok_is_ratio T Tg K_whole D_is_ratio
  have K_isn := ok_is_number K_whole K_isr D_is_number
  have K_as := ok_as_ratio T E_InvalidNumber K_whole K_isr D_as_ratio
  have K_ratio := ok_ratio (P := l.prog) (w := w) (base := base) SR T Tg Z_ZeroBottom D_ratio
  have K_addr := ok_add_ratios K_ratio D_add_ratios
  have K_mulr := ok_multiply_ratios K_ratio D_multiply_ratios
  have K_div := ok_divide K_as K_ratio D_divide
  have K_ared := ok_are_digits (P := l.prog) (w := w) (base := base) D_are_digits
  have K_readd := ok_read_digits (P := l.prog) (w := w) (base := base) T Tu D_read_digits
  have K_read := ok_read_ratio T E_InvalidText K_ared K_readd K_ratio D_read_ratio
  -- forms
  have K_isname := ok_is_name (P := l.prog) (w := w) (base := base) T Tt D_is_name
  have K_const := ok_constant_form K_as D_constant_form
  have K_cell := ok_cell_form (P := l.prog) (w := w) (base := base) Tt w_ONE D_cell_form
  have K_add := ok_add_forms T Tt Td K_addr D_add_forms
  have K_scale := ok_scale_form T Tt K_as K_const K_mulr D_scale_form
  have K_sub := ok_subtract_forms K_add K_scale D_subtract_forms
  have K_prod := ok_product_form E_NotLinear K_scale D_product_form
  have K_quot := ok_quotient_form Tt E_NotLinear E_ZeroDivisor K_div K_scale D_quotient_form
  have K_total := ok_total_form Tt K_add K_const D_total_form
  have K_valat := ok_value_at T Td E_UnknownCell K_addr K_mulr K_as D_value_at
  have K_namesin := ok_names_in (P := l.prog) (w := w) (base := base) T D_names_in
  have K_repl := ok_replaced_form K_add K_scale K_const D_replaced_form
  -- the reader
  have K_run := ok_run_end (P := l.prog) (w := w) (base := base) T D_run_end
  have K_numend := ok_number_end w_DIGITS K_run D_number_end
  obtain ⟨tnl, w_nl⟩ := w_NAME_LETTERS
  have K_tokend := ok_token_end w_SIGNS w_LETTERS w_nl K_run K_numend D_token_end
  have K_tokens := ok_tokens_of T E_FormulaSyntax K_tokend D_tokens_of
  have K_rel := ok_release (P := l.prog) (w := w) (base := base) T So R D_StepOrder_release
  have K_so := ok_initSO (P := l.prog) (w := w) (base := base) So U D_StepOrder_init
  have K_tl := ok_take_list So U E_FormulaSyntax D_StepOrder_take_list
  have K_tf := ok_take_factor T So U E_FormulaSyntax D_StepOrder_take_factor
  have K_te := ok_take_end T So U E_FormulaSyntax K_rel D_StepOrder_take_end
  have K_tk := ok_take_so T So U R K_rel K_tf K_tl K_te D_StepOrder_take
  have K_fin := ok_finish T So U E_FormulaSyntax K_rel D_StepOrder_finish
  have K_perf := ok_performed T U ⟨_, w_DIGITS⟩ K_scale K_sub K_prod K_quot K_total K_div K_const K_read K_cell D_performed
  have K_res := ok_result_of T K_perf D_result_of
  have K_parse := ok_parse_formula T So g_StepOrder K_so K_tokens K_tk K_fin K_res D_parse_formula
  -- the sheet
  have K_row := ok_is_row T Tt K_isn D_is_row
  have K_form := ok_formula_form K_parse D_formula_form
  have K_rows := ok_read_rows T Te K_row K_isname K_cell K_as K_form D_read_rows
  have K_unk := ok_check_unknown E_UnknownCell K_namesin D_check_unknown
  have K_reach := ok_reached_names T K_namesin D_reached_names
  have K_circ := ok_check_circles E_CircularCell K_reach D_check_circles
  have K_byin := ok_forms_by_inputs T K_namesin K_repl D_forms_by_inputs
  have K_compn := ok_computed_names (P := l.prog) (w := w) (base := base) T Ss D_Sheet_computed_names
  have K_celln := ok_cell_names (P := l.prog) (w := w) (base := base) T Ss D_Sheet_cell_names
  have K_checkn := ok_check_name Ss E_UnknownCell D_Sheet_check_name
  have K_fbi := ok_form_by_inputs Ss K_checkn D_Sheet_form_by_inputs
  have K_filled := ok_filled_table T Ss K_celln K_fbi K_valat D_filled_table
  obtain ⟨f_i, fd_i, dv_i, F_i, b_i, M_i⟩ := D_Sheet_init
  have I_good := ok_init_good T Ss K_rows K_compn K_unk K_circ K_byin K_filled F_i
  have I_circ := ok_init_circ T Ss K_rows K_compn K_unk K_circ K_byin K_filled F_i
  -- the law
  have K_lnames := ok_names T K_take D_l_names
  have K_shufV := ok_shuffledV T K_take D_l_shuffled
  have K_rowsof := ok_rows_of T n_enumerate K_take D_l_rows_of
  have K_round := ok_round T Ss g_Sheet E_CircularCell g_SheetError k_CircularCell.ex.kS ⟨_, _, FnOk.either (FnOk.up I_good) I_circ, M_i, b_i⟩ D_l_round
  have K_len := ok_len (P := l.prog) (w := w) (base := base) T Ss D_Sheet_len
  exact FnOk.free (ok_law T n_min Ss g_Sheet K_box K_lnames K_take K_rowsof K_shufV K_round ⟨_, _, I_good, M_i, b_i⟩ K_len F_law)

end Bs
open PySem PySem.W PyProof.Rows
set_option maxRecDepth 100000 in
set_option maxHeartbeats 0 in
theorem PySem.Challenge.cw_backsheet_k16_circles_holds : PySem.Challenge.rw_backsheet_k16_circles.Holds := by
  w_on; o_law
  refine HandSHeadRun.head_imp (r := OpenLaw.row PySem.Challenge.rw_backsheet_k16_circles) (q := Bs.qView) (H := Bs.hkZ) (ob := Bs.obZ) (M := 20000) (loose := Bs.nmZ) (d := HandSHeadRun.topDef (OpenLaw.row PySem.Challenge.rw_backsheet_k16_circles).prog 83) (kwd := []) Bs.obZ_eq
    Bs.runZ (by kernel_rfl) (by kernel_rfl) (by kernel_rfl) (by rfl) (by first | assumption | decide +kernel) (by decide +kernel) ⟨rfl, rfl, rfl, rfl, rfl, by decide +kernel⟩ ?hw ?hc
  case hw => w_witness2
  case hc =>
    refine Bs.walkZ (l := PySem.Challenge.rw_backsheet_k16_circles) rfl (by kernel_rfl) rfl (by decide +kernel) ?F
    intro w mg fa h Y G hmg0
    obtain ⟨K, KX, c⟩ := Y
    have hmg : mg ("law" : PySem.Str) = some (.ref fa) := by
      have e : (HandSHeadRun.topDef (OpenLaw.row PySem.Challenge.rw_backsheet_k16_circles).prog 83).name = ("law" : PySem.Str) := by kernel_rfl
      rw [← e]
      exact hmg0
    obtain ⟨fd, hb, hF⟩ := Bs.all_mk (l := PySem.Challenge.rw_backsheet_k16_circles) (w := w) KX G hmg c
    exact ⟨K, fd, KX, hb, hF⟩
