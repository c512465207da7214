import PyProof.Rows.All
import Wide.All
import OpenK.AllK
import Wide.FinOn
import HandS.ForExc
import HandS.Wide
import HandS.IsInst
import HandS.ExcInit
import HandS.CallLocal
import HandS.IterVal
import HandS.Codes
import HandS.Flow
import HandS.Walk
import HandS.ForMost
import HandS.ExcField
import KE.KStateDown
import Lean
import HandS.Base
import HandS.Call
import HandS.Ends
import HandS.More
import HandS.Words
import HandS.WordsExc
import HandS.Defaults
import HandS.Head0
import HandS.Head1
import HandS.Head2
import HandS.HeadEnd
import HandS.HeadHook1
import HandS.HeadHook2
import HandS.HeadHook3
import HandS.HeadHook4
import PyProof.ReprNest
import PyProof.FString
import PyProof.FString4
import HandS.FStrTup
import KE.KExcSuper
import KE.KExcIs
import HandS.ExcValue
import HandS.FStr
import KE.GoesMore
import HandS.Dict
import HandS.Sort
import KE.KDictList
import HandS.SetKeys
import HandS.NoneIn
import HandS.ForDict
import HandS.ExcOwn
import HandS.Conv
import HandS.Iter
import HandS.DictComp
import HandS.Deep
import PySem.Challenge.RW_movedrun_k05_heads_looked_at
set_option Elab.async false
set_option linter.all false
set_option maxRecDepth 100000
set_option maxHeartbeats 16000000
namespace T
open PySem L2
def top (i : Nat) : Stmt := PySem.Challenge.pw_movedrun_k05_heads_looked_at.main.body.getD i (.Pass ⟨0, 0, 0, 0⟩)
abbrev s_NotLetBy_init : Stmt := inClass (top 3) 0
abbrev s_class_of : Stmt := top 6
theorem sc_class_of : FnScope ["kind"] ["kind"] (defScope s_class_of) := ⟨rfl, rfl, rfl, by decide +kernel, rfl, by decide +kernel, by decide +kernel⟩
abbrev s_entry_of : Stmt := top 7
theorem sc_entry_of : FnScope ["kind"] ["kind"] (defScope s_entry_of) := ⟨rfl, rfl, rfl, by decide +kernel, rfl, by decide +kernel, by decide +kernel⟩
abbrev s_is_reference : Stmt := top 8
theorem sc_is_reference : FnScope ["kind"] ["kind"] (defScope s_is_reference) := ⟨rfl, rfl, rfl, by decide +kernel, rfl, by decide +kernel, by decide +kernel⟩
abbrev s_Family_init : Stmt := inClass (top 9) 0
theorem sc_Family_init : FnScope ["self", "classes", "each"] ["self", "classes"] (defScope s_Family_init) := ⟨rfl, rfl, rfl, by decide +kernel, rfl, by decide +kernel, by decide +kernel⟩
abbrev s_Family_has : Stmt := inClass (top 9) 1
theorem sc_Family_has : FnScope ["self", "name"] ["self", "name"] (defScope s_Family_has) := ⟨rfl, rfl, rfl, by decide +kernel, rfl, by decide +kernel, by decide +kernel⟩
abbrev s_Family_knows : Stmt := inClass (top 9) 2
theorem sc_Family_knows : FnScope ["self", "kind", "entry", "name"] ["self", "kind"] (defScope s_Family_knows) := ⟨rfl, rfl, rfl, by decide +kernel, rfl, by decide +kernel, by decide +kernel⟩
abbrev s_Family_line : Stmt := inClass (top 9) 3
theorem sc_Family_line : FnScope ["self", "name", "found"] ["self", "name"] (defScope s_Family_line) := ⟨rfl, rfl, rfl, by decide +kernel, rfl, by decide +kernel, by decide +kernel⟩
abbrev s_Family_is_below : Stmt := inClass (top 9) 4
theorem sc_Family_is_below : FnScope ["self", "name", "other", "each"] ["self", "name", "other"] (defScope s_Family_is_below) := ⟨rfl, rfl, rfl, by decide +kernel, rfl, by decide +kernel, by decide +kernel⟩
abbrev s_Family_field_kind : Stmt := inClass (top 9) 5
theorem sc_Family_field_kind : FnScope ["self", "name", "field", "each", "own", "kind"] ["self", "name", "field"] (defScope s_Family_field_kind) := ⟨rfl, rfl, rfl, by decide +kernel, rfl, by decide +kernel, by decide +kernel⟩
abbrev s_Family_method : Stmt := inClass (top 9) 6
theorem sc_Family_method : FnScope ["self", "name", "method", "each", "own"] ["self", "name", "method"] (defScope s_Family_method) := ⟨rfl, rfl, rfl, by decide +kernel, rfl, by decide +kernel, by decide +kernel⟩
abbrev s_Family_fits : Stmt := inClass (top 9) 7
theorem sc_Family_fits : FnScope ["self", "kind", "other"] ["self", "kind", "other"] (defScope s_Family_fits) := ⟨rfl, rfl, rfl, by decide +kernel, rfl, by decide +kernel, by decide +kernel⟩
abbrev s_Family_is_kind_below : Stmt := inClass (top 9) 8
theorem sc_Family_is_kind_below : FnScope ["self", "kind", "other", "name", "above"] ["self", "kind", "other"] (defScope s_Family_is_kind_below) := ⟨rfl, rfl, rfl, by decide +kernel, rfl, by decide +kernel, by decide +kernel⟩
abbrev s_Family_may_be_same : Stmt := inClass (top 9) 9
theorem sc_Family_may_be_same : FnScope ["self", "kind", "other"] ["self", "kind", "other"] (defScope s_Family_may_be_same) := ⟨rfl, rfl, rfl, by decide +kernel, rfl, by decide +kernel, by decide +kernel⟩
abbrev s_Family_may_be_of : Stmt := inClass (top 9) 10
theorem sc_Family_may_be_of : FnScope ["self", "kind", "name", "asked"] ["self", "kind", "name"] (defScope s_Family_may_be_of) := ⟨rfl, rfl, rfl, by decide +kernel, rfl, by decide +kernel, by decide +kernel⟩
abbrev s_BodyLook_init : Stmt := inClass (top 13) 0
theorem sc_BodyLook_init : FnScope ["self", "family", "functions", "owner", "function"] ["self", "family", "functions", "owner", "function"] (defScope s_BodyLook_init) := ⟨rfl, rfl, rfl, by decide +kernel, rfl, by decide +kernel, by decide +kernel⟩
abbrev s_BodyLook_refuse : Stmt := inClass (top 13) 1
theorem sc_BodyLook_refuse : FnScope ["self", "word", "at"] ["self", "word", "at"] (defScope s_BodyLook_refuse) := ⟨rfl, rfl, rfl, by decide +kernel, rfl, by decide +kernel, by decide +kernel⟩
abbrev s_BodyLook_begin : Stmt := inClass (top 13) 2
theorem sc_BodyLook_begin : FnScope ["self"] ["self"] (defScope s_BodyLook_begin) := ⟨rfl, rfl, rfl, by decide +kernel, rfl, by decide +kernel, by decide +kernel⟩
abbrev s_BodyLook_kind_in_reach : Stmt := inClass (top 13) 3
theorem sc_BodyLook_kind_in_reach : FnScope ["self", "name", "known", "kind"] ["self", "name"] (defScope s_BodyLook_kind_in_reach) := ⟨rfl, rfl, rfl, by decide +kernel, rfl, by decide +kernel, by decide +kernel⟩
abbrev s_look_at_body : Stmt := top 14
theorem sc_look_at_body : FnScope ["family", "functions", "owner", "function", "look"] ["family", "functions", "owner", "function"] (defScope s_look_at_body) := ⟨rfl, rfl, rfl, by decide +kernel, rfl, by decide +kernel, by decide +kernel⟩
abbrev s_is_ended : Stmt := top 15
theorem sc_is_ended : FnScope ["block", "statement"] ["block"] (defScope s_is_ended) := ⟨rfl, rfl, rfl, by decide +kernel, rfl, by decide +kernel, by decide +kernel⟩
abbrev s_ends_block : Stmt := top 16
theorem sc_ends_block : FnScope ["statement", "word"] ["statement"] (defScope s_ends_block) := ⟨rfl, rfl, rfl, by decide +kernel, rfl, by decide +kernel, by decide +kernel⟩
abbrev s_look_at_block : Stmt := top 17
theorem sc_look_at_block : FnScope ["look", "block", "ahead", "statement", "rule"] ["look", "block"] (defScope s_look_at_block) := ⟨rfl, rfl, rfl, by decide +kernel, rfl, by decide +kernel, by decide +kernel⟩
abbrev s_look_at_var : Stmt := top 18
theorem sc_look_at_var : FnScope ["look", "statement", "at", "_", "name", "kind", "value"] ["look", "statement", "at"] (defScope s_look_at_var) := ⟨rfl, rfl, rfl, by decide +kernel, rfl, by decide +kernel, by decide +kernel⟩
abbrev s_look_at_set : Stmt := top 19
theorem sc_look_at_set : FnScope ["look", "statement", "at", "kind"] ["look", "statement", "at"] (defScope s_look_at_set) := ⟨rfl, rfl, rfl, by decide +kernel, rfl, by decide +kernel, by decide +kernel⟩
abbrev s_look_at_put : Stmt := top 20
theorem sc_look_at_put : FnScope ["look", "statement", "at", "_", "thing", "field", "value", "kind"] ["look", "statement", "at"] (defScope s_look_at_put) := ⟨rfl, rfl, rfl, by decide +kernel, rfl, by decide +kernel, by decide +kernel⟩
abbrev s_look_at_place : Stmt := top 21
theorem sc_look_at_place : FnScope ["look", "statement", "at", "_", "row", "index", "value", "entry"] ["look", "statement", "at"] (defScope s_look_at_place) := ⟨rfl, rfl, rfl, by decide +kernel, rfl, by decide +kernel, by decide +kernel⟩
abbrev s_look_at_if : Stmt := top 22
theorem sc_look_at_if : FnScope ["look", "statement", "at", "_", "test", "first", "second"] ["look", "statement", "at"] (defScope s_look_at_if) := ⟨rfl, rfl, rfl, by decide +kernel, rfl, by decide +kernel, by decide +kernel⟩
abbrev s_look_at_while : Stmt := top 23
theorem sc_look_at_while : FnScope ["look", "statement", "at"] ["look", "statement", "at"] (defScope s_look_at_while) := ⟨rfl, rfl, rfl, by decide +kernel, rfl, by decide +kernel, by decide +kernel⟩
abbrev s_look_at_return : Stmt := top 24
theorem sc_look_at_return : FnScope ["look", "statement", "at", "value", "result"] ["look", "statement", "at"] (defScope s_look_at_return) := ⟨rfl, rfl, rfl, by decide +kernel, rfl, by decide +kernel, by decide +kernel⟩
abbrev s_look_at_throw : Stmt := top 25
theorem sc_look_at_throw : FnScope ["look", "statement", "at", "part", "kind"] ["look", "statement", "at"] (defScope s_look_at_throw) := ⟨rfl, rfl, rfl, by decide +kernel, rfl, by decide +kernel, by decide +kernel⟩
abbrev s_look_at_try : Stmt := top 26
theorem sc_look_at_try : FnScope ["look", "statement", "at", "_", "first", "name", "caught", "second"] ["look", "statement", "at"] (defScope s_look_at_try) := ⟨rfl, rfl, rfl, by decide +kernel, rfl, by decide +kernel, by decide +kernel⟩
abbrev s_look_at_show : Stmt := top 27
theorem sc_look_at_show : FnScope ["look", "statement", "at"] ["look", "statement", "at"] (defScope s_look_at_show) := ⟨rfl, rfl, rfl, by decide +kernel, rfl, by decide +kernel, by decide +kernel⟩
abbrev s_look_at_do : Stmt := top 28
theorem sc_look_at_do : FnScope ["look", "statement", "at"] ["look", "statement", "at"] (defScope s_look_at_do) := ⟨rfl, rfl, rfl, by decide +kernel, rfl, by decide +kernel, by decide +kernel⟩
abbrev s_kind_of : Stmt := top 29
theorem sc_kind_of : FnScope ["look", "expression", "at", "word", "rule"] ["look", "expression"] (defScope s_kind_of) := ⟨rfl, rfl, rfl, by decide +kernel, rfl, by decide +kernel, by decide +kernel⟩
abbrev s_look_for_fit : Stmt := top 30
theorem sc_look_for_fit : FnScope ["look", "part", "wanted", "at", "kind"] ["look", "part", "wanted"] (defScope s_look_for_fit) := ⟨rfl, rfl, rfl, by decide +kernel, rfl, by decide +kernel, by decide +kernel⟩
abbrev s_look_for_one_of : Stmt := top 31
theorem sc_look_for_one_of : FnScope ["look", "part", "kinds", "at", "kind"] ["look", "part", "kinds"] (defScope s_look_for_one_of) := ⟨rfl, rfl, rfl, by decide +kernel, rfl, by decide +kernel, by decide +kernel⟩
abbrev s_look_for_object : Stmt := top 32
theorem sc_look_for_object : FnScope ["look", "part", "at", "name"] ["look", "part"] (defScope s_look_for_object) := ⟨rfl, rfl, rfl, by decide +kernel, rfl, by decide +kernel, by decide +kernel⟩
abbrev s_look_for_row : Stmt := top 33
theorem sc_look_for_row : FnScope ["look", "part", "at", "entry"] ["look", "part"] (defScope s_look_for_row) := ⟨rfl, rfl, rfl, by decide +kernel, rfl, by decide +kernel, by decide +kernel⟩
abbrev s_kind_of_name : Stmt := top 34
theorem sc_kind_of_name : FnScope ["look", "expression", "at", "kind"] ["look", "expression", "at"] (defScope s_kind_of_name) := ⟨rfl, rfl, rfl, by decide +kernel, rfl, by decide +kernel, by decide +kernel⟩
abbrev s_kind_of_get : Stmt := top 35
theorem sc_kind_of_get : FnScope ["look", "expression", "at", "kind"] ["look", "expression", "at"] (defScope s_kind_of_get) := ⟨rfl, rfl, rfl, by decide +kernel, rfl, by decide +kernel, by decide +kernel⟩
abbrev s_kind_of_at : Stmt := top 36
theorem sc_kind_of_at : FnScope ["look", "expression", "at", "entry"] ["look", "expression", "at"] (defScope s_kind_of_at) := ⟨rfl, rfl, rfl, by decide +kernel, rfl, by decide +kernel, by decide +kernel⟩
abbrev s_kind_of_call : Stmt := top 37
theorem sc_kind_of_call : FnScope ["look", "expression", "at", "_", "name", "args"] ["look", "expression", "at"] (defScope s_kind_of_call) := ⟨rfl, rfl, rfl, by decide +kernel, rfl, by decide +kernel, by decide +kernel⟩
abbrev s_kind_of_ask : Stmt := top 38
theorem sc_kind_of_ask : FnScope ["look", "expression", "at", "_", "thing", "name", "args", "method"] ["look", "expression", "at"] (defScope s_kind_of_ask) := ⟨rfl, rfl, rfl, by decide +kernel, rfl, by decide +kernel, by decide +kernel⟩
abbrev s_kind_of_result : Stmt := top 39
theorem sc_kind_of_result : FnScope ["look", "function", "args", "at", "_", "params", "result", "part", "kind"] ["look", "function", "args", "at"] (defScope s_kind_of_result) := ⟨rfl, rfl, rfl, by decide +kernel, rfl, by decide +kernel, by decide +kernel⟩
abbrev s_kind_of_new : Stmt := top 40
theorem sc_kind_of_new : FnScope ["look", "expression", "at"] ["look", "expression", "at"] (defScope s_kind_of_new) := ⟨rfl, rfl, rfl, by decide +kernel, rfl, by decide +kernel, by decide +kernel⟩
abbrev s_kind_of_row : Stmt := top 41
theorem sc_kind_of_row : FnScope ["look", "expression", "at", "_", "kind", "number"] ["look", "expression", "at"] (defScope s_kind_of_row) := ⟨rfl, rfl, rfl, by decide +kernel, rfl, by decide +kernel, by decide +kernel⟩
abbrev s_kind_of_op : Stmt := top 42
theorem sc_kind_of_op : FnScope ["look", "expression", "at", "_", "sign", "first", "second", "sides"] ["look", "expression", "at"] (defScope s_kind_of_op) := ⟨rfl, rfl, rfl, by decide +kernel, rfl, by decide +kernel, by decide +kernel⟩
abbrev s_kind_of_sum : Stmt := top 43
theorem sc_kind_of_sum : FnScope ["look", "first", "second", "kind", "both"] ["look", "first", "second"] (defScope s_kind_of_sum) := ⟨rfl, rfl, rfl, by decide +kernel, rfl, by decide +kernel, by decide +kernel⟩
abbrev s_kind_of_same : Stmt := top 44
theorem sc_kind_of_same : FnScope ["look", "first", "second", "at", "kind"] ["look", "first", "second"] (defScope s_kind_of_same) := ⟨rfl, rfl, rfl, by decide +kernel, rfl, by decide +kernel, by decide +kernel⟩
abbrev s_kind_of_not : Stmt := top 45
theorem sc_kind_of_not : FnScope ["look", "expression", "at"] ["look", "expression", "at"] (defScope s_kind_of_not) := ⟨rfl, rfl, rfl, by decide +kernel, rfl, by decide +kernel, by decide +kernel⟩
abbrev s_kind_of_is : Stmt := top 46
theorem sc_kind_of_is : FnScope ["look", "expression", "at"] ["look", "expression", "at"] (defScope s_kind_of_is) := ⟨rfl, rfl, rfl, by decide +kernel, rfl, by decide +kernel, by decide +kernel⟩
abbrev s_kind_of_as : Stmt := top 47
theorem sc_kind_of_as : FnScope ["look", "expression", "at"] ["look", "expression", "at"] (defScope s_kind_of_as) := ⟨rfl, rfl, rfl, by decide +kernel, rfl, by decide +kernel, by decide +kernel⟩
abbrev s_look_for_line : Stmt := top 48
theorem sc_look_for_line : FnScope ["look", "expression", "at", "_", "thing", "name", "part"] ["look", "expression", "at"] (defScope s_look_for_line) := ⟨rfl, rfl, rfl, by decide +kernel, rfl, by decide +kernel, by decide +kernel⟩
abbrev s_kind_of_size : Stmt := top 49
theorem sc_kind_of_size : FnScope ["look", "expression", "at", "part", "kind"] ["look", "expression", "at"] (defScope s_kind_of_size) := ⟨rfl, rfl, rfl, by decide +kernel, rfl, by decide +kernel, by decide +kernel⟩
abbrev s_kind_of_sign : Stmt := top 50
theorem sc_kind_of_sign : FnScope ["look", "expression", "at"] ["look", "expression", "at"] (defScope s_kind_of_sign) := ⟨rfl, rfl, rfl, by decide +kernel, rfl, by decide +kernel, by decide +kernel⟩
abbrev s_kind_of_tell : Stmt := top 51
theorem sc_kind_of_tell : FnScope ["look", "expression", "at"] ["look", "expression", "at"] (defScope s_kind_of_tell) := ⟨rfl, rfl, rfl, by decide +kernel, rfl, by decide +kernel, by decide +kernel⟩
abbrev s_is_integer : Stmt := top 65
theorem sc_is_integer : FnScope ["thing"] ["thing"] (defScope s_is_integer) := ⟨rfl, rfl, rfl, by decide +kernel, rfl, by decide +kernel, by decide +kernel⟩
abbrev s_is_between : Stmt := top 66
theorem sc_is_between : FnScope ["thing", "least", "greatest"] ["thing", "least", "greatest"] (defScope s_is_between) := ⟨rfl, rfl, rfl, by decide +kernel, rfl, by decide +kernel, by decide +kernel⟩
abbrev s_is_tuple_to : Stmt := top 67
theorem sc_is_tuple_to : FnScope ["thing", "most"] ["thing", "most"] (defScope s_is_tuple_to) := ⟨rfl, rfl, rfl, by decide +kernel, rfl, by decide +kernel, by decide +kernel⟩
abbrev s_is_tuple_of : Stmt := top 68
theorem sc_is_tuple_of : FnScope ["thing", "many"] ["thing", "many"] (defScope s_is_tuple_of) := ⟨rfl, rfl, rfl, by decide +kernel, rfl, by decide +kernel, by decide +kernel⟩
abbrev s_is_name : Stmt := top 69
theorem sc_is_name : FnScope ["thing", "sign"] ["thing"] (defScope s_is_name) := ⟨rfl, rfl, rfl, by decide +kernel, rfl, by decide +kernel, by decide +kernel⟩
abbrev s_is_kind : Stmt := top 70
theorem sc_is_kind : FnScope ["thing", "rows"] ["thing", "rows"] (defScope s_is_kind) := ⟨rfl, rfl, rfl, by decide +kernel, rfl, by decide +kernel, by decide +kernel⟩
abbrev s_is_signs : Stmt := top 71
theorem sc_is_signs : FnScope ["thing", "sign", "code"] ["thing"] (defScope s_is_signs) := ⟨rfl, rfl, rfl, by decide +kernel, rfl, by decide +kernel, by decide +kernel⟩
abbrev s_is_short_text : Stmt := top 72
theorem sc_is_short_text : FnScope ["thing"] ["thing"] (defScope s_is_short_text) := ⟨rfl, rfl, rfl, by decide +kernel, rfl, by decide +kernel, by decide +kernel⟩
abbrev s_is_body : Stmt := top 81
theorem sc_is_body : FnScope ["thing", "params", "look"] ["thing", "params"] (defScope s_is_body) := ⟨rfl, rfl, rfl, by decide +kernel, rfl, by decide +kernel, by decide +kernel⟩
abbrev s_is_leaf : Stmt := top 82
theorem sc_is_leaf : FnScope ["sort", "thing"] ["sort", "thing"] (defScope s_is_leaf) := ⟨rfl, rfl, rfl, by decide +kernel, rfl, by decide +kernel, by decide +kernel⟩
abbrev s_BodyForm_init : Stmt := inClass (top 83) 0
theorem sc_BodyForm_init : FnScope ["self", "params"] ["self", "params"] (defScope s_BodyForm_init) := ⟨rfl, rfl, rfl, by decide +kernel, rfl, by decide +kernel, by decide +kernel⟩
abbrev s_BodyForm_is_block : Stmt := inClass (top 83) 1
theorem sc_BodyForm_is_block : FnScope ["self", "thing", "depth", "statement"] ["self", "thing", "depth"] (defScope s_BodyForm_is_block) := ⟨rfl, rfl, rfl, by decide +kernel, rfl, by decide +kernel, by decide +kernel⟩
abbrev s_BodyForm_is_statement : Stmt := inClass (top 83) 2
theorem sc_BodyForm_is_statement : FnScope ["self", "thing", "depth", "sorts"] ["self", "thing", "depth"] (defScope s_BodyForm_is_statement) := ⟨rfl, rfl, rfl, by decide +kernel, rfl, by decide +kernel, by decide +kernel⟩
abbrev s_BodyForm_is_expression : Stmt := inClass (top 83) 3
theorem sc_BodyForm_is_expression : FnScope ["self", "thing", "depth", "sorts"] ["self", "thing", "depth"] (defScope s_BodyForm_is_expression) := ⟨rfl, rfl, rfl, by decide +kernel, rfl, by decide +kernel, by decide +kernel⟩
abbrev s_BodyForm_may_begin : Stmt := inClass (top 83) 4
theorem sc_BodyForm_may_begin : FnScope ["self", "thing", "depth"] ["self", "thing", "depth"] (defScope s_BodyForm_may_begin) := ⟨rfl, rfl, rfl, by decide +kernel, rfl, by decide +kernel, by decide +kernel⟩
abbrev s_BodyForm_are_parts : Stmt := inClass (top 83) 5
theorem sc_BodyForm_are_parts : FnScope ["self", "sorts", "thing", "depth", "at", "sort"] ["self", "sorts", "thing", "depth"] (defScope s_BodyForm_are_parts) := ⟨rfl, rfl, rfl, by decide +kernel, rfl, by decide +kernel, by decide +kernel⟩
abbrev s_BodyForm_is_part : Stmt := inClass (top 83) 6
theorem sc_BodyForm_is_part : FnScope ["self", "sort", "thing", "depth"] ["self", "sort", "thing", "depth"] (defScope s_BodyForm_is_part) := ⟨rfl, rfl, rfl, by decide +kernel, rfl, by decide +kernel, by decide +kernel⟩
abbrev s_BodyForm_are_args : Stmt := inClass (top 83) 7
theorem sc_BodyForm_are_args : FnScope ["self", "thing", "depth", "part"] ["self", "thing", "depth"] (defScope s_BodyForm_are_args) := ⟨rfl, rfl, rfl, by decide +kernel, rfl, by decide +kernel, by decide +kernel⟩
abbrev s_is_program : Stmt := top 90
theorem sc_is_program : FnScope ["thing", "classes", "functions", "many", "each"] ["thing"] (defScope s_is_program) := ⟨rfl, rfl, rfl, by decide +kernel, rfl, by decide +kernel, by decide +kernel⟩
abbrev s_is_class : Stmt := top 91
theorem sc_is_class : FnScope ["thing", "name", "above", "fields", "methods"] ["thing"] (defScope s_is_class) := ⟨rfl, rfl, rfl, by decide +kernel, rfl, by decide +kernel, by decide +kernel⟩
abbrev s_are_functions : Stmt := top 92
theorem sc_are_functions : FnScope ["things", "thing"] ["things"] (defScope s_are_functions) := ⟨rfl, rfl, rfl, by decide +kernel, rfl, by decide +kernel, by decide +kernel⟩
abbrev s_is_function : Stmt := top 93
theorem sc_is_function : FnScope ["thing", "name", "params", "result", "body"] ["thing"] (defScope s_is_function) := ⟨rfl, rfl, rfl, by decide +kernel, rfl, by decide +kernel, by decide +kernel⟩
abbrev s_are_named_kinds : Stmt := top 94
theorem sc_are_named_kinds : FnScope ["thing", "most", "part"] ["thing", "most"] (defScope s_are_named_kinds) := ⟨rfl, rfl, rfl, by decide +kernel, rfl, by decide +kernel, by decide +kernel⟩
abbrev s_check : Stmt := top 96
theorem sc_check : FnScope ["program", "wrong"] ["program"] (defScope s_check) := ⟨rfl, rfl, rfl, by decide +kernel, rfl, by decide +kernel, by decide +kernel⟩
abbrev s_checked : Stmt := top 97
theorem sc_checked : FnScope ["program", "classes", "functions", "family", "each", "by_name", "function", "name", "_", "methods", "method"] ["program"] (defScope s_checked) := ⟨rfl, rfl, rfl, by decide +kernel, rfl, by decide +kernel, by decide +kernel⟩
abbrev s_look_at_classes : Stmt := top 98
theorem sc_look_at_classes : FnScope ["classes", "family", "ahead", "name", "above", "fields", "_"] ["classes", "family"] (defScope s_look_at_classes) := ⟨rfl, rfl, rfl, by decide +kernel, rfl, by decide +kernel, by decide +kernel⟩
abbrev s_look_at_fields : Stmt := top 99
theorem sc_look_at_fields : FnScope ["name", "above", "fields", "family", "ahead", "field", "kind"] ["name", "above", "fields", "family"] (defScope s_look_at_fields) := ⟨rfl, rfl, rfl, by decide +kernel, rfl, by decide +kernel, by decide +kernel⟩
abbrev s_look_at_methods : Stmt := top 100
theorem sc_look_at_methods : FnScope ["each", "family", "name", "above", "_", "methods", "ahead", "method"] ["each", "family"] (defScope s_look_at_methods) := ⟨rfl, rfl, rfl, by decide +kernel, rfl, by decide +kernel, by decide +kernel⟩
abbrev s_look_at_functions : Stmt := top 101
theorem sc_look_at_functions : FnScope ["functions", "family", "ahead", "function"] ["functions", "family"] (defScope s_look_at_functions) := ⟨rfl, rfl, rfl, by decide +kernel, rfl, by decide +kernel, by decide +kernel⟩
abbrev s_look_at_head : Stmt := top 102
theorem sc_look_at_head : FnScope ["family", "owner", "ahead", "function", "name", "params", "result", "_", "where", "told", "param", "kind"] ["family", "owner", "ahead", "function"] (defScope s_look_at_head) := ⟨rfl, rfl, rfl, by decide +kernel, rfl, by decide +kernel, by decide +kernel⟩
abbrev s_look_at_override : Stmt := top 103
theorem sc_look_at_override : FnScope ["family", "owner", "above", "method", "head", "each", "other"] ["family", "owner", "above", "method"] (defScope s_look_at_override) := ⟨rfl, rfl, rfl, by decide +kernel, rfl, by decide +kernel, by decide +kernel⟩
abbrev s_head_kinds : Stmt := top 104
theorem sc_head_kinds : FnScope ["function", "_", "kind"] ["function"] (defScope s_head_kinds) := ⟨rfl, rfl, rfl, by decide +kernel, rfl, by decide +kernel, by decide +kernel⟩
abbrev s_look_for_main : Stmt := top 105
theorem sc_look_for_main : FnScope ["functions", "name", "params", "result", "_"] ["functions"] (defScope s_look_for_main) := ⟨rfl, rfl, rfl, by decide +kernel, rfl, by decide +kernel, by decide +kernel⟩
abbrev s_law_feed : Stmt := top 107
theorem sc_law_feed : FnScope ["_law_script", "_law_k", "_law_cell"] ["_law_script", "_law_k"] (defScope s_law_feed) := ⟨rfl, rfl, rfl, by decide +kernel, rfl, by decide +kernel, by decide +kernel⟩
abbrev s_law_draw : Stmt := top 108
theorem sc_law_draw : FnScope ["_law_feed_here", "_law_many", "_law_rest", "_law_got", "_law_stir"] ["_law_feed_here", "_law_many"] (defScope s_law_draw) := ⟨rfl, rfl, rfl, by decide +kernel, rfl, by decide +kernel, by decide +kernel⟩
abbrev s_law_one : Stmt := top 109
theorem sc_law_one : FnScope ["_law_feed_here", "_law_things"] ["_law_feed_here", "_law_things"] (defScope s_law_one) := ⟨rfl, rfl, rfl, by decide +kernel, rfl, by decide +kernel, by decide +kernel⟩
abbrev s_law_words : Stmt := top 110
theorem sc_law_words : FnScope [] [] (defScope s_law_words) := ⟨rfl, rfl, rfl, by decide +kernel, rfl, by decide +kernel, by decide +kernel⟩
abbrev s_law_name : Stmt := top 111
theorem sc_law_name : FnScope ["_law_feed_here", "_law_letters", "_law_name_here", "_law_turn"] ["_law_feed_here"] (defScope s_law_name) := ⟨rfl, rfl, rfl, by decide +kernel, rfl, by decide +kernel, by decide +kernel⟩
abbrev s_law_kind : Stmt := top 112
theorem sc_law_kind : FnScope ["_law_feed_here", "_law_rows", "_law_kind_here", "_law_turn"] ["_law_feed_here", "_law_rows"] (defScope s_law_kind) := ⟨rfl, rfl, rfl, by decide +kernel, rfl, by decide +kernel, by decide +kernel⟩
abbrev s_law_signs : Stmt := top 113
theorem sc_law_signs : FnScope ["_law_feed_here", "_law_most", "_law_signs_here", "_law_text", "_law_turn"] ["_law_feed_here", "_law_most"] (defScope s_law_signs) := ⟨rfl, rfl, rfl, by decide +kernel, rfl, by decide +kernel, by decide +kernel⟩
abbrev s_law_alike : Stmt := top 114
theorem sc_law_alike : FnScope ["_law_found", "_law_due", "_law_left", "_law_one_here", "_law_other", "_law_k"] ["_law_found", "_law_due"] (defScope s_law_alike) := ⟨rfl, rfl, rfl, by decide +kernel, rfl, by decide +kernel, by decide +kernel⟩
abbrev s_law_told : Stmt := top 115
theorem sc_law_told : FnScope ["_law_program", "_law_by_name", "_law_found", "_law_refused", "e"] ["_law_program", "_law_by_name"] (defScope s_law_told) := ⟨rfl, rfl, rfl, by decide +kernel, rfl, by decide +kernel, by decide +kernel⟩
abbrev s_law_some : Stmt := top 116
theorem sc_law_some : FnScope ["_law_feed_here", "_law_pool", "_law_at", "_law_calm"] ["_law_feed_here", "_law_pool", "_law_at", "_law_calm"] (defScope s_law_some) := ⟨rfl, rfl, rfl, by decide +kernel, rfl, by decide +kernel, by decide +kernel⟩
abbrev s_law_kind_in : Stmt := top 117
theorem sc_law_kind_in : FnScope ["_law_feed_here", "_law_pool", "_law_calm", "_law_kind_here", "_law_turn"] ["_law_feed_here", "_law_pool", "_law_calm"] (defScope s_law_kind_in) := ⟨rfl, rfl, rfl, by decide +kernel, rfl, by decide +kernel, by decide +kernel⟩
abbrev s_law_pairs : Stmt := top 118
theorem sc_law_pairs : FnScope ["_law_feed_here", "_law_names", "_law_pool", "_law_many", "_law_calm", "_law_k"] ["_law_feed_here", "_law_names", "_law_pool", "_law_many", "_law_calm"] (defScope s_law_pairs) := ⟨rfl, rfl, rfl, by decide +kernel, rfl, by decide +kernel, by decide +kernel⟩
abbrev s_law_head : Stmt := top 119
theorem sc_law_head : FnScope ["_law_feed_here", "_law_name_here", "_law_pool", "_law_calm", "_law_params", "_law_result"] ["_law_feed_here", "_law_name_here", "_law_pool", "_law_calm"] (defScope s_law_head) := ⟨rfl, rfl, rfl, by decide +kernel, rfl, by decide +kernel, by decide +kernel⟩
abbrev s_law_heads : Stmt := top 120
theorem sc_law_heads : FnScope ["_law_feed_here", "_law_calm", "_law_many", "_law_chain", "_law_pool", "_law_turn", "_law_fields", "_law_methods", "_law_shared", "_law_name_here", "_law_classes", "_law_k", "_law_above_here", "_law_rows", "_law_own", "_law_functions", "_law_at", "_law_result", "_law_main"] ["_law_feed_here"] (defScope s_law_heads) := ⟨rfl, rfl, rfl, by decide +kernel, rfl, by decide +kernel, by decide +kernel⟩
abbrev s_law_above : Stmt := top 121
theorem sc_law_above : FnScope ["_law_classes", "_law_first", "_law_one_here", "_law_rows", "_law_name_here", "_law_turn", "_law_other", "_law_more", "_law_row"] ["_law_classes"] (defScope s_law_above) := ⟨rfl, rfl, rfl, by decide +kernel, rfl, by decide +kernel, by decide +kernel⟩
abbrev s_law_lacks : Stmt := top 122
theorem sc_law_lacks : FnScope ["_law_first", "_law_kind_here"] ["_law_first", "_law_kind_here"] (defScope s_law_lacks) := ⟨rfl, rfl, rfl, by decide +kernel, rfl, by decide +kernel, by decide +kernel⟩
abbrev s_law_wrong_classes : Stmt := top 123
theorem sc_law_wrong_classes : FnScope ["_law_classes", "_law_first", "_law_rows", "_law_found", "_law_i", "_law_name_here", "_law_above_here", "_law_fields", "_law_methods", "_law_where", "_law_one_here", "_law_j", "_law_taken", "_law_pair", "_law_other"] ["_law_classes", "_law_first", "_law_rows"] (defScope s_law_wrong_classes) := ⟨rfl, rfl, rfl, by decide +kernel, rfl, by decide +kernel, by decide +kernel⟩
abbrev s_law_wrong_heads : Stmt := top 124
theorem sc_law_wrong_heads : FnScope ["_law_program", "_law_first", "_law_rows", "_law_found", "_law_heads_here", "_law_one_here", "_law_method", "_law_i", "_law_owner", "_law_function", "_law_name_here", "_law_params", "_law_result", "_law_body", "_law_where", "_law_other", "_law_more", "_law_j", "_law_pair", "_law_kinds"] ["_law_program", "_law_first", "_law_rows"] (defScope s_law_wrong_heads) := ⟨rfl, rfl, rfl, by decide +kernel, rfl, by decide +kernel, by decide +kernel⟩
abbrev s_law : Stmt := top 125
theorem sc_law : FnScope ["_law_script", "_law_k", "_law_feed_here", "_law_program", "_law_first", "_law_rows", "_law_found", "_law_due", "_law_place", "_law_word", "_law_where", "_law_one_here", "_law_turn"] ["_law_script"] (defScope s_law) := ⟨rfl, rfl, rfl, by decide +kernel, rfl, by decide +kernel, by decide +kernel⟩
end T

/-! Programs as Lean data, as Python data, and where they stand in memory. -/
namespace PV
open PySem PySem.Spec PyProof.Rows L2
mutual
inductive Dv (H : Hp) : V → PyData → Prop
  | non : Dv H .non .none
  | bl (b : Bool) : Dv H (.bl b) (.bool b)
  | int (i : Int) : Dv H (.int i) (.int i)
  | str (z : Str) (hz : z.length ≤ 1000) : Dv H (.str z) (.str z)
  | tup {a : Addr} {xs : List V} {ds : List PyData} (h : H a = some (.tup xs)) (hl : xs.length ≤ 1000) (r : DvAll H xs ds) : Dv H (.ref a) (.tuple ds)
inductive DvAll (H : Hp) : List V → List PyData → Prop
  | nil : DvAll H [] []
  | cons {v : V} {vs : List V} {d : PyData} {ds : List PyData} (h : Dv H v d) (r : DvAll H vs ds) : DvAll H (v :: vs) (d :: ds)
end
mutual
theorem Dv.dp (K : PySem.W.Frag) {H : Hp} : ∀ {v : V} {d : PyData}, Dv H v d → Dp K H v d
  | _, _, .non => .non
  | _, _, .bl b => .bl b
  | _, _, .int i => .int i
  | _, _, .str z _ => .str z
  | _, _, .tup h _ r => .tup (SqT.of h) (DvAll.dp K r)
theorem DvAll.dp (K : PySem.W.Frag) {H : Hp} : ∀ {vs : List V} {ds : List PyData}, DvAll H vs ds → DpAll K H vs ds
  | _, _, .nil => .nil
  | _, _, .cons h r => .cons (Dv.dp K h) (DvAll.dp K r)
end
def TupSame (H H' : Hp) : Prop := ∀ a xs, H a = some (.tup xs) → H' a = some (.tup xs)
theorem TupSame.refl (H : Hp) : TupSame H H := fun _ _ e => e
theorem TupSame.trans {H H1 H2 : Hp} (a : TupSame H H1) (b : TupSame H1 H2) : TupSame H H2 := fun x xs e => b x xs (a x xs e)
theorem TupSame.of {H H' : Hp} (s : Same H H') : TupSame H H' := fun _ _ e => s _ _ e
mutual
theorem Dv.same {H H' : Hp} (s : TupSame H H') : ∀ {v : V} {d : PyData}, Dv H v d → Dv H' v d
  | _, _, .non => .non
  | _, _, .bl b => .bl b
  | _, _, .int i => .int i
  | _, _, .str z h => .str z h
  | _, _, .tup h hl r => .tup (s _ _ h) hl (DvAll.same s r)
theorem DvAll.same {H H' : Hp} (s : TupSame H H') : ∀ {vs : List V} {ds : List PyData}, DvAll H vs ds → DvAll H' vs ds
  | _, _, .nil => .nil
  | _, _, .cons h r => .cons (Dv.same s h) (DvAll.same s r)
end
theorem DvAll.len {H : Hp} : ∀ {vs : List V} {ds : List PyData}, DvAll H vs ds → vs.length = ds.length
  | _, _, .nil => rfl
  | _, _, .cons h r => congrArg (· + 1) r.len
theorem DvAll.get {H : Hp} : ∀ {vs : List V} {ds : List PyData} {i : Nat} {d : PyData}, DvAll H vs ds → ds[i]? = some d → ∃ v, vs[i]? = some v ∧ Dv H v d
  | _, _, _, _, .nil, e => by simp at e
  | _, _, 0, _, .cons h r, e => by
    simp at e
    rw [← e]
    exact ⟨_, rfl, h⟩
  | _, _, i + 1, _, .cons h r, e => by
    obtain ⟨v, e1, h1⟩ := r.get (i := i) (by simpa using e)
    exact ⟨v, by simpa using e1, h1⟩
/-- the words of a tuple -/
theorem Dv.tupE {H : Hp} {v : V} {ds : List PyData} (h : Dv H v (.tuple ds)) : ∃ a xs, v = .ref a ∧ H a = some (.tup xs) ∧ xs.length ≤ 1000 ∧ DvAll H xs ds := by
  cases h with
  | tup h hl r => exact ⟨_, _, rfl, h, hl, r⟩
theorem Dv.strE {H : Hp} {v : V} {z : Str} (h : Dv H v (.str z)) : v = .str z ∧ z.length ≤ 1000 := by
  cases h with
  | str _ hz => exact ⟨rfl, hz⟩
theorem DvAll.consE {H : Hp} {vs : List V} {d : PyData} {ds : List PyData} (h : DvAll H vs (d :: ds)) : ∃ u us, vs = u :: us ∧ Dv H u d ∧ DvAll H us ds := by
  cases h with
  | cons h r => exact ⟨_, _, rfl, h, r⟩
theorem DvAll.nilE {H : Hp} {vs : List V} (h : DvAll H vs []) : vs = [] := by cases h; rfl
/-! ### the language -/
inductive Kd where
  | int | truth | text | nil
  | of (n : Str)
  | row (k : Kd)
deriving DecidableEq
def Kd.py : Kd → PyData
  | .int => .str "int"
  | .truth => .str "truth"
  | .text => .str "text"
  | .nil => .str "nil"
  | .of n => .tuple [.str "of", .str n]
  | .row k => .tuple [.str "row", k.py]
mutual
inductive Ex where
  | int (i : Int) | truth (b : Bool) | text (s : Str) | nil | name (n : Str) | read
  | get (e : Ex) (f : Str) | at_ (e i : Ex) | call (n : Str) (as : Exs) | ask (e : Ex) (n : Str) (as : Exs)
  | new (n : Str) | row (k : Kd) (e : Ex) | op (s : Str) (a b : Ex) | not (e : Ex) | is_ (e : Ex) (n : Str) | as_ (e : Ex) (n : Str)
  | size (e : Ex) | sign (e i : Ex) | tell (e : Ex)
inductive Exs where
  | nil | cons (e : Ex) (r : Exs)
end
mutual
inductive St where
  | var (n : Str) (k : Kd) (e : Ex) | set (n : Str) (e : Ex) | put (t : Ex) (f : Str) (e : Ex) | place (t i e : Ex)
  | if_ (t : Ex) (a b : Sts) | while_ (t : Ex) (b : Sts) | ret (e : Ex) | ret0 | throw (e : Ex) | try_ (a : Sts) (n c : Str) (b : Sts) | show_ (e : Ex) | do_ (e : Ex)
inductive Sts where
  | nil | cons (s : St) (r : Sts)
end
mutual
def Ex.py : Ex → PyData
  | .int i => .tuple [.str "int", .int i]
  | .truth b => .tuple [.str "truth", .bool b]
  | .text s => .tuple [.str "text", .str s]
  | .nil => .tuple [.str "nil"]
  | .read => .tuple [.str "read"]
  | .name n => .tuple [.str "name", .str n]
  | .get e f => .tuple [.str "get", e.py, .str f]
  | .at_ e i => .tuple [.str "at", e.py, i.py]
  | .call n as => .tuple [.str "call", .str n, .tuple as.py]
  | .ask e n as => .tuple [.str "ask", e.py, .str n, .tuple as.py]
  | .new n => .tuple [.str "new", .str n]
  | .row k e => .tuple [.str "row", k.py, e.py]
  | .op s a b => .tuple [.str "op", .str s, a.py, b.py]
  | .not e => .tuple [.str "not", e.py]
  | .is_ e n => .tuple [.str "is", e.py, .str n]
  | .as_ e n => .tuple [.str "as", e.py, .str n]
  | .size e => .tuple [.str "size", e.py]
  | .sign e i => .tuple [.str "sign", e.py, i.py]
  | .tell e => .tuple [.str "tell", e.py]
def Exs.py : Exs → List PyData
  | .nil => []
  | .cons e r => e.py :: r.py
end
mutual
def St.py : St → PyData
  | .var n k e => .tuple [.str "var", .str n, k.py, e.py]
  | .set n e => .tuple [.str "set", .str n, e.py]
  | .put t f e => .tuple [.str "put", t.py, .str f, e.py]
  | .place t i e => .tuple [.str "place", t.py, i.py, e.py]
  | .if_ t a b => .tuple [.str "if", t.py, .tuple a.py, .tuple b.py]
  | .while_ t b => .tuple [.str "while", t.py, .tuple b.py]
  | .ret e => .tuple [.str "return", e.py]
  | .ret0 => .tuple [.str "return", .none]
  | .throw e => .tuple [.str "throw", e.py]
  | .try_ a n c b => .tuple [.str "try", .tuple a.py, .str n, .str c, .tuple b.py]
  | .show_ e => .tuple [.str "show", e.py]
  | .do_ e => .tuple [.str "do", e.py]
def Sts.py : Sts → List PyData
  | .nil => []
  | .cons s r => s.py :: r.py
end
structure Fn where
  name : Str
  params : List (Str × Kd)
  result : Option Kd
  body : Sts
structure Cl where
  name : Str
  above : Option Str
  fields : List (Str × Kd)
  methods : List Fn
def pair (p : Str × Kd) : PyData := .tuple [.str p.1, p.2.py]
def optS : Option Str → PyData
  | none => .none
  | some s => .str s
def optK : Option Kd → PyData
  | none => .none
  | some k => k.py
def Fn.py (f : Fn) : PyData := .tuple [.str f.name, .tuple (f.params.map pair), optK f.result, .tuple f.body.py]
def Cl.py (c : Cl) : PyData := .tuple [.str c.name, optS c.above, .tuple (c.fields.map pair), .tuple (c.methods.map Fn.py)]
def progPy (cs : List Cl) (fs : List Fn) : PyData := .tuple [.tuple (cs.map Cl.py), .tuple (fs.map Fn.py)]
end PV

namespace PF
open PySem PySem.Spec PyProof.Rows L2 PV T
/-- what the top binds for these -/
structure Bt (mg : Str → Option Value) : Prop where
  isi : mg "isinstance" = none
  str : mg "str" = none
  int : mg "int" = none
  bool : mg "bool" = none
  tuple : mg "tuple" = none
  len : mg "len" = none
theorem tupTy {K : PySem.W.Frag} {H : Hp} {a : Addr} {xs : List V} (h : H a = some (.tup xs)) : ∃ t : String, TyX K H (.ref a) (.type t) ∧ PySem.W.kitOne K (.type t) (.type "tuple") = some true ∧ PySem.W.kitOne K (.type t) (.type "str") = some false := ⟨"tuple", .base (.tup h), kit_ty (by decide +kernel), kit_ty (by decide +kernel)⟩
theorem strTy {K : PySem.W.Frag} {H : Hp} {z : Str} : ∃ t : String, TyX K H (.str z) (.type t) ∧ PySem.W.kitOne K (.type t) (.type "tuple") = some false ∧ PySem.W.kitOne K (.type t) (.type "str") = some true := ⟨"str", .base (.str z), kit_ty (by decide +kernel), kit_ty (by decide +kernel)⟩
section
variable {P : Program} {w : World} {K : PySem.W.Frag} {mg : Str → Option Value} {base : Heap}
/-- a tuple: has it so many items? -/
def spTof : Sp := fun vs H Q _ => ∃ (a : Addr) (xs : List V) (n : Int), vs = [.ref a, .int n] ∧ H a = some (.tup xs) ∧ Q (.bl (decide ((xs.length : Int) = n))) H
theorem ok_tof {f : Addr} {fd : FuncData} (F : Fun K "is_tuple_of" "is_tuple_of" s_is_tuple_of f fd) (b : Bt mg) : FnOk P w K mg base CX0 1 f fd ["thing", "many"] spTof := by
  refine F.ok sc_is_tuple_of (fun vs H Q E h => ?_) (fun cdv A outer s H vs Q E hr h => ?_)
  · obtain ⟨a, xs, n, rfl, _⟩ := h
    rfl
  · obtain ⟨a, xs, n, rfl, ha, q⟩ := h
    refine ⟨_, pss_one (ps_ret (pe_and (pe_callB call_isi (by rfl) b.isi (by decide +kernel) (pa_cons (pv 0) (pa_cons (pe_bltn (by rfl) b.tuple (v := .ty "tuple") (by decide +kernel) rfl) pa_nil)))
      (pe_one (pe_cmp (pc_eqI (pe_callB call_len_seq (by rfl) b.len PySem.boot_len (pa_cons (pv 0) pa_nil)) (pv 1)) rfl)))), ?_⟩
    obtain ⟨t, ty, k1, _⟩ := tupTy (K := K) ha
    refine ⟨_, rfl, _, _, _, _, _, rfl, .ty _, ty, k1, true, rfl, ?_⟩
    exact ⟨_, rfl, a, xs, rfl, .inr (SqT.of ha), _, rfl, _, _, rfl, rfl, q⟩
def spTto : Sp := fun vs H Q _ => ∃ (a : Addr) (xs : List V) (n : Int), vs = [.ref a, .int n] ∧ H a = some (.tup xs) ∧ Q (.bl (decide ((xs.length : Int) ≤ n))) H
theorem ok_tto {f : Addr} {fd : FuncData} (F : Fun K "is_tuple_to" "is_tuple_to" s_is_tuple_to f fd) (b : Bt mg) : FnOk P w K mg base CX0 1 f fd ["thing", "most"] spTto := by
  refine F.ok sc_is_tuple_to (fun vs H Q E h => ?_) (fun cdv A outer s H vs Q E hr h => ?_)
  · obtain ⟨a, xs, n, rfl, _⟩ := h
    rfl
  · obtain ⟨a, xs, n, rfl, ha, q⟩ := h
    refine ⟨_, pss_one (ps_ret (pe_and (pe_callB call_isi (by rfl) b.isi (by decide +kernel) (pa_cons (pv 0) (pa_cons (pe_bltn (by rfl) b.tuple (v := .ty "tuple") (by decide +kernel) rfl) pa_nil)))
      (pe_one (pe_cmp (pc_le (pe_callB call_len_seq (by rfl) b.len PySem.boot_len (pa_cons (pv 0) pa_nil)) (pv 1)) rfl)))), ?_⟩
    obtain ⟨t, ty, k1, _⟩ := tupTy (K := K) ha
    refine ⟨_, rfl, _, _, _, _, _, rfl, .ty _, ty, k1, true, rfl, ?_⟩
    exact ⟨_, rfl, a, xs, rfl, .inr (SqT.of ha), _, rfl, _, _, rfl, rfl, q⟩
end
end PF

namespace PF
open PySem PySem.Spec PyProof.Rows L2 PV T
def letters : Str := "abcdefghijklmnopqrstuvwxyzABCDEFGHIJKLMNOPQRSTUVWXYZ"
def digits : Str := "0123456789"
def words1 : List Str := ["above", "and", "as", "catch", "class", "def", "else", "false", "if", "int", "is", "new", "nil", "not", "or", "read"]
def words2 : List Str := ["rem", "return", "row", "self", "show", "sign", "size", "tell", "text", "throw", "true", "truth", "try", "var", "while"]
def words : List Str := words1 ++ words2
def signOk (c : Nat) : Bool := decide (c ∈ letters.cps.toList) || decide (c ∈ digits.cps.toList)
def nameB (z : Str) : Bool := decide (1 ≤ z.length) && (decide (z.length ≤ 8) && ((match z.cps.toList with
  | c :: _ => decide (c ∈ letters.cps.toList)
  | [] => false) && (!decide (z ∈ words) && z.cps.toList.all signOk)))
structure Nm (K : PySem.W.Frag) (mg : Str → Option Value) : Prop where
  b : Bt mg
  let_ : ∃ t, mg "LETTERS" = some (.str letters t)
  dig : ∃ t, mg "DIGITS" = some (.str digits t)
  most : ∃ t, mg "MOST_NAME_SIGNS" = some (.int 8 t)
  wrd : ∃ a, mg "WORDS" = some (.ref a) ∧ ∀ H, SqT K H a (words.map V.str)
theorem flatW (l : List Str) : (l.map V.str).all flatV = true := by
  rw [List.all_map, List.all_eq_true]
  intro x _
  rfl
theorem inW (z : Str) (l : List Str) : inV (.str z) (l.map V.str) = decide (z ∈ l) := by
  unfold inV
  rw [List.any_map]
  induction l with
  | nil => rfl
  | cons x r ih =>
    rw [List.any_cons, ih]
    have e : ((fun y => eqV y (V.str z)) ∘ V.str) x = decide (z = x) := by
      show eqV (.str x) (.str z) = _
      unfold eqV
      by_cases h : z = x
      · simp [h]
      · simp [h, Ne.symm h]
        first | exact fun e => h e.symm | skip
    rw [e]
    simp [List.mem_cons, Bool.decide_or]
section
variable {P : Program} {w : World} {K : PySem.W.Frag} {mg : Str → Option Value} {base : Heap}
def spName : Sp := fun vs H Q _ => ∃ z : Str, vs = [.str z] ∧ z.length ≤ 1000 ∧ Q (.bl (nameB z)) H
theorem ok_name {f : Addr} {fd : FuncData} (F : Fun K "is_name" "is_name" s_is_name f fd) (n : Nm K mg) : FnOk P w K mg base CX0 1 f fd ["thing"] spName := by
  refine F.ok sc_is_name (fun vs H Q E h => ?_) (fun cdv A outer s H vs Q E hr h => ?_)
  · obtain ⟨z, rfl, _⟩ := h
    rfl
  · obtain ⟨z, rfl, hz, q⟩ := h
    have b := n.b
    obtain ⟨tl, ml⟩ := n.let_
    obtain ⟨td, md⟩ := n.dig
    obtain ⟨tm, mm⟩ := n.most
    obtain ⟨aw, mw, hw⟩ := n.wrd
    refine ⟨_, pss_cons (ps_if (PW.pt (pw_or (pt_not (pt_val (pe_callB call_isi (by rfl) b.isi (by decide +kernel) (pa_cons (pv 0) (pa_cons (pe_bltn (by rfl) b.str (v := .ty "str") (by decide +kernel) rfl) pa_nil)))))
        (pw_or1 (pt_not (pt_chain op_le op_le pe_int (pe_callB call_len_str (by rfl) b.len PySem.boot_len (pa_cons (pv 0) pa_nil)) (pe_glob (v := .int 8) (by rfl) mm ⟨_, rfl⟩))))))
        (pss_one (ps_ret pe_bl)) pss_nil)
      (pss_cons (ps_if (PW.pt (pw_or (pt_cmpR op_notIn_sign (pe_ix ix_str (pv 0) pe_int (fun _ _ => rfl)) (pe_glob (v := .str letters) (by rfl) ml ⟨_, rfl⟩) (by rfl))
          (pw_or1 (pt_cmpR op_in_seq (pv 0) (pe_glob (v := .ref aw) (by rfl) mw rfl) (by rfl)))))
        (pss_one (ps_ret pe_bl)) pss_nil)
      (pss_cons (ps_for PassesOwn.never rfl (pi_str (pv 0)) (pg_name (i := 1) sc_is_name.nd rfl (Or.inl rfl))
        (pss_one (ps_if (PW.pt (pw_and (pt_cmpR op_notIn_sign (pv 1) (pe_glob (v := .str letters) (by rfl) ml ⟨_, rfl⟩) (by rfl)) (pw_and1 (pt_cmpR op_notIn_sign (pv 1) (pe_glob (v := .str digits) (by rfl) md ⟨_, rfl⟩) (by rfl)))))
          (pss_one (ps_ret pe_bl)) pss_nil)))
      (pss_one (ps_ret pe_bl)))), ?_⟩
    obtain ⟨t, ty, _, k2⟩ := strTy (K := K) (H := H) (z := z)
    have hs : z.length ≤ sizeLine := Nat.le_trans hz (by decide)
    refine ⟨_, rfl, _, _, _, _, _, rfl, .ty _, ty, k2, true, rfl, ?_⟩
    refine iteF ?_
    refine ⟨_, rfl, z, rfl, hs, ?_⟩
    refine ⟨_, _, rfl, rfl, _, rfl, ?_⟩
    have fin : nameB z = false → Q (.bl false) H := fun e => by rw [← e]; exact q
    refine ite2 (fun e1 => ?_) (fun e1 => ?_)
    · have h1 : (1 : Int) ≤ (z.length : Int) := of_decide_eq_true e1
      refine ⟨_, _, rfl, rfl, _, rfl, ?_⟩
      refine ite2 (fun e2 => ?_) (fun e2 => ?_)
      · exact fin (by
          unfold nameB
          have h2 : ¬ z.length ≤ 8 := fun h => by
            have : (z.length : Int) ≤ 8 := by omega
            simp [this] at e2
          simp [h2])
      · have h2 : (z.length : Int) ≤ 8 := by
          cases hd : decide ((z.length : Int) ≤ 8) with
          | true => exact of_decide_eq_true hd
          | false => rw [hd] at e2; simp at e2
        have hz0 : z.cps.toList ≠ [] := fun e => by
          have e3 : z.cps.toList.length = 0 := by rw [e]; rfl
          have e4 : z.length = 0 := by
            unfold Str.length
            simpa using e3
          omega
        obtain ⟨c, r, hc⟩ : ∃ c r, z.cps.toList = c :: r := by
          cases e : z.cps.toList with
          | nil => exact absurd e hz0
          | cons c r => exact ⟨c, r, rfl⟩
        have n1 : decide (1 ≤ z.length) = true := decide_eq_true (by omega)
        have n2 : decide (z.length ≤ 8) = true := decide_eq_true (by omega)
        have eN : nameB z = (decide (c ∈ letters.cps.toList) && (!decide (z ∈ words) && z.cps.toList.all signOk)) := by
          unfold nameB
          rw [n1, n2, hc]
          rfl
        refine ⟨_, rfl, z, 0, c, rfl, rfl, hs, (by rw [hc]; exact atI_nat (xs := c :: r) (j := 0) rfl), c, letters, rfl, rfl, _, rfl, ?_⟩
        refine ite2 (fun e3 => ?_) (fun e3 => ?_)
        · exact fin (by rw [eN]; simp at e3; simp [e3])
        have m1 : decide (c ∈ letters.cps.toList) = true := by simpa using e3
        refine ⟨_, rfl, aw, _, rfl, .inr (hw _), rfl, flatW _, _, rfl, ?_⟩
        refine ite2 (fun e4 => ?_) (fun e4 => ?_)
        · exact fin (by
            have e5 : inV (V.str z) (words.map V.str) = true := e4
            rw [inW] at e5
            rw [eN, e5]
            simp)
        have m2 : decide (z ∈ words) = false := by
          have e5 : ¬ inV (V.str z) (words.map V.str) = true := fun h => by rw [show (if false = true then !inV (V.str z) (words.map V.str) else inV (V.str z) (words.map V.str)) = inV (V.str z) (words.map V.str) from rfl, h] at e4; exact e4 rfl
          rw [inW] at e5
          simpa using e5
        rw [m1, m2] at eN
        have eN2 : nameB z = z.cps.toList.all signOk := eN
        refine ⟨_, rfl, z, rfl, ?_⟩
        refine for_it walk_str (fun i σ H' => H' = H ∧ σ.length = 2 ∧ σ[0]? = some (some (.str z)) ∧ (z.cps.toList.take i).all signOk = true) ⟨rfl, rfl, rfl, rfl⟩ (fun _ _ _ _ _ => trivial) ?_ ?_
        · rintro i x σ H1 H2 hi ⟨rfl, hl, h0, ha⟩ ⟨rfl, c', hc', rfl⟩
          obtain ⟨s0, s1, rfl⟩ : ∃ a b, σ = [a, b] := by
            match σ, hl with
            | [a, b], _ => exact ⟨a, b, rfl⟩
          have hi2 : i < z.cps.toList.length := by simpa using hi
          have hct : z.cps.toList[i]? = some c' := by rw [← hc']; simp
          have step : ∀ b, signOk c' = b → (z.cps.toList.take (i + 1)).all signOk = b := fun b hb => by
            rw [List.take_add_one, List.all_append, ha, hct]
            simp [hb]
          have bad : signOk c' = false → nameB z = false := fun hb => by
            rw [eN2]
            cases e6 : z.cps.toList.all signOk with
            | false => rfl
            | true =>
              rw [List.all_eq_true] at e6
              have := e6 c' (List.mem_of_getElem? hct)
              rw [hb] at this
              cases this
          have s0e : s0 = some (.str z) := Option.some.inj h0
          refine ⟨_, rfl, c', letters, rfl, rfl, _, rfl, ?_⟩
          refine ite2 (fun e6 => ?_) (fun e6 => ?_)
          · refine ⟨_, rfl, c', digits, rfl, rfl, _, rfl, ?_⟩
            refine ite2 (fun e7 => ?_) (fun e7 => ?_)
            · exact fin (bad (by unfold signOk; simp at e6 e7; simp [e6, e7]))
            · exact ⟨rfl, rfl, s0e ▸ rfl, step true (by unfold signOk; simp at e7; simp [e7])⟩
          · exact ⟨rfl, rfl, s0e ▸ rfl, step true (by unfold signOk; simp at e6; simp [e6])⟩
        · rintro σ H1 ⟨rfl, hl, h0, ha⟩
          have e7 : nameB z = true := by
            rw [eN2, ← ha]
            rw [List.take_of_length_le (by simp)]
          show Q (.bl true) _
          rw [← e7]
          exact q
    · have h1 : ¬ 1 ≤ z.length := fun h => by
        have : (1 : Int) ≤ (z.length : Int) := by omega
        simp [this] at e1
      refine ⟨_, rfl, iteT ?_⟩
      exact fin (by unfold nameB; simp [h1])
end
end PF

namespace PF
open PySem PySem.Spec PyProof.Rows L2 PV T
/-- a def of the top: its object, its name's value, how it is called -/
structure Gd (K : PySem.W.Frag) (mg : Str → Option Value) (x : Str) (st : Stmt) (ps : List Str) (f : Addr) (fd : FuncData) : Prop where
  F : Fun K x x st f fd
  g : mg x = some (.ref f)
  b : Binds K fd ps []
def plainK : List Str := ["int", "truth", "text"]
def kindOk : Kd → Nat → Bool
  | .int, _ => true
  | .truth, _ => true
  | .text, _ => true
  | .nil, _ => false
  | .of n, _ => nameB n && decide (n.length ≤ 1000)
  | .row k, 0 => false
  | .row k, r + 1 => kindOk k r
structure KdT (K : PySem.W.Frag) (mg : Str → Option Value) (fT fN fK : Addr) (dT dN dK : FuncData) : Prop where
  nm : Nm K mg
  pl : ∃ a, mg "PLAIN_KINDS" = some (.ref a) ∧ ∀ H, SqT K H a (plainK.map V.str)
  tof : Gd K mg "is_tuple_of" s_is_tuple_of ["thing", "many"] fT dT
  name : Gd K mg "is_name" s_is_name ["thing"] fN dN
  kind : Gd K mg "is_kind" s_is_kind ["thing", "rows"] fK dK
section
variable {P : Program} {w : World} {K : PySem.W.Frag} {mg : Str → Option Value} {base : Heap} {fT fN fK : Addr} {dT dN dK : FuncData}
def spKind (n : Nat) : Sp := fun vs H Q _ => ∃ (v : V) (k : Kd) (r : Nat), vs = [v, .int r] ∧ r < n ∧ Dv H v k.py ∧ kindOk k r = true ∧ Q (.bl true) H
theorem ok_kind (T0 : KdT K mg fT fN fK dT dN dK) : ∀ n : Nat, FnOk P w K mg base CX0 (n + 2) fK dK ["thing", "rows"] (spKind n) := by
  intro n
  induction n with
  | zero =>
    refine T0.kind.F.ok sc_is_kind (fun vs H Q E h => ?_) (fun cdv A outer s H vs Q E hr h => ?_)
    · obtain ⟨v, k, r, rfl, _⟩ := h
      rfl
    · obtain ⟨v, k, r, rfl, hr, _⟩ := h
      omega
  | succ n ih =>
    have b := T0.nm.b
    obtain ⟨ap, mp, hp⟩ := T0.pl
    have GT : FnOk P w K mg base CX0 1 fT dT ["thing", "many"] spTof := ok_tof T0.tof.F b
    have GN : FnOk P w K mg base CX0 1 fN dN ["thing"] spName := ok_name T0.name.F T0.nm
    refine T0.kind.F.ok sc_is_kind (fun vs H Q E h => ?_) (fun cdv A outer s H vs Q E hr h => ?_)
    · obtain ⟨v, k, r, rfl, _⟩ := h
      rfl
    obtain ⟨v, k, r, rfl, hrn, hv, hk, q⟩ := h
    refine ⟨_, pss_cons (ps_if (pt_val (pe_callB call_isi (by rfl) b.isi (by decide +kernel) (pa_cons (pv 0) (pa_cons (pe_bltn (by rfl) b.str (v := .ty "str") (by decide +kernel) rfl) pa_nil))))
        (pss_one (ps_ret (pe_cmpR op_in_seq (pv 0) (pe_glob (v := .ref ap) (by rfl) mp rfl) (by rfl)))) pss_nil)
      (pss_cons (ps_if (pt_not (pt_val (pe_call GT (hr.mono (by omega)) (by rfl) T0.tof.g T0.tof.F.kp T0.tof.b .nil pass0 (pa_cons (pv 0) (pa_cons pe_int pa_nil))))) (pss_one (ps_ret pe_bl)) pss_nil)
      (pss_cons (ps_if (pt_cmpR op_eq (pe_ix ix_tup (pv 0) pe_int (fun _ _ => rfl)) pe_str (nomark _))
        (pss_one (ps_ret (pe_and (pe_cmp (pc_gt (pv 1) pe_int) rfl) (pe_one (pe_call ih hr (by rfl) T0.kind.g T0.kind.F.kp T0.kind.b .nil pass0 (pa_cons (pe_ix ix_tup (pv 0) pe_int (fun _ _ => rfl)) (pa_cons (pe_op op_sub (pv 1) pe_int) pa_nil))))))) pss_nil)
      (pss_one (ps_ret (pe_and (pe_cmpR op_eq (pe_ix ix_tup (pv 0) pe_int (fun _ _ => rfl)) pe_str (nomark _)) (pe_one (pe_call GN (hr.mono (by omega)) (by rfl) T0.name.g T0.name.F.kp T0.name.b .nil pass0 (pa_cons (pe_ix ix_tup (pv 0) pe_int (fun _ _ => rfl)) pa_nil)))))))), ?_⟩
    have two : ∀ (a : Addr) (xs : List V), H a = some (.tup xs) → ∃ t : String, TyX K H (.ref a) (.type t) ∧ PySem.W.kitOne K (.type t) (.type "tuple") = some true ∧ PySem.W.kitOne K (.type t) (.type "str") = some false := fun a xs h => tupTy h
    cases k with
    | nil => cases hk
    | int =>
      obtain ⟨rfl, _⟩ := hv.strE
      obtain ⟨t, ty, _, k2⟩ := strTy (K := K) (H := H) (z := "int")
      refine ⟨_, rfl, _, _, _, _, _, rfl, .ty _, ty, k2, true, rfl, iteT ?_⟩
      refine ⟨_, rfl, ap, _, rfl, .inr (hp _), rfl, flatW _, ?_⟩
      show Q (.bl (inV (V.str "int") (plainK.map V.str))) H
      rw [inW, show decide (("int" : Str) ∈ plainK) = true by decide +kernel]
      exact q
    | truth =>
      obtain ⟨rfl, _⟩ := hv.strE
      obtain ⟨t, ty, _, k2⟩ := strTy (K := K) (H := H) (z := "truth")
      refine ⟨_, rfl, _, _, _, _, _, rfl, .ty _, ty, k2, true, rfl, iteT ?_⟩
      refine ⟨_, rfl, ap, _, rfl, .inr (hp _), rfl, flatW _, ?_⟩
      show Q (.bl (inV (V.str "truth") (plainK.map V.str))) H
      rw [inW, show decide (("truth" : Str) ∈ plainK) = true by decide +kernel]
      exact q
    | text =>
      obtain ⟨rfl, _⟩ := hv.strE
      obtain ⟨t, ty, _, k2⟩ := strTy (K := K) (H := H) (z := "text")
      refine ⟨_, rfl, _, _, _, _, _, rfl, .ty _, ty, k2, true, rfl, iteT ?_⟩
      refine ⟨_, rfl, ap, _, rfl, .inr (hp _), rfl, flatW _, ?_⟩
      show Q (.bl (inV (V.str "text") (plainK.map V.str))) H
      rw [inW, show decide (("text" : Str) ∈ plainK) = true by decide +kernel]
      exact q
    | of z =>
      obtain ⟨a, xs, rfl, ha, _, r1⟩ := hv.tupE
      obtain ⟨u0, us, rfl, h0, r2⟩ := r1.consE
      obtain ⟨u1, us, rfl, h1, r3⟩ := r2.consE
      obtain rfl := r3.nilE
      obtain ⟨rfl, _⟩ := h0.strE
      obtain ⟨rfl, hz⟩ := h1.strE
      obtain ⟨t, ty, _, k2⟩ := tupTy (K := K) ha
      have hn : nameB z = true := by
        unfold kindOk at hk
        simp at hk
        exact hk.1
      refine ⟨_, rfl, _, _, _, _, _, rfl, .ty _, ty, k2, false, rfl, iteF ?_⟩
      refine ⟨_, rfl, a, _, 2, rfl, ha, true, rfl, iteF ?_⟩
      refine ⟨_, rfl, a, _, 0, .str "of", rfl, rfl, SqT.of ha, rfl, rfl, _, rfl, iteF ?_⟩
      refine ⟨_, rfl, a, _, 0, .str "of", rfl, rfl, SqT.of ha, rfl, rfl, true, rfl, ?_⟩
      refine ⟨_, rfl, a, _, 1, .str z, rfl, rfl, SqT.of ha, rfl, z, rfl, hz, ?_⟩
      rw [hn]
      exact q
    | row k =>
      obtain ⟨a, xs, rfl, ha, _, r1⟩ := hv.tupE
      obtain ⟨u0, us, rfl, h0, r2⟩ := r1.consE
      obtain ⟨u1, us, rfl, h1, r3⟩ := r2.consE
      obtain rfl := r3.nilE
      obtain ⟨rfl, _⟩ := h0.strE
      obtain ⟨t, ty, _, k2⟩ := tupTy (K := K) ha
      obtain ⟨m, rfl⟩ : ∃ m, r = m + 1 := by
        cases r with
        | zero => cases hk
        | succ m => exact ⟨m, rfl⟩
      refine ⟨_, rfl, _, _, _, _, _, rfl, .ty _, ty, k2, false, rfl, iteF ?_⟩
      refine ⟨_, rfl, a, _, 2, rfl, ha, true, rfl, iteF ?_⟩
      refine ⟨_, rfl, a, _, 0, .str "row", rfl, rfl, SqT.of ha, rfl, rfl, _, rfl, iteT ?_⟩
      refine ⟨_, rfl, _, _, rfl, rfl, true, (by show V.bl (decide ((0 : Int) < ((m + 1 : Nat) : Int))) = V.bl true; rw [decide_eq_true (by omega)]), ?_⟩
      refine ⟨_, rfl, a, _, 1, u1, rfl, rfl, SqT.of ha, rfl, _, rfl, _, _, rfl, rfl, ?_⟩
      exact ⟨u1, k, m, (by show [u1, V.int (((m + 1 : Nat) : Int) - 1)] = [u1, V.int m]; rw [show ((m + 1 : Nat) : Int) - 1 = (m : Int) by omega]), by omega, h1, hk, q⟩
end
end PF

namespace PF
open PySem PySem.Spec PyProof.Rows L2 PV T
def signs : List Str := ["+", "-", "*", "/", "rem", "<", "=", "and", "or"]
/-- the signs that a text may have -/
def inkOk (c : Nat) : Bool := decide (32 ≤ c) && (decide (c ≤ 126) && (!decide (c = 34) && !decide (c = 37)))
def textB (z : Str) : Bool := decide (z.length ≤ 40) && z.cps.toList.all inkOk
inductive Leaf : Str → PyData → Prop where
  | name (z : Str) (h : nameB z = true) : Leaf "name" (.str z)
  | known (z : Str) (h : nameB z = true ∨ z = "self") : Leaf "known" (.str z)
  | kind (k : Kd) (h : kindOk k 3 = true) : Leaf "kind" k.py
  | entry (k : Kd) (h : kindOk k 2 = true) : Leaf "entry" k.py
  | sign (z : Str) (h : z ∈ signs) : Leaf "sign" (.str z)
  | int (i : Int) (h : -2147483648 ≤ i) (h2 : i ≤ 2147483647) : Leaf "int" (.int i)
  | truth (b : Bool) : Leaf "truth" (.bool b)
  | text (z : Str) (h : textB z = true) : Leaf "text" (.str z)
structure LfT (K : PySem.W.Frag) (mg : Str → Option Value) : Prop where
  kd : ∃ fT fN fK dT dN dK, KdT K mg fT fN fK dT dN dK
  ord_ : mg "ord" = none
  sg : ∃ a, mg "SIGNS" = some (.ref a) ∧ ∀ H, SqT K H a (signs.map V.str)
  li : ∃ t, mg "LEAST_INT" = some (.int (-2147483648) t)
  gi : ∃ t, mg "GREATEST_INT" = some (.int 2147483647 t)
  mr : ∃ t, mg "MOST_ROWS" = some (.int 3 t)
  me : ∃ t, mg "MOST_ENTRY_ROWS" = some (.int 2 t)
  mt : ∃ t, mg "MOST_TEXT_SIGNS" = some (.int 40 t)
  int : ∃ f fd, Gd K mg "is_integer" s_is_integer ["thing"] f fd
  btw : ∃ f fd, Gd K mg "is_between" s_is_between ["thing", "least", "greatest"] f fd
  sgn : ∃ f fd, Gd K mg "is_signs" s_is_signs ["thing"] f fd
  sht : ∃ f fd, Gd K mg "is_short_text" s_is_short_text ["thing"] f fd
section
variable {P : Program} {w : World} {K : PySem.W.Frag} {mg : Str → Option Value} {base : Heap}
def spInt : Sp := fun vs H Q _ => ∃ i : Int, vs = [.int i] ∧ Q (.bl true) H
theorem ok_int {f : Addr} {fd : FuncData} (F : Fun K "is_integer" "is_integer" s_is_integer f fd) (b : Bt mg) : FnOk P w K mg base CX0 1 f fd ["thing"] spInt := by
  refine F.ok sc_is_integer (fun vs H Q E h => ?_) (fun cdv A outer s H vs Q E hr h => ?_)
  · obtain ⟨i, rfl, _⟩ := h
    rfl
  · obtain ⟨i, rfl, q⟩ := h
    refine ⟨_, pss_one (ps_ret (pe_and (pe_callB call_isi (by rfl) b.isi (by decide +kernel) (pa_cons (pv 0) (pa_cons (pe_bltn (by rfl) b.int (v := .ty "int") (by decide +kernel) rfl) pa_nil)))
      (pe_one (pe_not (pe_callB call_isi (by rfl) b.isi (by decide +kernel) (pa_cons (pv 0) (pa_cons (pe_bltn (by rfl) b.bool (v := .ty "bool") (by decide +kernel) rfl) pa_nil))))))), ?_⟩
    refine ⟨_, rfl, _, _, _, _, _, rfl, .ty _, .base (.int i), kit_ty (show kitB "int" "int" = some true by decide +kernel), true, rfl, ?_⟩
    exact ⟨_, rfl, _, _, _, _, _, rfl, .ty _, .base (.int i), kit_ty (show kitB "int" "bool" = some false by decide +kernel), _, rfl, q⟩
def spBtw : Sp := fun vs H Q _ => ∃ i lo hi : Int, vs = [.int i, .int lo, .int hi] ∧ lo ≤ i ∧ i ≤ hi ∧ Q (.bl true) H
theorem ok_btw {f fI : Addr} {fd dI : FuncData} (F : Fun K "is_between" "is_between" s_is_between f fd) (I : Gd K mg "is_integer" s_is_integer ["thing"] fI dI) (b : Bt mg) : FnOk P w K mg base CX0 2 f fd ["thing", "least", "greatest"] spBtw := by
  have GI : FnOk P w K mg base CX0 1 fI dI ["thing"] spInt := ok_int I.F b
  refine F.ok sc_is_between (fun vs H Q E h => ?_) (fun cdv A outer s H vs Q E hr h => ?_)
  · obtain ⟨i, lo, hi, rfl, _⟩ := h
    rfl
  · obtain ⟨i, lo, hi, rfl, h1, h2, q⟩ := h
    refine ⟨_, pss_one (ps_ret (pe_and (pe_call GI hr (by rfl) I.g I.F.kp I.b .nil pass0 (pa_cons (pv 0) pa_nil)) (pe_one (pe_chain op_le op_le (pv 1) (pv 0) (pv 2))))), ?_⟩
    refine ⟨_, rfl, i, rfl, true, rfl, ?_⟩
    refine ⟨_, rfl, _, rfl, _, _, rfl, rfl, true, (by show V.bl (decide (lo ≤ i)) = V.bl true; rw [decide_eq_true h1]), iteT ?_⟩
    refine ⟨_, rfl, _, _, rfl, rfl, ?_⟩
    show Q (.bl (decide (i ≤ hi))) H
    rw [decide_eq_true h2]
    exact q
def spSgn : Sp := fun vs H Q _ => ∃ z : Str, vs = [.str z] ∧ z.cps.toList.all inkOk = true ∧ Q (.bl true) H
theorem ok_sgn {f : Addr} {fd : FuncData} (F : Fun K "is_signs" "is_signs" s_is_signs f fd) (b : Bt mg) (mOrd : mg "ord" = none) : FnOk P w K mg base CX0 1 f fd ["thing"] spSgn := by
  refine F.ok sc_is_signs (fun vs H Q E h => ?_) (fun cdv A outer s H vs Q E hr h => ?_)
  · obtain ⟨z, rfl, _⟩ := h
    rfl
  · obtain ⟨z, rfl, ha, q⟩ := h
    refine ⟨_, pss_cons (ps_if (pt_not (pt_val (pe_callB call_isi (by rfl) b.isi (by decide +kernel) (pa_cons (pv 0) (pa_cons (pe_bltn (by rfl) b.str (v := .ty "str") (by decide +kernel) rfl) pa_nil))))) (pss_one (ps_ret pe_bl)) pss_nil)
      (pss_cons (ps_for PassesOwn.never rfl (pi_str (pv 0)) (pg_name (i := 1) sc_is_signs.nd rfl (Or.inl rfl))
        (pss_cons (ps_set (i := 2) sc_is_signs.nd rfl (Or.inl rfl) (pe_callB call_ord (by rfl) mOrd (by decide +kernel) (pa_cons (pv 1) pa_nil)))
        (pss_one (ps_if (PW.pt (pw_or (pt_cmpR op_lt (pv 2) pe_int (nomark _)) (pw_or (pt_cmpR op_gt (pv 2) pe_int (nomark _)) (pw_or (pt_cmpR op_eq (pv 2) pe_int (nomark _)) (pw_or1 (pt_cmpR op_eq (pv 2) pe_int (nomark _)))))))
          (pss_one (ps_ret pe_bl)) pss_nil))))
      (pss_one (ps_ret pe_bl))), ?_⟩
    obtain ⟨t, ty, _, k2⟩ := strTy (K := K) (H := H) (z := z)
    refine ⟨_, rfl, _, _, _, _, _, rfl, .ty _, ty, k2, true, rfl, iteF ?_⟩
    refine ⟨_, rfl, z, rfl, ?_⟩
    refine for_it walk_str (fun i σ H' => H' = H ∧ σ.length = 3) ⟨rfl, rfl⟩ (fun _ _ _ _ _ => trivial) ?_ ?_
    · rintro i x σ H1 H2 hi ⟨rfl, hl⟩ ⟨rfl, c, hc, rfl⟩
      obtain ⟨s0, s1, s2, rfl⟩ : ∃ a b d, σ = [a, b, d] := by
        match σ, hl with
        | [a, b, d], _ => exact ⟨a, b, d, rfl⟩
      have hct : z.cps.toList[i]? = some c := by rw [← hc]; simp
      have ho : inkOk c = true := (List.all_eq_true.mp ha) c (List.mem_of_getElem? hct)
      unfold inkOk at ho
      simp at ho
      obtain ⟨o1, o2, o3, o4⟩ := ho
      refine ⟨_, rfl, ⟨#[c]⟩, rfl, rfl, ?_⟩
      have n1 : decide (((c : Nat) : Int) < 32) = false := decide_eq_false (by omega)
      have n2 : decide ((126 : Int) < ((c : Nat) : Int)) = false := decide_eq_false (by omega)
      have n3 : decide (V.int ((c : Nat) : Int) = V.int 34) = false := decide_eq_false (fun e => by injection e with e; omega)
      have n4 : decide (V.int ((c : Nat) : Int) = V.int 37) = false := decide_eq_false (fun e => by injection e with e; omega)
      refine ⟨_, rfl, _, _, rfl, rfl, false, (by show V.bl (decide (((c : Nat) : Int) < 32)) = _; rw [n1]), iteF ?_⟩
      refine ⟨_, rfl, _, _, rfl, rfl, false, (by show V.bl (decide ((126 : Int) < ((c : Nat) : Int))) = _; rw [n2]), iteF ?_⟩
      refine ⟨_, rfl, rfl, false, (by show V.bl (decide (V.int ((c : Nat) : Int) = V.int 34)) = _; rw [n3]), iteF ?_⟩
      refine ⟨_, rfl, rfl, false, (by show V.bl (decide (V.int ((c : Nat) : Int) = V.int 37)) = _; rw [n4]), iteF ?_⟩
      exact ⟨rfl, rfl⟩
    · rintro σ H1 ⟨rfl, hl⟩
      exact q
def spSht : Sp := fun vs H Q _ => ∃ z : Str, vs = [.str z] ∧ textB z = true ∧ Q (.bl true) H
theorem ok_sht {f fS : Addr} {fd dS : FuncData} (F : Fun K "is_short_text" "is_short_text" s_is_short_text f fd) (S : Gd K mg "is_signs" s_is_signs ["thing"] fS dS) (b : Bt mg) (mOrd : mg "ord" = none) (mt : ∃ t, mg "MOST_TEXT_SIGNS" = some (.int 40 t)) :
    FnOk P w K mg base CX0 2 f fd ["thing"] spSht := by
  have GS : FnOk P w K mg base CX0 1 fS dS ["thing"] spSgn := ok_sgn S.F b mOrd
  refine F.ok sc_is_short_text (fun vs H Q E h => ?_) (fun cdv A outer s H vs Q E hr h => ?_)
  · obtain ⟨z, rfl, _⟩ := h
    rfl
  · obtain ⟨z, rfl, ht, q⟩ := h
    obtain ⟨tm, mm⟩ := mt
    refine ⟨_, pss_one (ps_ret (pe_and (pe_callB call_isi (by rfl) b.isi (by decide +kernel) (pa_cons (pv 0) (pa_cons (pe_bltn (by rfl) b.str (v := .ty "str") (by decide +kernel) rfl) pa_nil)))
      (pe_and (pe_cmp (pc_le (pe_callB call_len_str (by rfl) b.len PySem.boot_len (pa_cons (pv 0) pa_nil)) (pe_glob (v := .int 40) (by rfl) mm ⟨_, rfl⟩)) rfl)
      (pe_one (pe_call GS hr (by rfl) S.g S.F.kp S.b .nil pass0 (pa_cons (pv 0) pa_nil)))))), ?_⟩
    obtain ⟨t, ty, _, k2⟩ := strTy (K := K) (H := H) (z := z)
    unfold textB at ht
    simp only [Bool.and_eq_true, decide_eq_true_eq] at ht
    obtain ⟨h1, h2⟩ := ht
    refine ⟨_, rfl, _, _, _, _, _, rfl, .ty _, ty, k2, true, rfl, ?_⟩
    refine ⟨_, rfl, z, rfl, Nat.le_trans h1 (by decide), _, _, rfl, rfl, true, (by show V.bl (decide ((z.length : Int) ≤ 40)) = _; rw [decide_eq_true (by omega)]), ?_⟩
    exact ⟨_, rfl, z, rfl, h2, q⟩
def spLeaf : Sp := fun vs H Q _ => ∃ (s : Str) (v : V) (d : PyData), vs = [.str s, v] ∧ Dv H v d ∧ Leaf s d ∧ Q (.bl true) H
theorem ok_leaf {f : Addr} {fd : FuncData} (F : Fun K "is_leaf" "is_leaf" s_is_leaf f fd) (T0 : LfT K mg) : FnOk P w K mg base CX0 7 f fd ["sort", "thing"] spLeaf := by
  refine F.ok sc_is_leaf (fun vs H Q E h => ?_) (fun cdv A outer s H vs Q E hr h => ?_)
  · obtain ⟨s, v, d, rfl, _⟩ := h
    rfl
  · obtain ⟨s, v, d, rfl, hv, hl, q⟩ := h
    obtain ⟨fT, fN, fK, dT, dN, dK, kd⟩ := T0.kd
    obtain ⟨ag, mg', hg⟩ := T0.sg
    obtain ⟨_, mli⟩ := T0.li
    obtain ⟨_, mgi⟩ := T0.gi
    obtain ⟨_, mmr⟩ := T0.mr
    obtain ⟨_, mme⟩ := T0.me
    obtain ⟨fI, dI, gI⟩ := T0.int
    obtain ⟨fB, dB, gB⟩ := T0.btw
    obtain ⟨fS, dS, gS⟩ := T0.sgn
    obtain ⟨fH, dH, gH⟩ := T0.sht
    have b := kd.nm.b
    have GN : FnOk P w K mg base CX0 1 fN dN ["thing"] spName := ok_name kd.name.F kd.nm
    have GK : FnOk P w K mg base CX0 6 fK dK ["thing", "rows"] (spKind 4) := ok_kind kd 4
    have GB : FnOk P w K mg base CX0 2 fB dB ["thing", "least", "greatest"] spBtw := ok_btw gB.F gI b
    have GH : FnOk P w K mg base CX0 2 fH dH ["thing"] spSht := ok_sht gH.F gS b T0.ord_ T0.mt
    refine ⟨_, pss_cons (ps_if (pt_cmpR op_eq (pv 0) pe_str (nomark _)) (pss_one (ps_ret (pe_call GN (hr.mono (by decide)) (by rfl) kd.name.g kd.name.F.kp kd.name.b .nil pass0 (pa_cons (pv 1) pa_nil)))) pss_nil)
      (pss_cons (ps_if (pt_cmpR op_eq (pv 0) pe_str (nomark _)) (pss_one (ps_ret (pe_or (pe_call GN (hr.mono (by decide)) (by rfl) kd.name.g kd.name.F.kp kd.name.b .nil pass0 (pa_cons (pv 1) pa_nil)) (pe_one (pe_cmpR op_eq (pv 1) pe_str (nomark _)))))) pss_nil)
      (pss_cons (ps_if (pt_cmpR op_eq (pv 0) pe_str (nomark _)) (pss_one (ps_ret (pe_call GK (hr.mono (by decide)) (by rfl) kd.kind.g kd.kind.F.kp kd.kind.b .nil pass0 (pa_cons (pv 1) (pa_cons (pe_glob (v := .int 3) (by rfl) mmr ⟨_, rfl⟩) pa_nil))))) pss_nil)
      (pss_cons (ps_if (pt_cmpR op_eq (pv 0) pe_str (nomark _)) (pss_one (ps_ret (pe_call GK (hr.mono (by decide)) (by rfl) kd.kind.g kd.kind.F.kp kd.kind.b .nil pass0 (pa_cons (pv 1) (pa_cons (pe_glob (v := .int 2) (by rfl) mme ⟨_, rfl⟩) pa_nil))))) pss_nil)
      (pss_cons (ps_if (pt_cmpR op_eq (pv 0) pe_str (nomark _)) (pss_one (ps_ret (pe_and (pe_callB call_isi (by rfl) b.isi (by decide +kernel) (pa_cons (pv 1) (pa_cons (pe_bltn (by rfl) b.str (v := .ty "str") (by decide +kernel) rfl) pa_nil))) (pe_one (pe_cmpR op_in_seq (pv 1) (pe_glob (v := .ref ag) (by rfl) mg' rfl) (by rfl)))))) pss_nil)
      (pss_cons (ps_if (pt_cmpR op_eq (pv 0) pe_str (nomark _)) (pss_one (ps_ret (pe_call GB (hr.mono (by decide)) (by rfl) gB.g gB.F.kp gB.b .nil pass0 (pa_cons (pv 1) (pa_cons (pe_glob (v := .int (-2147483648)) (by rfl) mli ⟨_, rfl⟩) (pa_cons (pe_glob (v := .int 2147483647) (by rfl) mgi ⟨_, rfl⟩) pa_nil)))))) pss_nil)
      (pss_cons (ps_if (pt_cmpR op_eq (pv 0) pe_str (nomark _)) (pss_one (ps_ret (pe_callB call_isi (by rfl) b.isi (by decide +kernel) (pa_cons (pv 1) (pa_cons (pe_bltn (by rfl) b.bool (v := .ty "bool") (by decide +kernel) rfl) pa_nil))))) pss_nil)
      (pss_one (ps_ret (pe_call GH (hr.mono (by decide)) (by rfl) gH.g gH.F.kp gH.b .nil pass0 (pa_cons (pv 1) pa_nil)))))))))), ?_⟩
    cases hl with
    | name z hz =>
      obtain ⟨rfl, hl⟩ := hv.strE
      refine ⟨_, rfl, rfl, _, rfl, iteT ?_⟩
      refine ⟨_, rfl, z, rfl, hl, ?_⟩
      rw [hz]
      exact q
    | known z hz =>
      obtain ⟨rfl, hl⟩ := hv.strE
      refine ⟨_, rfl, rfl, _, rfl, iteF ?_⟩
      refine ⟨_, rfl, rfl, _, rfl, iteT ?_⟩
      refine ⟨_, rfl, z, rfl, hl, _, rfl, ?_⟩
      refine ite2 (fun e => q) (fun e => ?_)
      rcases hz with hz | rfl
      · exact absurd hz e
      exact ⟨_, rfl, rfl, q⟩
    | kind k hk =>
      refine ⟨_, rfl, rfl, _, rfl, iteF ?_⟩
      refine ⟨_, rfl, rfl, _, rfl, iteF ?_⟩
      refine ⟨_, rfl, rfl, _, rfl, iteT ?_⟩
      exact ⟨_, rfl, v, k, 3, rfl, by decide, hv, hk, q⟩
    | entry k hk =>
      refine ⟨_, rfl, rfl, _, rfl, iteF ?_⟩
      refine ⟨_, rfl, rfl, _, rfl, iteF ?_⟩
      refine ⟨_, rfl, rfl, _, rfl, iteF ?_⟩
      refine ⟨_, rfl, rfl, _, rfl, iteT ?_⟩
      exact ⟨_, rfl, v, k, 2, rfl, by decide, hv, hk, q⟩
    | sign z hz =>
      obtain ⟨rfl, hl⟩ := hv.strE
      obtain ⟨t, ty, _, k2⟩ := strTy (K := K) (H := H) (z := z)
      refine ⟨_, rfl, rfl, _, rfl, iteF ?_⟩
      refine ⟨_, rfl, rfl, _, rfl, iteF ?_⟩
      refine ⟨_, rfl, rfl, _, rfl, iteF ?_⟩
      refine ⟨_, rfl, rfl, _, rfl, iteF ?_⟩
      refine ⟨_, rfl, rfl, _, rfl, iteT ?_⟩
      refine ⟨_, rfl, _, _, _, _, _, rfl, .ty _, ty, k2, true, rfl, ?_⟩
      refine ⟨_, rfl, ag, _, rfl, .inr (hg _), rfl, flatW _, ?_⟩
      show Q (.bl (inV (V.str z) (signs.map V.str))) H
      rw [inW, decide_eq_true hz]
      exact q
    | int i h1 h2 =>
      cases hv
      refine ⟨_, rfl, rfl, _, rfl, iteF ?_⟩
      refine ⟨_, rfl, rfl, _, rfl, iteF ?_⟩
      refine ⟨_, rfl, rfl, _, rfl, iteF ?_⟩
      refine ⟨_, rfl, rfl, _, rfl, iteF ?_⟩
      refine ⟨_, rfl, rfl, _, rfl, iteF ?_⟩
      refine ⟨_, rfl, rfl, _, rfl, iteT ?_⟩
      exact ⟨_, rfl, i, _, _, rfl, h1, h2, q⟩
    | truth bb =>
      cases hv
      refine ⟨_, rfl, rfl, _, rfl, iteF ?_⟩
      refine ⟨_, rfl, rfl, _, rfl, iteF ?_⟩
      refine ⟨_, rfl, rfl, _, rfl, iteF ?_⟩
      refine ⟨_, rfl, rfl, _, rfl, iteF ?_⟩
      refine ⟨_, rfl, rfl, _, rfl, iteF ?_⟩
      refine ⟨_, rfl, rfl, _, rfl, iteF ?_⟩
      refine ⟨_, rfl, rfl, _, rfl, iteT ?_⟩
      exact ⟨_, rfl, _, _, _, _, _, rfl, .ty _, .base (.bl bb), kit_ty (show kitB "bool" "bool" = some true by decide +kernel), q⟩
    | text z hz =>
      obtain ⟨rfl, hl⟩ := hv.strE
      refine ⟨_, rfl, rfl, _, rfl, iteF ?_⟩
      refine ⟨_, rfl, rfl, _, rfl, iteF ?_⟩
      refine ⟨_, rfl, rfl, _, rfl, iteF ?_⟩
      refine ⟨_, rfl, rfl, _, rfl, iteF ?_⟩
      refine ⟨_, rfl, rfl, _, rfl, iteF ?_⟩
      refine ⟨_, rfl, rfl, _, rfl, iteF ?_⟩
      refine ⟨_, rfl, rfl, _, rfl, iteF ?_⟩
      exact ⟨_, rfl, z, rfl, hz, q⟩
end
end PF

/-! Counts of a body, its height, and its parts by sorts. -/
namespace PV
open PySem PySem.Spec PyProof.Rows L2 PF
mutual
/-- expressions, itself too -/
def Ex.cnt : Ex → Nat
  | .get e _ => e.cnt + 1
  | .at_ e i => e.cnt + i.cnt + 1
  | .call _ as => as.cnt + 1
  | .ask e _ as => e.cnt + as.cnt + 1
  | .row _ e => e.cnt + 1
  | .op _ a b => a.cnt + b.cnt + 1
  | .not e => e.cnt + 1
  | .is_ e _ => e.cnt + 1
  | .as_ e _ => e.cnt + 1
  | .size e => e.cnt + 1
  | .sign e i => e.cnt + i.cnt + 1
  | .tell e => e.cnt + 1
  | _ => 1
def Exs.cnt : Exs → Nat
  | .nil => 0
  | .cons e r => e.cnt + r.cnt
end
mutual
def Ex.ht : Ex → Nat
  | .get e _ => e.ht + 1
  | .at_ e i => max e.ht i.ht + 1
  | .call _ as => as.ht + 1
  | .ask e _ as => max e.ht as.ht + 1
  | .row _ e => e.ht + 1
  | .op _ a b => max a.ht b.ht + 1
  | .not e => e.ht + 1
  | .is_ e _ => e.ht + 1
  | .as_ e _ => e.ht + 1
  | .size e => e.ht + 1
  | .sign e i => max e.ht i.ht + 1
  | .tell e => e.ht + 1
  | _ => 1
def Exs.ht : Exs → Nat
  | .nil => 0
  | .cons e r => max e.ht r.ht
end
mutual
def St.cnt : St → Nat
  | .var _ _ e => e.cnt + 1
  | .set _ e => e.cnt + 1
  | .put t _ e => t.cnt + e.cnt + 1
  | .place t i e => t.cnt + i.cnt + e.cnt + 1
  | .if_ t a b => t.cnt + a.cnt + b.cnt + 1
  | .while_ t b => t.cnt + b.cnt + 1
  | .ret e => e.cnt + 1
  | .ret0 => 1
  | .throw e => e.cnt + 1
  | .try_ a _ _ b => a.cnt + b.cnt + 1
  | .show_ e => e.cnt + 1
  | .do_ e => e.cnt + 1
def Sts.cnt : Sts → Nat
  | .nil => 0
  | .cons s r => s.cnt + r.cnt
end
mutual
def St.ht : St → Nat
  | .var _ _ e => e.ht + 1
  | .set _ e => e.ht + 1
  | .put t _ e => max t.ht e.ht + 1
  | .place t i e => max (max t.ht i.ht) e.ht + 1
  | .if_ t a b => max (max t.ht a.ht) b.ht + 1
  | .while_ t b => max t.ht b.ht + 1
  | .ret e => e.ht + 1
  | .ret0 => 1
  | .throw e => e.ht + 1
  | .try_ a _ _ b => max a.ht b.ht + 1
  | .show_ e => e.ht + 1
  | .do_ e => e.ht + 1
def Sts.ht : Sts → Nat
  | .nil => 0
  | .cons s r => max s.ht r.ht
end
mutual
/-- names told: vars and catches -/
def St.told : St → Nat
  | .var _ _ _ => 1
  | .if_ _ a b => a.told + b.told
  | .while_ _ b => b.told
  | .try_ a _ _ b => a.told + b.told + 1
  | _ => 0
def Sts.told : Sts → Nat
  | .nil => 0
  | .cons s r => s.told + r.told
end
mutual
def St.trys : St → Nat
  | .if_ _ a b => a.trys + b.trys
  | .while_ _ b => b.trys
  | .try_ a _ _ b => a.trys + b.trys + 1
  | _ => 0
def Sts.trys : Sts → Nat
  | .nil => 0
  | .cons s r => s.trys + r.trys
end
/-! ### right parts -/
def nmB (z : Str) : Bool := nameB z && decide (z.length ≤ 1000)
mutual
def Ex.ok : Ex → Bool
  | .int i => decide (-2147483648 ≤ i) && decide (i ≤ 2147483647)
  | .truth _ => true
  | .text z => textB z
  | .nil => true
  | .read => true
  | .name z => nameB z || decide (z = "self")
  | .get e f => e.ok && nameB f
  | .at_ e i => e.ok && i.ok
  | .call n as => nameB n && as.ok
  | .ask e n as => e.ok && (nameB n && as.ok)
  | .new n => nameB n
  | .row k e => kindOk k 2 && e.ok
  | .op s a b => decide (s ∈ PF.signs) && (a.ok && b.ok)
  | .not e => e.ok
  | .is_ e n => e.ok && nameB n
  | .as_ e n => e.ok && nameB n
  | .size e => e.ok
  | .sign e i => e.ok && i.ok
  | .tell e => e.ok
def Exs.ok : Exs → Bool
  | .nil => true
  | .cons e r => e.ok && r.ok
end
mutual
def St.ok : St → Bool
  | .var n k e => nameB n && (kindOk k 3 && e.ok)
  | .set n e => nameB n && e.ok
  | .put t f e => t.ok && (nameB f && e.ok)
  | .place t i e => t.ok && (i.ok && e.ok)
  | .if_ t a b => t.ok && (a.ok && b.ok)
  | .while_ t b => t.ok && b.ok
  | .ret e => e.ok
  | .ret0 => true
  | .throw e => e.ok
  | .try_ a n c b => a.ok && (nameB n && (nameB c && b.ok))
  | .show_ e => e.ok
  | .do_ e => e.ok
def Sts.ok : Sts → Bool
  | .nil => true
  | .cons s r => s.ok && r.ok
end
/-- what is_part may be asked: sort, data, told, tries, count, height -/
inductive Part : Str → PyData → Nat → Nat → Nat → Nat → Prop where
  | leaf {s : Str} {d : PyData} (h : Leaf s d) : Part s d 0 0 0 0
  | ex (e : Ex) (h : e.ok = true) : Part "expression" e.py 0 0 e.cnt e.ht
  | blk (b : Sts) (h : b.ok = true) : Part "block" (.tuple b.py) b.told b.trys b.cnt b.ht
  | args (as : Exs) (h : as.ok = true) : Part "args" (.tuple as.py) 0 0 as.cnt as.ht
  | valN : Part "value" .none 0 0 0 0
  | val (e : Ex) (h : e.ok = true) : Part "value" e.py 0 0 e.cnt e.ht
inductive Parts : List Str → List PyData → Nat → Nat → Nat → Nat → Prop where
  | nil : Parts [] [] 0 0 0 0
  | cons {s : Str} {d : PyData} {ss : List Str} {ds : List PyData} {n t c h n' t' c' h' : Nat} (p : Part s d n t c h) (r : Parts ss ds n' t' c' h') : Parts (s :: ss) (d :: ds) (n + n') (t + t') (c + c') (max h h')
def Ex.word : Ex → Str
  | .int _ => "int" | .truth _ => "truth" | .text _ => "text" | .nil => "nil" | .read => "read" | .name _ => "name" | .get _ _ => "get" | .at_ _ _ => "at" | .call _ _ => "call" | .ask _ _ _ => "ask" | .new _ => "new"
  | .row _ _ => "row" | .op _ _ _ => "op" | .not _ => "not" | .is_ _ _ => "is" | .as_ _ _ => "as" | .size _ => "size" | .sign _ _ => "sign" | .tell _ => "tell"
def Ex.sorts : Ex → List Str
  | .int _ => ["int"] | .truth _ => ["truth"] | .text _ => ["text"] | .nil => [] | .read => [] | .name _ => ["known"] | .get _ _ => ["expression", "name"] | .at_ _ _ => ["expression", "expression"] | .call _ _ => ["name", "args"]
  | .ask _ _ _ => ["expression", "name", "args"] | .new _ => ["name"] | .row _ _ => ["entry", "expression"] | .op _ _ _ => ["sign", "expression", "expression"] | .not _ => ["expression"] | .is_ _ _ => ["expression", "name"]
  | .as_ _ _ => ["expression", "name"] | .size _ => ["expression"] | .sign _ _ => ["expression", "expression"] | .tell _ => ["expression"]
def St.word : St → Str
  | .var _ _ _ => "var" | .set _ _ => "set" | .put _ _ _ => "put" | .place _ _ _ => "place" | .if_ _ _ _ => "if" | .while_ _ _ => "while" | .ret _ => "return" | .ret0 => "return" | .throw _ => "throw" | .try_ _ _ _ _ => "try" | .show_ _ => "show" | .do_ _ => "do"
def St.sorts : St → List Str
  | .var _ _ _ => ["name", "kind", "expression"] | .set _ _ => ["name", "expression"] | .put _ _ _ => ["expression", "name", "expression"] | .place _ _ _ => ["expression", "expression", "expression"] | .if_ _ _ _ => ["expression", "block", "block"]
  | .while_ _ _ => ["expression", "block"] | .ret _ => ["value"] | .ret0 => ["value"] | .throw _ => ["expression"] | .try_ _ _ _ _ => ["block", "name", "name", "block"] | .show_ _ => ["expression"] | .do_ _ => ["expression"]
theorem Parts.c {s : Str} {d : PyData} {ss : List Str} {ds : List PyData} {n t c h n' t' c' h' n2 t2 c2 h2 : Nat} (p : Part s d n t c h) (r : Parts ss ds n' t' c' h') (e1 : n + n' = n2) (e2 : t + t' = t2) (e3 : c + c' = c2) (e4 : max h h' = h2) : Parts (s :: ss) (d :: ds) n2 t2 c2 h2 := by
  subst e1 e2 e3 e4
  exact .cons p r
theorem Ex.view (e : Ex) (h : e.ok = true) : ∃ ds : List PyData, e.py = .tuple (.str e.word :: ds) ∧ ∃ c h, Parts e.sorts ds 0 0 c h ∧ e.cnt = c + 1 ∧ e.ht = h + 1 := by
  cases e <;> simp only [Ex.ok, Bool.and_eq_true, Bool.or_eq_true, decide_eq_true_eq] at h <;> refine ⟨_, rfl, ?_⟩
  case int i => exact ⟨_, _, .cons (.leaf (.int i h.1 h.2)) .nil, rfl, rfl⟩
  case truth b => exact ⟨_, _, .cons (.leaf (.truth b)) .nil, rfl, rfl⟩
  case text z => exact ⟨_, _, .cons (.leaf (.text z h)) .nil, rfl, rfl⟩
  case nil => exact ⟨_, _, .nil, rfl, rfl⟩
  case read => exact ⟨_, _, .nil, rfl, rfl⟩
  case name z => exact ⟨_, _, .cons (.leaf (.known z h)) .nil, rfl, rfl⟩
  case get e f => exact ⟨_, _, .c (.ex e h.1) (.cons (.leaf (.name f h.2)) .nil) rfl rfl rfl rfl, by simp [Ex.cnt], by simp [Ex.ht]⟩
  case at_ e i => exact ⟨_, _, .c (.ex e h.1) (.cons (.ex i h.2) .nil) rfl rfl rfl rfl, by simp [Ex.cnt], by simp [Ex.ht]⟩
  case call n as => exact ⟨_, _, .c (.leaf (.name n h.1)) (.cons (.args as h.2) .nil) rfl rfl rfl rfl, by simp [Ex.cnt], by simp [Ex.ht]⟩
  case ask e n as => exact ⟨_, _, .c (.ex e h.1) (.c (.leaf (.name n h.2.1)) (.cons (.args as h.2.2) .nil) rfl rfl rfl rfl) rfl rfl rfl rfl, by simp [Ex.cnt], by simp [Ex.ht]⟩
  case new n => exact ⟨_, _, .cons (.leaf (.name n h)) .nil, rfl, rfl⟩
  case row k e => exact ⟨_, _, .c (.leaf (.entry k h.1)) (.cons (.ex e h.2) .nil) rfl rfl rfl rfl, by simp [Ex.cnt], by simp [Ex.ht]⟩
  case op s a b => exact ⟨_, _, .c (.leaf (.sign s h.1)) (.c (.ex a h.2.1) (.cons (.ex b h.2.2) .nil) rfl rfl rfl rfl) rfl rfl rfl rfl, by simp [Ex.cnt], by simp [Ex.ht]⟩
  case not e => exact ⟨_, _, .cons (.ex e h) .nil, by simp [Ex.cnt], by simp [Ex.ht]⟩
  case is_ e n => exact ⟨_, _, .c (.ex e h.1) (.cons (.leaf (.name n h.2)) .nil) rfl rfl rfl rfl, by simp [Ex.cnt], by simp [Ex.ht]⟩
  case as_ e n => exact ⟨_, _, .c (.ex e h.1) (.cons (.leaf (.name n h.2)) .nil) rfl rfl rfl rfl, by simp [Ex.cnt], by simp [Ex.ht]⟩
  case size e => exact ⟨_, _, .cons (.ex e h) .nil, by simp [Ex.cnt], by simp [Ex.ht]⟩
  case sign e i => exact ⟨_, _, .c (.ex e h.1) (.cons (.ex i h.2) .nil) rfl rfl rfl rfl, by simp [Ex.cnt], by simp [Ex.ht]⟩
  case tell e => exact ⟨_, _, .cons (.ex e h) .nil, by simp [Ex.cnt], by simp [Ex.ht]⟩
def St.own : St → Nat
  | .var _ _ _ => 1
  | .try_ _ _ _ _ => 1
  | _ => 0
def St.ownT : St → Nat
  | .try_ _ _ _ _ => 1
  | _ => 0
theorem St.view (s : St) (h : s.ok = true) : ∃ ds : List PyData, s.py = .tuple (.str s.word :: ds) ∧ ∃ n t c h, Parts s.sorts ds n t c h ∧ s.told = n + s.own ∧ s.trys = t + s.ownT ∧ s.cnt = c + 1 ∧ s.ht = h + 1 := by
  cases s <;> simp only [St.ok, Bool.and_eq_true, decide_eq_true_eq] at h <;> refine ⟨_, rfl, ?_⟩
  case var n k e => exact ⟨_, _, _, _, .c (.leaf (.name n h.1)) (.c (.leaf (.kind k h.2.1)) (.cons (.ex e h.2.2) .nil) rfl rfl rfl rfl) rfl rfl rfl rfl, by simp [St.told, St.own], by simp [St.trys, St.ownT], by simp [St.cnt], by simp [St.ht]⟩
  case set n e => exact ⟨_, _, _, _, .c (.leaf (.name n h.1)) (.cons (.ex e h.2) .nil) rfl rfl rfl rfl, by simp [St.told, St.own], by simp [St.trys, St.ownT], by simp [St.cnt], by simp [St.ht]⟩
  case put t f e => exact ⟨_, _, _, _, .c (.ex t h.1) (.c (.leaf (.name f h.2.1)) (.cons (.ex e h.2.2) .nil) rfl rfl rfl rfl) rfl rfl rfl rfl, by simp [St.told, St.own], by simp [St.trys, St.ownT], by simp [St.cnt], by simp [St.ht]⟩
  case place t i e => exact ⟨_, _, _, _, .c (.ex t h.1) (.c (.ex i h.2.1) (.cons (.ex e h.2.2) .nil) rfl rfl rfl rfl) rfl rfl rfl rfl, by simp [St.told, St.own], by simp [St.trys, St.ownT], by simp [St.cnt] <;> omega, by simp [St.ht] <;> omega⟩
  case if_ t a b => exact ⟨_, _, _, _, .c (.ex t h.1) (.c (.blk a h.2.1) (.cons (.blk b h.2.2) .nil) rfl rfl rfl rfl) rfl rfl rfl rfl, by simp [St.told, St.own], by simp [St.trys, St.ownT], by simp [St.cnt] <;> omega, by simp [St.ht] <;> omega⟩
  case while_ t b => exact ⟨_, _, _, _, .c (.ex t h.1) (.cons (.blk b h.2) .nil) rfl rfl rfl rfl, by simp [St.told, St.own], by simp [St.trys, St.ownT], by simp [St.cnt], by simp [St.ht]⟩
  case ret e => exact ⟨_, _, _, _, .cons (.val e h) .nil, by simp [St.told, St.own], by simp [St.trys, St.ownT], by simp [St.cnt], by simp [St.ht]⟩
  case ret0 => exact ⟨_, _, _, _, .cons .valN .nil, by simp [St.told, St.own], by simp [St.trys, St.ownT], by simp [St.cnt], by simp [St.ht]⟩
  case throw e => exact ⟨_, _, _, _, .cons (.ex e h) .nil, by simp [St.told, St.own], by simp [St.trys, St.ownT], by simp [St.cnt], by simp [St.ht]⟩
  case try_ a n c b => exact ⟨_, _, _, _, .c (.blk a h.1) (.c (.leaf (.name n h.2.1)) (.c (.leaf (.name c h.2.2.1)) (.cons (.blk b h.2.2.2) .nil) rfl rfl rfl rfl) rfl rfl rfl rfl) rfl rfl rfl rfl, by simp [St.told, St.own], by simp [St.trys, St.ownT], by simp [St.cnt], by simp [St.ht]⟩
  case show_ e => exact ⟨_, _, _, _, .cons (.ex e h) .nil, by simp [St.told, St.own], by simp [St.trys, St.ownT], by simp [St.cnt], by simp [St.ht]⟩
  case do_ e => exact ⟨_, _, _, _, .cons (.ex e h) .nil, by simp [St.told, St.own], by simp [St.trys, St.ownT], by simp [St.cnt], by simp [St.ht]⟩
end PV

/-! What the head tells. -/
namespace HX
open PySem PySem.Spec PyProof.Rows L2 PV PF T
open He (Fa FnD ga ma)
/-- a tuple that stands at a -/
def tupA (K : PySem.W.Frag) (a : Addr) (vs : List V) : Bool := match K.lookup a with
  | some o => decide (o.cls = .type "tuple") && (match o.data with
    | .seq its n => decide (its.size ≤ sizeLine) && He.relAll vs its.toList
    | _ => false)
  | none => false
theorem tupA_ok {K : PySem.W.Frag} {a : Addr} {vs : List V} (h : tupA K a vs = true) (H : Hp) : SqT K H a vs := by
  unfold tupA at h
  split at h
  · rename_i o e
    obtain ⟨h1, h2⟩ := Bool.and_eq_true_iff.mp h
    split at h2
    · rename_i its n e2
      obtain ⟨h3, h4⟩ := Bool.and_eq_true_iff.mp h2
      exact .inr ⟨o, its, n, e, of_decide_eq_true h1, e2, of_decide_eq_true h3, He.relAll_ok h4⟩
    · cases h2
  · cases h
def tabB (K : PySem.W.Frag) (a : Addr) (l : List (Str × List Str)) : Bool := l.all fun p => match PySem.W.nsIn K a p.1 with
  | some (some (.ref b)) => tupA K b (p.2.map V.str)
  | _ => false
theorem tabB_ok {K : PySem.W.Frag} {a : Addr} {l : List (Str × List Str)} (h : tabB K a l = true) {p : Str × List Str} (hp : p ∈ l) : ∃ b, PySem.W.nsIn K a p.1 = some (some (.ref b)) ∧ ∀ H, SqT K H b (p.2.map V.str) := by
  have h1 := List.all_eq_true.mp h p hp
  split at h1
  · rename_i b e
    exact ⟨b, e, fun H => tupA_ok h1 H⟩
  · cases h1
/-- a class of errors with an __init__ of its own -/
def clsB (K : PySem.W.Frag) (C : Addr) : Bool := match K.lookup C with
  | some ⟨c, _, .cls ⟨_, _, .ref C' :: bm, _, _, true, _, _, _, _, false⟩, ⟨[_, _, _, _, some (.builtin n), _]⟩⟩ => decide (c = .type "type") && (decide (C' = C) && (decide (n = "ValueError.__new__") && PySem.HandSPX.refsVE bm))
  | _ => false
theorem clsB_ok {K : PySem.W.Frag} {C : Addr} (h : clsB K C = true) : ∃ nm q N bs bm sn sub ab col dd k0 k1 k2 k3 k5, K.lookup C = some (excClassObj nm q C N bs bm true sn sub ab col dd k0 k1 k2 k3 k5 "ValueError.__new__") ∧ PySem.HandSPX.refsVE bm = true := by
  unfold clsB at h
  split at h
  · rename_i e
    simp only [Bool.and_eq_true, decide_eq_true_eq] at h
    obtain ⟨rfl, rfl, rfl, h4⟩ := h
    exact ⟨_, _, _, _, _, _, _, _, _, _, _, _, _, _, _, e, h4⟩
  · cases h
abbrev FnI : Type := Option (Str × Str × Arguments × FuncBody × Scope × Addr × List Str × Value × Value × Addr)
def fnI (K : PySem.W.Frag) (f : Addr) : FnI := match K.lookup f with
  | some ⟨_, _, .func fd, _⟩ => some (fd.name, fd.qualname, fd.params, fd.body, fd.scope, fd.globals, fd.closure.map (·.1), fd.defaults, fd.kwdefaults, fd.builtins)
  | _ => none
def cdaOf (K : PySem.W.Frag) (f : Addr) : Addr := match K.lookup f with
  | some ⟨_, _, .func fd, _⟩ => (match fd.code with
    | .ref c => c
    | _ => 0)
  | _ => 0
def ccOf (K : PySem.W.Frag) (f : Addr) : Addr := match K.lookup f with
  | some ⟨_, _, .func fd, _⟩ => (fd.closure.map (·.2)).headD 0
  | _ => 0
def refC (K : PySem.W.Frag) (f : Addr) : Bool := match K.lookup f with
  | some ⟨_, _, .func fd, _⟩ => (match fd.code with
    | .ref _ => true
    | _ => false)
  | _ => false
theorem fnI_ok {K : PySem.W.Frag} {f : Addr} {qual : Str} {params : Arguments} {body : List Stmt} {scope : Scope} (h : fnI K f = (some ("__init__", qual, params, .stmts body, scope, mainGlobals, ["__class__"], .none, .none, builtinsNs) : FnI)) (h2 : refC K f = true) :
    ∃ (oc doc pm ct : Value) (od an : Option Addr) (osl : Array (Option Value)), K.lookup f = some ⟨oc, od, .func (PySem.W.ksFn "__init__" qual params body scope .none .none doc pm an (.ref (cdaOf K f)) ct (ccOf K f)), osl⟩ := by
  unfold fnI at h
  split at h
  · rename_i oc od fd osl e
    obtain ⟨n1, n2, n3, n4, n5, n6, n7, n8, n9, n10, n11, n12, n13, n14, n15⟩ := fd
    simp only [Option.some.injEq, Prod.mk.injEq] at h
    obtain ⟨rfl, rfl, rfl, rfl, rfl, rfl, h7, rfl, rfl, rfl⟩ := h
    unfold refC at h2
    rw [e] at h2
    cases n13 with
    | ref c =>
      have ec : cdaOf K f = c := by unfold cdaOf; rw [e]
      cases n7 with
      | nil => cases h7
      | cons p r =>
        cases r with
        | cons _ _ => exact absurd (congrArg List.length h7) (by simp)
        | nil =>
          obtain ⟨x, b⟩ := p
          have ex : x = "__class__" := by injection h7
          have ed : ccOf K f = b := by unfold ccOf; rw [e]; rfl
          rw [ec, ed]
          subst ex
          exact ⟨oc, n10, n11, n14, od, n12, osl, e⟩
    | _ => cases h2
  · cases h
def codB (K : PySem.W.Frag) (c : Addr) (file : Str) : Bool := match K.lookup c with
  | some ⟨_, _, .fields vs, _⟩ => (match (vs : Array Value)[2]? with
    | some (Value.str x _) => decide (x = file)
    | _ => false)
  | _ => false
theorem codB_ok {K : PySem.W.Frag} {c : Addr} {f0 : Str} (h : codB K c f0 = true) : ∃ (ccl : Value) (cdd : Option Addr) (vs : Array Value) (ccs : Array (Option Value)) (file : Str) (tf : Tok), K.lookup c = some ⟨ccl, cdd, .fields vs, ccs⟩ ∧ vs[2]? = some (.str file tf) ∧ (f0 == file) = true := by
  unfold codB at h
  split at h
  · rename_i ccl cdd vs ccs e
    split at h
    · rename_i x tf e2
      exact ⟨ccl, cdd, vs, ccs, x, tf, e, e2, by rw [of_decide_eq_true h]; simp⟩
    · cases h
  · cases h
def celB (K : PySem.W.Frag) (c C : Addr) : Bool := match K.lookup c with
  | some ⟨_, _, .cell (some (.ref x)), _⟩ => decide (x = C)
  | _ => false
theorem celB_ok {K : PySem.W.Frag} {c C : Addr} (h : celB K c C = true) : ∃ (cl : Value) (cld : Option Addr) (csl : Array (Option Value)), K.lookup c = some ⟨cl, cld, .cell (some (.ref C)), csl⟩ := by
  unfold celB at h
  split at h
  · rename_i cl cld x csl e
    rw [of_decide_eq_true h] at e
    exact ⟨cl, cld, csl, e⟩
  · cases h
/-! ### what is asked -/
def fn0 : List FnD := [⟨("is_tuple_to", none), "is_tuple_to", "is_tuple_to", defArgs s_is_tuple_to, defBody s_is_tuple_to, defScope s_is_tuple_to⟩, ⟨("are_named_kinds", none), "are_named_kinds", "are_named_kinds", defArgs s_are_named_kinds, defBody s_are_named_kinds, defScope s_are_named_kinds⟩, ⟨("is_function", none), "is_function", "is_function", defArgs s_is_function, defBody s_is_function, defScope s_is_function⟩, ⟨("are_functions", none), "are_functions", "are_functions", defArgs s_are_functions, defBody s_are_functions, defScope s_are_functions⟩, ⟨("is_class", none), "is_class", "is_class", defArgs s_is_class, defBody s_is_class, defScope s_is_class⟩, ⟨("is_body", none), "is_body", "is_body", defArgs s_is_body, defBody s_is_body, defScope s_is_body⟩, ⟨("is_tuple_of", none), "is_tuple_of", "is_tuple_of", defArgs s_is_tuple_of, defBody s_is_tuple_of, defScope s_is_tuple_of⟩, ⟨("is_name", none), "is_name", "is_name", defArgs s_is_name, defBody s_is_name, defScope s_is_name⟩, ⟨("is_kind", none), "is_kind", "is_kind", defArgs s_is_kind, defBody s_is_kind, defScope s_is_kind⟩, ⟨("is_leaf", none), "is_leaf", "is_leaf", defArgs s_is_leaf, defBody s_is_leaf, defScope s_is_leaf⟩, ⟨("is_integer", none), "is_integer", "is_integer", defArgs s_is_integer, defBody s_is_integer, defScope s_is_integer⟩, ⟨("is_between", none), "is_between", "is_between", defArgs s_is_between, defBody s_is_between, defScope s_is_between⟩]
def fn1 : List FnD := [⟨("is_signs", none), "is_signs", "is_signs", defArgs s_is_signs, defBody s_is_signs, defScope s_is_signs⟩, ⟨("is_short_text", none), "is_short_text", "is_short_text", defArgs s_is_short_text, defBody s_is_short_text, defScope s_is_short_text⟩, ⟨("entry_of", none), "entry_of", "entry_of", defArgs s_entry_of, defBody s_entry_of, defScope s_entry_of⟩, ⟨("class_of", none), "class_of", "class_of", defArgs s_class_of, defBody s_class_of, defScope s_class_of⟩, ⟨("is_reference", none), "is_reference", "is_reference", defArgs s_is_reference, defBody s_is_reference, defScope s_is_reference⟩, ⟨("is_program", none), "is_program", "is_program", defArgs s_is_program, defBody s_is_program, defScope s_is_program⟩, ⟨("look_at_classes", none), "look_at_classes", "look_at_classes", defArgs s_look_at_classes, defBody s_look_at_classes, defScope s_look_at_classes⟩, ⟨("look_at_fields", none), "look_at_fields", "look_at_fields", defArgs s_look_at_fields, defBody s_look_at_fields, defScope s_look_at_fields⟩, ⟨("look_at_methods", none), "look_at_methods", "look_at_methods", defArgs s_look_at_methods, defBody s_look_at_methods, defScope s_look_at_methods⟩, ⟨("look_at_head", none), "look_at_head", "look_at_head", defArgs s_look_at_head, defBody s_look_at_head, defScope s_look_at_head⟩, ⟨("look_at_override", none), "look_at_override", "look_at_override", defArgs s_look_at_override, defBody s_look_at_override, defScope s_look_at_override⟩, ⟨("head_kinds", none), "head_kinds", "head_kinds", defArgs s_head_kinds, defBody s_head_kinds, defScope s_head_kinds⟩]
def fn2 : List FnD := [⟨("look_at_functions", none), "look_at_functions", "look_at_functions", defArgs s_look_at_functions, defBody s_look_at_functions, defScope s_look_at_functions⟩, ⟨("look_for_main", none), "look_for_main", "look_for_main", defArgs s_look_for_main, defBody s_look_for_main, defScope s_look_for_main⟩, ⟨("look_at_body", none), "look_at_body", "look_at_body", defArgs s_look_at_body, defBody s_look_at_body, defScope s_look_at_body⟩, ⟨("kind_of", none), "kind_of", "kind_of", defArgs s_kind_of, defBody s_kind_of, defScope s_kind_of⟩, ⟨("look_for_fit", none), "look_for_fit", "look_for_fit", defArgs s_look_for_fit, defBody s_look_for_fit, defScope s_look_for_fit⟩, ⟨("look_at_block", none), "look_at_block", "look_at_block", defArgs s_look_at_block, defBody s_look_at_block, defScope s_look_at_block⟩, ⟨("look_at_while", none), "look_at_while", "look_at_while", defArgs s_look_at_while, defBody s_look_at_while, defScope s_look_at_while⟩, ⟨("is_ended", none), "is_ended", "is_ended", defArgs s_is_ended, defBody s_is_ended, defScope s_is_ended⟩, ⟨("ends_block", none), "ends_block", "ends_block", defArgs s_ends_block, defBody s_ends_block, defScope s_ends_block⟩, ⟨("checked", none), "checked", "checked", defArgs s_checked, defBody s_checked, defScope s_checked⟩, ⟨("check", none), "check", "check", defArgs s_check, defBody s_check, defScope s_check⟩, ⟨("_law_alike", none), "_law_alike", "_law_alike", defArgs s_law_alike, defBody s_law_alike, defScope s_law_alike⟩]
def fn3 : List FnD := [⟨("_law_told", none), "_law_told", "_law_told", defArgs s_law_told, defBody s_law_told, defScope s_law_told⟩, ⟨("_law_heads", none), "_law_heads", "_law_heads", defArgs s_law_heads, defBody s_law_heads, defScope s_law_heads⟩, ⟨("_law_above", none), "_law_above", "_law_above", defArgs s_law_above, defBody s_law_above, defScope s_law_above⟩, ⟨("_law_wrong_classes", none), "_law_wrong_classes", "_law_wrong_classes", defArgs s_law_wrong_classes, defBody s_law_wrong_classes, defScope s_law_wrong_classes⟩, ⟨("_law_wrong_heads", none), "_law_wrong_heads", "_law_wrong_heads", defArgs s_law_wrong_heads, defBody s_law_wrong_heads, defScope s_law_wrong_heads⟩, ⟨("_law_feed", none), "_law_feed", "_law_feed", defArgs s_law_feed, defBody s_law_feed, defScope s_law_feed⟩, ⟨("_law_draw", none), "_law_draw", "_law_draw", defArgs s_law_draw, defBody s_law_draw, defScope s_law_draw⟩, ⟨("_law_one", none), "_law_one", "_law_one", defArgs s_law_one, defBody s_law_one, defScope s_law_one⟩, ⟨("_law_words", none), "_law_words", "_law_words", defArgs s_law_words, defBody s_law_words, defScope s_law_words⟩, ⟨("_law_name", none), "_law_name", "_law_name", defArgs s_law_name, defBody s_law_name, defScope s_law_name⟩, ⟨("_law_some", none), "_law_some", "_law_some", defArgs s_law_some, defBody s_law_some, defScope s_law_some⟩, ⟨("_law_kind_in", none), "_law_kind_in", "_law_kind_in", defArgs s_law_kind_in, defBody s_law_kind_in, defScope s_law_kind_in⟩]
def fn4 : List FnD := [⟨("_law_pairs", none), "_law_pairs", "_law_pairs", defArgs s_law_pairs, defBody s_law_pairs, defScope s_law_pairs⟩, ⟨("_law_head", none), "_law_head", "_law_head", defArgs s_law_head, defBody s_law_head, defScope s_law_head⟩, ⟨("_law_lacks", none), "_law_lacks", "_law_lacks", defArgs s_law_lacks, defBody s_law_lacks, defScope s_law_lacks⟩, ⟨("law", none), "law", "law", defArgs s_law, defBody s_law, defScope s_law⟩, ⟨("Family", some "__init__"), "__init__", "Family.__init__", defArgs s_Family_init, defBody s_Family_init, defScope s_Family_init⟩, ⟨("Family", some "has"), "has", "Family.has", defArgs s_Family_has, defBody s_Family_has, defScope s_Family_has⟩, ⟨("Family", some "knows"), "knows", "Family.knows", defArgs s_Family_knows, defBody s_Family_knows, defScope s_Family_knows⟩, ⟨("Family", some "field_kind"), "field_kind", "Family.field_kind", defArgs s_Family_field_kind, defBody s_Family_field_kind, defScope s_Family_field_kind⟩, ⟨("Family", some "line"), "line", "Family.line", defArgs s_Family_line, defBody s_Family_line, defScope s_Family_line⟩, ⟨("Family", some "is_below"), "is_below", "Family.is_below", defArgs s_Family_is_below, defBody s_Family_is_below, defScope s_Family_is_below⟩, ⟨("Family", some "is_kind_below"), "is_kind_below", "Family.is_kind_below", defArgs s_Family_is_kind_below, defBody s_Family_is_kind_below, defScope s_Family_is_kind_below⟩, ⟨("Family", some "fits"), "fits", "Family.fits", defArgs s_Family_fits, defBody s_Family_fits, defScope s_Family_fits⟩]
def fn5 : List FnD := [⟨("Family", some "may_be_same"), "may_be_same", "Family.may_be_same", defArgs s_Family_may_be_same, defBody s_Family_may_be_same, defScope s_Family_may_be_same⟩, ⟨("BodyLook", some "__init__"), "__init__", "BodyLook.__init__", defArgs s_BodyLook_init, defBody s_BodyLook_init, defScope s_BodyLook_init⟩, ⟨("BodyLook", some "begin"), "begin", "BodyLook.begin", defArgs s_BodyLook_begin, defBody s_BodyLook_begin, defScope s_BodyLook_begin⟩, ⟨("BodyForm", some "__init__"), "__init__", "BodyForm.__init__", defArgs s_BodyForm_init, defBody s_BodyForm_init, defScope s_BodyForm_init⟩, ⟨("BodyForm", some "is_expression"), "is_expression", "BodyForm.is_expression", defArgs s_BodyForm_is_expression, defBody s_BodyForm_is_expression, defScope s_BodyForm_is_expression⟩, ⟨("BodyForm", some "is_statement"), "is_statement", "BodyForm.is_statement", defArgs s_BodyForm_is_statement, defBody s_BodyForm_is_statement, defScope s_BodyForm_is_statement⟩, ⟨("BodyForm", some "is_block"), "is_block", "BodyForm.is_block", defArgs s_BodyForm_is_block, defBody s_BodyForm_is_block, defScope s_BodyForm_is_block⟩, ⟨("BodyForm", some "are_args"), "are_args", "BodyForm.are_args", defArgs s_BodyForm_are_args, defBody s_BodyForm_are_args, defScope s_BodyForm_are_args⟩, ⟨("BodyForm", some "may_begin"), "may_begin", "BodyForm.may_begin", defArgs s_BodyForm_may_begin, defBody s_BodyForm_may_begin, defScope s_BodyForm_may_begin⟩, ⟨("BodyForm", some "are_parts"), "are_parts", "BodyForm.are_parts", defArgs s_BodyForm_are_parts, defBody s_BodyForm_are_parts, defScope s_BodyForm_are_parts⟩, ⟨("BodyForm", some "is_part"), "is_part", "BodyForm.is_part", defArgs s_BodyForm_is_part, defBody s_BodyForm_is_part, defScope s_BodyForm_is_part⟩]
def fn : List FnD := fn0 ++ (fn1 ++ (fn2 ++ (fn3 ++ (fn4 ++ (fn5)))))
def fa0 : List Fa := [.glo "is_tuple_to", .keep "is_tuple_to", .glo "are_named_kinds", .keep "are_named_kinds", .glo "is_function", .keep "is_function", .glo "are_functions", .keep "are_functions", .glo "is_class", .keep "is_class", .glo "is_body", .keep "is_body", .glo "is_tuple_of", .keep "is_tuple_of", .glo "is_name", .keep "is_name", .glo "is_kind", .keep "is_kind", .glo "is_leaf", .keep "is_leaf"]
def fa1 : List Fa := [.glo "is_integer", .keep "is_integer", .glo "is_between", .keep "is_between", .glo "is_signs", .keep "is_signs", .glo "is_short_text", .keep "is_short_text", .glo "entry_of", .keep "entry_of", .glo "class_of", .keep "class_of", .glo "is_reference", .keep "is_reference", .glo "is_program", .keep "is_program", .glo "look_at_classes", .keep "look_at_classes", .glo "look_at_fields", .keep "look_at_fields"]
def fa2 : List Fa := [.glo "look_at_methods", .keep "look_at_methods", .glo "look_at_head", .keep "look_at_head", .glo "look_at_override", .keep "look_at_override", .glo "head_kinds", .keep "head_kinds", .glo "look_at_functions", .keep "look_at_functions", .glo "look_for_main", .keep "look_for_main", .glo "look_at_body", .keep "look_at_body", .glo "kind_of", .keep "kind_of", .glo "look_for_fit", .keep "look_for_fit", .glo "look_at_block", .keep "look_at_block"]
def fa3 : List Fa := [.glo "look_at_while", .keep "look_at_while", .glo "is_ended", .keep "is_ended", .glo "ends_block", .keep "ends_block", .glo "checked", .keep "checked", .glo "check", .keep "check", .glo "_law_alike", .keep "_law_alike", .glo "_law_told", .keep "_law_told", .glo "_law_heads", .keep "_law_heads", .glo "_law_above", .keep "_law_above", .glo "_law_wrong_classes", .keep "_law_wrong_classes"]
def fa4 : List Fa := [.glo "_law_wrong_heads", .keep "_law_wrong_heads", .glo "_law_feed", .keep "_law_feed", .glo "_law_draw", .keep "_law_draw", .glo "_law_one", .keep "_law_one", .glo "_law_words", .keep "_law_words", .glo "_law_name", .keep "_law_name", .glo "_law_some", .keep "_law_some", .glo "_law_kind_in", .keep "_law_kind_in", .glo "_law_pairs", .keep "_law_pairs", .glo "_law_head", .keep "_law_head"]
def fa5 : List Fa := [.glo "_law_lacks", .keep "_law_lacks", .glo "law", .keep "law", .glo "Family", .glo "BodyLook", .glo "BodyForm", .glo "NotLetBy", .glo "PLAIN_KINDS", .glo "WORDS", .glo "SIGNS", .glo "LEAF_KINDS", .glo "STATEMENT_RULES", .glo "EXPRESSIONS", .glo "STATEMENTS", .free "isinstance", .free "bool", .free "tuple", .free "len", .free "range"]
def fa6 : List Fa := [.free "max", .free "min", .free "int", .free "sum", .free "list", .free "str", .free "enumerate", .free "ord", .free "super", .int "MOST_ROWS" (3), .int "MOST_PARAMS" (6), .int "MOST_FIELDS" (8), .int "MOST_METHODS" (8), .int "MOST_CLASSES" (12), .int "MOST_FUNCTIONS" (30), .int "MOST_NAMES_TOLD" (16), .int "MOST_TRIES" (10), .int "MOST_NAME_SIGNS" (8), .int "MOST_IN_BODY" (400), .int "MOST_IN_CHAIN" (20)]
def fa7 : List Fa := [.int "LEAST_INT" (-2147483648), .int "GREATEST_INT" (2147483647), .int "MOST_ENTRY_ROWS" (2), .int "MOST_TEXT_SIGNS" (40), .str "NIL" "nil", .str "LETTERS" letters, .str "DIGITS" digits, .cls "Family", .mkr "Family", .cls "BodyLook", .mkr "BodyLook", .cls "BodyForm", .mkr "BodyForm", .noat "Family" "by_name", .noat "BodyLook" "family", .noat "BodyLook" "functions", .noat "BodyLook" "owner", .noat "BodyLook" "function", .noat "BodyLook" "begun", .noat "BodyLook" "reach"]
def fa8 : List Fa := [.noat "BodyForm" "names", .noat "BodyForm" "tries", .noat "BodyForm" "begun", .noat "NotLetBy" "what", .meth "Family" "__init__", .meth "Family" "has", .meth "Family" "knows", .meth "Family" "field_kind", .meth "Family" "line", .meth "Family" "is_below", .meth "Family" "is_kind_below", .meth "Family" "fits", .meth "Family" "may_be_same", .meth "BodyLook" "__init__", .meth "BodyLook" "begin", .meth "BodyForm" "__init__", .meth "BodyForm" "is_expression", .meth "BodyForm" "is_statement", .meth "BodyForm" "is_block", .meth "BodyForm" "are_args"]
def fa9 : List Fa := [.meth "BodyForm" "may_begin", .meth "BodyForm" "are_parts", .meth "BodyForm" "is_part", .exm "NotLetBy" "NotLetBy" true]
def fa : List Fa := fa0 ++ (fa1 ++ (fa2 ++ (fa3 ++ (fa4 ++ (fa5 ++ (fa6 ++ (fa7 ++ (fa8 ++ (fa9)))))))))
abbrev R : PySem.W.OpenRow := PySem.W.OpenLaw.row PySem.Challenge.rw_movedrun_k05_heads_looked_at
def file0 : Str := R.prog.main.file
def ts : List He.Tab := [(fun K => ga K "EXPRESSIONS", ["int", "truth", "text", "nil", "name", "get", "at", "call", "ask", "new", "row", "op", "not", "is", "as", "size", "sign", "tell", "read"]), (fun K => ga K "STATEMENTS", ["var", "set", "put", "place", "if", "while", "return", "throw", "try", "show", "do"]), (fun K => ga K "LEAF_KINDS", ["int", "truth", "text", "nil", "read"]), (fun K => ga K "STATEMENT_RULES", ["var", "set", "put", "place", "if", "while", "return", "throw", "try", "show", "do"])]
def exL : List (Str × List Str) := [("int", ["int"]), ("truth", ["truth"]), ("text", ["text"]), ("nil", []), ("read", []), ("name", ["known"]), ("get", ["expression", "name"]), ("at", ["expression", "expression"]), ("call", ["name", "args"]), ("ask", ["expression", "name", "args"]), ("new", ["name"]), ("row", ["entry", "expression"]), ("op", ["sign", "expression", "expression"]), ("not", ["expression"]), ("is", ["expression", "name"]), ("as", ["expression", "name"]), ("size", ["expression"]), ("sign", ["expression", "expression"]), ("tell", ["expression"])]
def stL : List (Str × List Str) := [("var", ["name", "kind", "expression"]), ("set", ["name", "expression"]), ("put", ["expression", "name", "expression"]), ("place", ["expression", "expression", "expression"]), ("if", ["expression", "block", "block"]), ("while", ["expression", "block"]), ("return", ["value"]), ("throw", ["expression"]), ("try", ["block", "name", "name", "block"]), ("show", ["expression"]), ("do", ["expression"])]
theorem ex_in (e : Ex) : (e.word, e.sorts) ∈ exL := by cases e <;> (simp only [Ex.word, Ex.sorts]; decide +kernel)
theorem st_in (e : PV.St) : (e.word, e.sorts) ∈ stL := by cases e <;> (simp only [PV.St.word, PV.St.sorts]; decide +kernel)
def NB (K : PySem.W.Frag) : Addr := ga K "NotLetBy"
def NI (K : PySem.W.Frag) : Addr := ma K (NB K) "__init__"
def xb1 (K : PySem.W.Frag) : Bool := tupA K (ga K "PLAIN_KINDS") (plainK.map V.str) && (tupA K (ga K "WORDS") (words.map V.str) && (tupA K (ga K "SIGNS") (signs.map V.str) && (tabB K (ga K "EXPRESSIONS") exL && tabB K (ga K "STATEMENTS") stL)))
def xb2 (K : PySem.W.Frag) : Bool := He.valsB K (ga K "LEAF_KINDS") [("truth", .str "truth")] && He.valsB K (ga K "STATEMENT_RULES") [("while", .glo "look_at_while")]
def xb3 (K : PySem.W.Frag) : Bool := xfB K (NB K) && (clsB K (NB K) && (decide (PySem.W.findIn K (.ref (NB K)) "__setattr__" = some (some (.builtin "object.__setattr__"))) && (decide (PySem.W.typeIn K (.ref (NI K)) = some (.type "function")) && (refC K (NI K) && (PySem.W.codeIn K (.ref (cdaOf K (NI K))) "NotLetBy.__init__" && codB K (cdaOf K (NI K)) file0)))))
def xb4 (K : PySem.W.Frag) : Bool := celB K (ccOf K (NI K)) (NB K) && (decide (PySem.W.ks_superIn K (NB K) (NB K) "__init__" = some (some (.builtin "ValueError.__init__"))) && (decide (PySem.W.nsIn K cStatics "thirdparty.any" = some none) && (decide (PySem.W.subIn K (.ref (NB K)) (.type "ValueError") = some true) && (PySem.W.keepIn K (.ref (NB K)) && (decide (PySem.W.typeIn K (.ref (NB K)) = some (.type "type")) && decide (PySem.W.findIn K (.ref (NB K)) "__init__" = some (some (.ref (NI K)))))))))
def xb (K : PySem.W.Frag) : Bool := xb1 K && (xb2 K && (xb3 K && xb4 K))
abbrev Ob : Type := He.Al × (List (Option (List (Option (Str × Int)))) × (Bool × FnI))
def obs (K : PySem.W.Frag) : Ob := (He.obsE fa fn K, (ts.map fun t => He.dicW K (t.1 K), (xb K, fnI K (NI K))))
def val (w : World) : Ob := (He.valE fn, (ts.map fun t => some (He.keysIn w.params t.2), (true, (some ("__init__", "NotLetBy.__init__", defArgs s_NotLetBy_init, .stmts (defBody s_NotLetBy_init), defScope s_NotLetBy_init, mainGlobals, ["__class__"], .none, .none, builtinsNs) : FnI))))
/-- what an object leads to -/
def leads (o : Obj) : List Addr := match o.data with
  | .dict es _ => es.toList.flatMap fun e => He.refV e.val
  | .func fd => He.refV fd.code ++ fd.closure.map (·.2)
  | .cls cd => cd.ns :: cd.mro.flatMap He.refV
  | _ => []
def onFrom (g : Addr → Option Obj) (as : List Addr) : List Addr := as.flatMap fun a => match g a with
  | some o => leads o
  | none => []
def layers (g : Addr → Option Obj) : Nat → List Addr → List Addr
  | 0, as => as
  | n + 1, as => as ++ layers g n (onFrom g as)
def at_ (g : Addr → Option Obj) : List Addr := cStatics :: layers g 4 [mainGlobals]
def obsG (g : Addr → Option Obj) : Ob := obs (He.frG g (at_ g))
def Says (w : World) (K : PySem.W.Frag) : Prop := obs K = val w
def hook : PySem.W.Hook where
  α := Ob
  obs := fun s => obsG s.heap.get?
  val := fun w => val w
  says := fun w h => ∃ K : PySem.W.Frag, K.In h ∧ Says w K
  of := fun _ _ e => ⟨_, He.frG_in, e⟩
  keeps := fun _ _ _ ⟨K, hK, c⟩ k => ⟨K, PySem.W.Frag.In.keeps hK k, c⟩
def ob (s : PySem.W.SharedT) : Ob := obsG (HandSHeadRun.getT s)
theorem ob_eq (s : PySem.W.SharedT) : ob s = hook.obs s.abs := by
  have e : HandSHeadRun.getT s = s.abs.heap.get? := funext (HandSHeadRun.getT_eq s)
  unfold ob
  rw [e]
  rfl
def names0 : List PySem.Str := ["__name__", "MachineError", "BadForm", "NotLetBy", "__name__", "NIL", "class_of", "entry_of", "is_reference", "Family", "__name__", "SHOWN_KINDS"]
def names1 : List PySem.Str := ["LEAF_KINDS", "BodyLook", "look_at_body", "is_ended", "ends_block", "look_at_block", "look_at_var", "look_at_set", "look_at_put", "look_at_place", "look_at_if", "look_at_while"]
def names2 : List PySem.Str := ["look_at_return", "look_at_throw", "look_at_try", "look_at_show", "look_at_do", "kind_of", "look_for_fit", "look_for_one_of", "look_for_object", "look_for_row", "kind_of_name", "kind_of_get"]
def names3 : List PySem.Str := ["kind_of_at", "kind_of_call", "kind_of_ask", "kind_of_result", "kind_of_new", "kind_of_row", "kind_of_op", "kind_of_sum", "kind_of_same", "kind_of_not", "kind_of_is", "kind_of_as"]
def names4 : List PySem.Str := ["look_for_line", "kind_of_size", "kind_of_sign", "kind_of_tell", "STATEMENT_RULES", "EXPRESSION_RULES", "__name__", "LEAST_INT", "GREATEST_INT", "LETTERS", "DIGITS", "MOST_NAME_SIGNS"]
def names5 : List PySem.Str := ["MOST_TEXT_SIGNS", "MOST_ROWS", "MOST_ENTRY_ROWS", "WORDS", "PLAIN_KINDS", "is_integer", "is_between", "is_tuple_to", "is_tuple_of", "is_name", "is_kind", "is_signs"]
def names6 : List PySem.Str := ["is_short_text", "STATEMENTS", "EXPRESSIONS", "SIGNS", "__name__", "MOST_IN_BODY", "MOST_IN_CHAIN", "MOST_NAMES_TOLD", "MOST_TRIES", "is_body", "is_leaf", "BodyForm"]
def names7 : List PySem.Str := ["__name__", "MOST_CLASSES", "MOST_FUNCTIONS", "MOST_FIELDS", "MOST_METHODS", "MOST_PARAMS", "is_program", "is_class", "are_functions", "is_function", "are_named_kinds", "__name__"]
def names8 : List PySem.Str := ["check", "checked", "look_at_classes", "look_at_fields", "look_at_methods", "look_at_functions", "look_at_head", "look_at_override", "head_kinds", "look_for_main", "__name__", "_law_feed"]
def names9 : List PySem.Str := ["_law_draw", "_law_one", "_law_words", "_law_name", "_law_kind", "_law_signs", "_law_alike", "_law_told", "_law_some", "_law_kind_in", "_law_pairs", "_law_head"]
def names10 : List PySem.Str := ["_law_heads", "_law_above", "_law_lacks", "_law_wrong_classes", "_law_wrong_heads"]
def names : List PySem.Str := names0 ++ (names1 ++ (names2 ++ (names3 ++ (names4 ++ (names5 ++ (names6 ++ (names7 ++ (names8 ++ (names9 ++ (names10))))))))))
abbrev qv : Program := PySem.W.view R.prog [125]
end HX

namespace HX
open PySem PySem.W PySem.Calls PyProof.Rows HandSHeadRun
set_option maxHeartbeats 0 in
theorem run0 (w : World) : RunEq R qv hook ob 15000 names (w.withFollow "special-get-raises" false) := by
  intro os
  kernel_rfl
set_option maxHeartbeats 0 in
theorem run1 (w : World) : RunEq R qv hook ob 15000 names (w.withFollow "special-get-raises" true) := by
  intro os
  kernel_rfl
theorem run (w : World) : RunEq R qv hook ob 15000 names w :=
  byRow2 "special-get-raises" (P := fun w => HandSHeadRun.RunEq R qv hook ob 15000 names w) run0 run1 w
end HX

/-! Data (none, bools, ints, texts, tuples of such) in an f-string: some bounded text. -/
namespace KB
open PySem PySem.Spec PyProof.Rows L2
/-- x is shown as some text of at most n signs; d: how deep -/
def Shows (prog : Program) (w : World) (h0 : Heap) (d n : Nat) (x : Value) : Prop :=
  ∀ b, b + n ≤ sizeLine → ∀ (A : Around) (E : Value → Shared → Prop) (s : Shared) (Q : Str → Shared → Prop), A.units + d < cLine → (∀ c o, h0.get? c = some o → s.heap.get? c = some o) →
    (∀ t tk, t.length ≤ n → Q t { s with toks := tk }) → wpAny (model prog w) A (pyReprUnder b x) Q E s
section
variable {prog : Program} {w : World} {h0 : Heap} {d n : Nat}
theorem Shows.of_is {x : Value} {t : Str} (h : ReprIs prog w x t) (hl : t.length ≤ n) : Shows prog w h0 d n x := fun b hb A E s Q _ _ hQ => h b (by omega) A E s Q fun tk => hQ t tk hl
theorem fold_some {A : Around} {E : Value → Shared → Prop} (hu : A.units + d < cLine) : ∀ (l : List Value) (acc : Array Str) (m : Nat) (s : Shared) (Q : (Array Str × Nat) → Shared → Prop), (∀ x ∈ l, Shows prog w h0 d n x) → m + l.length * (n + 2) ≤ sizeLine →
    (∀ c o, h0.get? c = some o → s.heap.get? c = some o) → (∀ ts : List Str, ts.length = l.length → piled ts ≤ l.length * (n + 2) → ∀ tk, Q ⟨acc ++ ts.toArray, m + piled ts⟩ { s with toks := tk }) →
    wpAny (model prog w) A (forIn l (⟨acc, m⟩ : (Array Str × Nat)) tupBody) Q E s := by
  intro l
  induction l with
  | nil =>
    intro acc m s Q _ _ _ h
    have h1 := h [] rfl (Nat.zero_le _) s.toks
    simp only [List.forIn_nil]
    exact wpAny_pure (by simpa [piled] using h1)
  | cons x l ih =>
    intro acc m s Q hT hn hk h
    rw [List.length_cons, Nat.succ_mul] at hn
    rw [List.forIn_cons]
    refine wpAny_bind (wpAny_bind (hT x List.mem_cons_self (m + 1) (by omega) A E s _ hu hk fun t tk ht => wpAny_pure ?_))
    refine ih (acc.push t) (m + (t.length + 2)) { s with toks := tk } Q (fun y hy => hT y (List.mem_cons_of_mem _ hy)) (by omega) hk fun ts hl hp tk2 => ?_
    have h1 := h (t :: ts) (by rw [List.length_cons, List.length_cons, hl]) (by rw [piled_cons, List.length_cons, Nat.succ_mul]; omega) tk2
    have e : m + piled (t :: ts) = m + (t.length + 2) + piled ts := by rw [piled_cons]; omega
    rw [e] at h1
    simpa using h1
theorem text_some (ts : List Str) {k : Nat} (hl : ts.length ≤ k) (hp : piled ts ≤ k * (n + 2)) : (tupleText ts).length ≤ k * (n + 2) + 5 := by
  have e := fmt_text ts
  omega
theorem rest_some {A : Around} {E : Value → Shared → Prop} {s : Shared} {a : Addr} {o : Obj} {items : Array Value} {k b : Nat} {Q : Fin → Shared → Prop} (hu : A.units + d < cLine) (ha : s.heap.get? a = some o) (hd : o.data = .seq items k)
    (hT : ∀ x ∈ items.toList, Shows prog w h0 d n x) (hk : ∀ c o, h0.get? c = some o → s.heap.get? c = some o) (hsz : b + (items.size * (n + 2) + 5) ≤ sizeLine)
    (h : ∀ t u tk, t.length ≤ items.size * (n + 2) + 5 → Q (.done (.ret (.str t u))) { s with toks := tk }) :
    wpAny (model prog w) A (tupleReprRest b (.ref a)) Q E s := by
  have hsl : items.toList.length = items.size := by simp
  unfold tupleReprRest Builtin.Tuple.tupleItemsOf
  refine wpAny_bind (wpAny_bind (wpAny_seqItems ha hd (wpAny_pure ?_)))
  rw [← Array.forIn_toList]
  refine wpAny_bind (fold_some (n := n) (h0 := h0) hu items.toList _ _ _ _ hT (by rw [hsl]; omega) hk fun ts hl hp tk => ?_)
  rw [hsl] at hl hp
  have ht := text_some (n := n) ts (Nat.le_of_eq hl) hp
  have e1 : (("(" : Str) ++ Str.join ", " ts.toArray.toList ++ (if items.size == 1 then ",)" else ")" : String)) = tupleText ts := by unfold tupleText; rw [hl]
  refine wpAny_bind (wpAny_mkStr (wpAny_pure ?_) ?_)
  · have h1 := h (tupleText ts) tk (tk + 1) ht
    simpa [tupleText, hl] using h1
  · simpa [tupleText, hl] using (show (tupleText ts).length ≤ sizeLine by omega)
theorem at_some {A : Around} {E : Value → Shared → Prop} {s : Shared} {a : Addr} {o : Obj} {items : Array Value} {k b : Nat} {Q : Fin → Shared → Prop} (hu : A.units + d < cLine) (ha : s.heap.get? a = some o) (hd : o.data = .seq items k)
    (hT : ∀ x ∈ items.toList, Shows prog w h0 d n x) (hk : ∀ c o, h0.get? c = some o → s.heap.get? c = some o) (hsz : b + (items.size * (n + 2) + 5) ≤ sizeLine)
    (h : ∀ t u tk, t.length ≤ items.size * (n + 2) + 5 → Q (.done (.ret (.str t u))) { s with toks := tk }) :
    wpAny (model prog w) A (Builtin.tupleReprAt b ⟨[.ref a], []⟩) Q E s := by
  rw [tuple_repr_tree]
  refine wpAny_bind (fmt_underWay fun y => ?_)
  cases y with
  | true =>
    refine PySem.W.KFB.if_so rfl ?_
    refine wpAny_bind (wpAny_rule ?_)
    refine wpAny_bind (wpAny_mkStr (wpAny_pure ?_) (by decide +kernel))
    exact h "(...)" _ _ (Nat.le_trans fmt_way (Nat.le_add_left _ _))
  | false =>
    refine PySem.W.KFB.if_not rfl ?_
    exact rest_some hu ha hd hT hk hsz h
theorem Shows.tup {a : Addr} {o : Obj} {items : Array Value} {k : Nat} (ha : h0.get? a = some o) (hc : o.cls = .type "tuple") (hd : o.data = .seq items k) (hT : ∀ x ∈ items.toList, Shows prog w h0 d n x) :
    Shows prog w h0 (d + 1) (items.size * (n + 2) + 5) (.ref a) := by
  intro b hb A E s Q hu hk hQ
  have ho := hk _ _ ha
  refine wpAny_pyReprUnder_ref (by omega) (wpAny_pyReprObjUnder_twin (twin := "tuple.__repr__.under") ⟨o, ho, hc⟩ F.slot_tuple_repr rfl (by omega) ?_)
  refine call_twin_own (F.quiet_tuple_repr_under _) F.entry_tuple_repr_under F.check_tuple_repr_under ⟨o, ho, hc⟩ F.slot_tuple_repr (F.args_tuple_repr_1 _) (wpOwn_of_wpAny ?_)
  refine at_some (n := n) (h0 := h0) (d := d) ?_ ho hd hT hk hb fun t u tk ht => ⟨⟨_, _, rfl⟩, _, _, rfl, hQ t tk ht⟩
  first
    | (show A.units + 1 + d < cLine; omega)
    | omega
/-- {t}, a tuple of what is shown -/
theorem field_tup {A : Around} {E : Value → Shared → Prop} {s : Shared} {a : Addr} {o : Obj} {items : Array Value} {k : Nat} {Q : Value → Shared → Prop} (hu : A.units + (d + 4) < cLine) (ha : s.heap.get? a = some o) (hc : o.cls = .type "tuple") (hd : o.data = .seq items k)
    (hT : ∀ x ∈ items.toList, Shows prog w s.heap d n x) (hsz : items.size * (n + 2) + 5 ≤ sizeLine) (h : ∀ m u tk, m.length ≤ items.size * (n + 2) + 5 → Q (.str m u) { s with toks := tk }) : wpAny (model prog w) A (formatField (.ref a) Str.empty) Q E s := by
  refine wpAny_formatField_slot (fun _ _ => nofun) (by omega) ⟨o, ha, hc⟩ F.slot_tuple_format F.slot_tuple_str F.slot_tuple_repr ?_
  refine wpAny_call (codeAny_call_builtin_own (Code.quiet_builtin _ (by decide +kernel)) F.entry_tuple_repr (F.slot_tuple_repr.check _ _ _ _ _ _ _ _ ⟨o, ha, hc⟩ (F.args_tuple_repr_1 _) (wpOwn_of_wpAny ?_)))
  show wpAny _ _ (Builtin.tupleReprAt 0 ⟨[.ref a], []⟩) _ _ _
  refine at_some (n := n) (h0 := s.heap) (d := d) ?_ ha hd hT (fun _ _ e => e) (by omega) fun t u tk ht => ⟨_, _, rfl, h t u tk ht⟩
  first
    | (show A.units + 1 + 1 + 1 + d < cLine; omega)
    | omega
end
end KB

/-! An own error class whose __init__ says super().__init__(text) and stores its fields. -/
namespace KC
open PySem PySem.W PySem.Calls PyProof.Rows PySem.HandSPX
section
variable {prog : Program} {w : World} {A : Around} {E : Value → Shared → Prop} {K : Frag} {mg : Str → Option Value}
/-- what the written part says of such a class (at C; its __init__ at f, with the code cda and the cell cc) -/
structure ErrC (prog : Program) (K : Frag) (mg : Str → Option Value) (C f cda cc : Addr) (qual : Str) (params : Arguments) (body : List Stmt) (scope : Scope) : Prop where
  cls : ∃ nm q N bs bm sn sub ab col dd k0 k1 k2 k3 k5, K.lookup C = some (excClassObj nm q C N bs bm true sn sub ab col dd k0 k1 k2 k3 k5 "ValueError.__new__") ∧ refsVE bm = true
  sa : findIn K (.ref C) "__setattr__" = some (some (.builtin "object.__setattr__"))
  ic : findIn K (.ref C) "__init__" = some (some (.ref f))
  tf : typeIn K (.ref f) = some (.type "function")
  fn : ∃ (oc doc pm ct : Value) (od an : Option Addr) (osl : Array (Option Value)), K.lookup f = some ⟨oc, od, .func (ksFn "__init__" qual params body scope .none .none doc pm an (.ref cda) ct cc), osl⟩
  cd : codeIn K (.ref cda) qual = true
  code : ∃ (ccl : Value) (cdd : Option Addr) (vs : Array Value) (ccs : Array (Option Value)) (file : Str) (tf : Tok), K.lookup cda = some ⟨ccl, cdd, .fields vs, ccs⟩ ∧ vs[2]? = some (.str file tf) ∧ ((prog.main.file : Str) == file) = true
  cell : ∃ (cl : Value) (cld : Option Addr) (csl : Array (Option Value)), K.lookup cc = some ⟨cl, cld, .cell (some (.ref C)), csl⟩
  sup : ks_superIn K C C "__init__" = some (some (.builtin "ValueError.__init__"))
  opq : nsIn K cStatics "thirdparty.any" = some none
  nosup : mg "super" = none
  subV : subIn K (.ref C) (.type "ValueError") = some true
  kC : keepIn K (.ref C) = true
  top : (prog.main.scope.names.lookup ("super" : Str)).isSome = false
theorem super_stmt {x C f cda cc L t0 : Addr} {qual : Str} {params : Arguments} {body : List Stmt} {scope : Scope} {p0 p1 p2 p3 p4 : Pos} {e : Expr} {m : Str → Option Value} {s : Shared} {Q : Flow → Shared → Prop} {ar : Arg} {pl : Sem Bool}
    (T : ErrC prog K mg C f cda cc qual params body scope) (X : K.In s.heap) (hg : s.heap.Ns mainGlobals mg) (hb : ∃ mb, s.heap.Ns builtinsNs mb ∧ ∀ y : Str, y ≠ "__name__" → mb y = bootBuiltins y)
    (hx : s.heap.get? x = some (excO C t0)) (ns : s.heap.Ns L m) (hp : (params.posonlyargs ++ params.args).head? = some ar) (hm : m ar.arg = some (.ref x))
    (hks : scope.names.lookup ("super" : Str) = some .globalImplicit) (hkc : scope.names.lookup ("__class__" : Str) = some .free) (hka : scope.names.lookup ar.arg = some .local) (hk : scope.kind = .function)
    (harg : ∀ (h1 : Heap) (tk : Nat), (∀ b o, s.heap.get? b = some o → h1.get? b = some o) → ∀ R : Value → Shared → Prop, (∀ z u tk', R (.str z u) { s with heap := h1, toks := tk' }) → wpAny (model prog w) A (eval e (ksEnv qual scope L f (.ref cda) cc)) R E { s with heap := h1, toks := tk })
    (hq : ∀ h' tk t1, (∀ b o, b ≠ x → s.heap.get? b = some o → h'.get? b = some o) → h'.get? x = some (excO C t1) → Q .next { s with heap := h', toks := tk })
    (he : starEach [e] (ksEnv qual scope L f (.ref cda) cc) = (false, eval e (ksEnv qual scope L f (.ref cda) cc)) :: starEach [] (ksEnv qual scope L f (.ref cda) cc) := by rfl)
    (hc : eval (.Call (.Attribute (.Call (.Name "super" p0) [] [] p1) "__init__" p2) [e] [] p3) (ksEnv qual scope L f (.ref cda) cc) = (do
      let ov ← attributeBase (.Call (.Name "super" p0) [] [] p1) "__init__" (ksEnv qual scope L f (.ref cda) cc) (eval (.Call (.Name "super" p0) [] [] p1) (ksEnv qual scope L f (.ref cda) cc))
      standAt p2.atName
      let (f', first) ← holding [ov] (getMethod ov "__init__" pl)
      callWith p3 f' first (backTo p3 (starEach [e] (ksEnv qual scope L f (.ref cda) cc))) []) := by rfl)
    (hi : interactive (ksEnv qual scope L f (.ref cda) cc) = false := by rfl) (hs : swapsWith (.Call (.Attribute (.Call (.Name "super" p0) [] [] p1) "__init__" p2) [e] [] p3) none p4.line (ksEnv qual scope L f (.ref cda) cc) = pure false := by rfl) :
    _root_.PySem.wpAt (model prog w) A (.func body (ksEnv qual scope L f (.ref cda) cc)) (exec (.Expr (.Call (.Attribute (.Call (.Name "super" p0) [] [] p1) "__init__" p2) [e] [] p3) p4) (ksEnv qual scope L f (.ref cda) cc)) Q E s := by
  have xI : ∀ {h : Heap}, h.get? x = some (excO C t0) → InstAt h x (excO C t0) C none := fun h => ⟨h, rfl, rfl, trivial⟩
  obtain ⟨nm, q, N, bs, bm, sn, sub, ab, col, dd, k0, k1, k2, k3, k5, hC, hbm⟩ := T.cls
  have hcl : clsIn K C = some { name := nm, bases := bs, mro := .ref C :: bm, ns := N, qualname := q, hasDict := true, slotNames := sn, subclasses := sub, abstract := ab, collection := col, hasDel := false } := by unfold clsIn; rw [hC] <;> rfl
  obtain ⟨oc, doc, pm, ct, od, an, osl, hf⟩ := T.fn
  obtain ⟨ccl, cdd, vs, ccs, file, tfk, hcode, hvs, hfile⟩ := T.code
  obtain ⟨cl, cld, csl, hcell⟩ := T.cell
  obtain ⟨mb, hb1, hb2⟩ := hb
  obtain ⟨hh, g, d, t, os⟩ := s
  have hbm' : ∀ Y : String, bm.contains (.type Y) = veTail.contains (.type Y) := fun Y => refsVE_contains Y bm hbm
  refine ks_wpAt_Expr_any ?_ hi hs
  refine ks_wpAt_MethodCall (pl := pl) ?_ hc
  refine ks_wpAt_super_base (env := ksEnv qual scope L f (.ref cda) cc) hks hkc (by decide) rfl (X _ _ hf) rfl hp rfl (X _ _ hcode) rfl hvs hfile T.top ?_
  refine ks_loadName_global hk hks (loadGlobal_builtin (env := ksEnv qual scope L f (.ref cda) cc) hg T.nosup hb1 ((hb2 _ (by decide +kernel)).trans (by decide +kernel)) ⟨rfl, ?_⟩)
  refine wpAny_loadName_free hk hkc rfl ⟨_, X _ _ hcell, rfl⟩ ?_
  refine wpAny_loadName_local hk hka ns hm ?_
  refine ks_wpAny_isType_cls (X _ _ hC) rfl ⟨rfl, ?_⟩
  have hsub : Looks (model prog w) hh (isSubtype (.ref C) (.ref C)) true := looks_mroIn X (by
    unfold mroIn
    rw [hcl, Option.bind_some]
    simp)
  refine ks_wpAny_call_super (X _ _ hC) rfl hx rfl (fun c z => nomatch z) hsub (fun h1 e1 k1 => ?_)
  -- .__init__
  have X1 : K.In h1 := X.keeps k1
  have hI : Looks (model prog w) h1 (isInstance (.ref x) (.type "ValueError")) true := (xI (k1 _ _ hx)).type.andThen (looks_subIn X1 T.subV)
  have hsup : alongIn K "__init__" ((((Value.ref C :: bm) : List Value).dropWhile (· != .ref C)).drop 1) = some (some (.builtin "ValueError.__init__")) := by
    have z := T.sup
    unfold ks_superIn at z
    rw [hcl] at z
    exact z
  refine kxs_getMethod kxs_ValueError e1 (looks_opaque X1 T.opq) (l₀ := .ref C :: bm) ?_ rfl X1 hsup hI (ks_ne X (xI hx) hcl) (by decide) ?_
  · exact fun A Q E s k q => wpAny_bind ((looks_clsIn X1 hcl) A _ E s k (wpAny_pure q))
  have k2 : ∀ b o, hh.get? b = some o → (h1.push (kxs_mw "ValueError.__init__" x)).get? b = some o := fun b o z => Heap.get?_push_of_some _ (k1 b o z)
  have hu : (h1.push (kxs_mw "ValueError.__init__" x)).get? h1.objs.size = some (kxs_mw "ValueError.__init__" x) := Heap.get?_push_size _ rfl
  show wpAny _ _ (callWith p3 (.ref h1.objs.size) [] (backTo p3 (starEach [e] (ksEnv qual scope L f (.ref cda) cc))) []) _ _ _
  rw [he]
  refine kxs_callWith (i := "ValueError.__init__") (x := x) (by rfl) ?_
  refine evalArgs_plain ?_
  show wpAny _ _ (spliced ((false, eval e (ksEnv qual scope L f (.ref cda) cc)) :: backTo p3 (starEach [] (ksEnv qual scope L f (.ref cda) cc)))) _ _ _
  refine Calls.spliced_cons (harg _ _ k2 _ fun z u tk' => ?_)
  refine Calls.spliced_nil ⟨hu, ?_⟩
  show wpAny _ _ (call (.ref h1.objs.size) [.str z u]) _ _ _
  refine wpAny_call (codeAny_of_tree ?_)
  show wpAny _ _ (callAny (.ref h1.objs.size) ⟨[.str z u], []⟩) _ _ _
  simp only [callAny]
  refine wpAny_bind (wpAny_load hu ?_)
  simp only [kxs_mw, show (Value.type "method-wrapper" == Value.type "method" || Value.type "method-wrapper" == Value.type "builtin_function_or_method" || Value.type "method-wrapper" == Value.type "method-wrapper") = true by decide, if_true]
  refine KFB.if_so (by decide) ?_
  have X2 : K.In (h1.push (kxs_mw "ValueError.__init__" x)) := X.keeps k2
  refine wpAny_bind (check_bound_init PySem.F.excBase_ValueError.toExcCallFacts (X2 _ _ hC) (k2 _ _ hx) rfl ?_)
  refine wpAny_bind (wpAny_pure (wpAny_pure ?_))
  refine ⟨plainId_quiet PySem.F.excBase_ValueError.init.plain _, codeAny_builtin PySem.F.excBase_ValueError.initEntry ?_⟩
  refine exc_init_tree (cls := .ref C) (t0 := t0) (dv := none) (c2 := .none) (c3 := .none) (b4 := .bool false) (k2 _ _ hx) (by show 1 ≤ sizeLine; decide) fun h3 k3 e3 t3 => ?_
  exact hq h3 _ _ (fun b o hb z => k3 b o hb (k2 b o z)) e3
end
end KC

namespace KC
open PySem PySem.W PySem.Calls PyProof.Rows PySem.HandSPX
/-- an error's object with its own dict at dx -/
abbrev excD (C t dx : Addr) : Obj := { cls := .ref C, dict := some dx, data := .fields #[.ref t, .none, .none, .none, .bool false, .none] }
/-- what __init__ leaves of a fresh error at x: its fields fs -/
structure Made (h h' : Heap) (x C dx t1 : Addr) (fs : Str → Option Value) : Prop where
  keep : ∀ b o, b ≠ x → h.get? b = some o → h'.get? b = some o
  obj : h'.get? x = some (excD C t1 dx)
  big : h.objs.size ≤ dx
  ne : dx ≠ x
  ns : h'.Ns1 dx fs
section
variable {prog : Program} {w : World} {A : Around} {E : Value → Shared → Prop} {K : Frag} {mg : Str → Option Value}
theorem ErrC.clsIn {C f cda cc : Addr} {qual : Str} {params : Arguments} {body : List Stmt} {scope : Scope} (T : ErrC prog K mg C f cda cc qual params body scope) :
    ∃ cd : ClassData, clsIn K C = some cd ∧ refsVE cd.mro = true ∧ cd.hasDict = true := by
  obtain ⟨nm, q, N, bs, bm, sn, sub, ab, col, dd, k0, k1, k2, k3, k5, hC, hbm⟩ := T.cls
  refine ⟨{ name := nm, bases := bs, mro := .ref C :: bm, ns := N, qualname := q, hasDict := true, slotNames := sn, subclasses := sub, abstract := ab, collection := col, hasDel := false }, ?_, hbm, rfl⟩
  unfold W.clsIn
  rw [hC] <;> rfl
/-- self.fld = prm, the first one -/
theorem store_first {x C f cda cc L t0 : Addr} {qual fld prm : Str} {params : Arguments} {body rest : List Stmt} {scope : Scope} {q1 q2 q3 q4 : Pos} {m : Str → Option Value} {s : Shared} {Q : Flow → Shared → Prop} {v : Value}
    (T : ErrC prog K mg C f cda cc qual params body scope) (X : K.In s.heap) (hx : s.heap.get? x = some (excO C t0)) (ns : s.heap.Ns L m) (hself : m "self" = some (.ref x)) (hprm : m prm = some v) (hno : findIn K (.ref C) fld = some none)
    (hk : scope.kind = .function) (hl1 : scope.names.lookup ("self" : Str) = some .local) (hl2 : scope.names.lookup prm = some .local)
    (hq : ∀ h' tk dx, Made s.heap h' x C dx t0 (fun y => if y = fld then some v else none) → Q .next { s with heap := h', toks := tk })
    (hd1 : (prm == ("__debug__" : Str)) = false := by decide)
    (hs : swapsWith (.Name prm q3) (some (.Attribute (.Name "self" q1) fld q2)) q4.line (ksEnv qual scope L f (.ref cda) cc) = pure false := by rfl) :
    wpAny (model prog w) A (exec (.Assign [.Attribute (.Name "self" q1) fld q2] (.Name prm q3) q4) (ksEnv qual scope L f (.ref cda) cc)) Q E s := by
  obtain ⟨cd, hcl, hbm, hhd⟩ := T.clsIn
  refine plainObj_wpAny_Assign_Attribute ?_ hs
  refine wpAny_Name (wpAny_loadName_local hk hl2 ns hprm ?_) hd1
  refine wpAny_Name (wpAny_loadName_local hk hl1 ns hself ?_) (by decide)
  refine set_plain X (ox := excO C t0) (od := none) ⟨hx, rfl, rfl, trivial⟩ T.sa ?_
  refine exc_osa X hx hcl hbm hhd hno (fun h₃ tk₃ dx k₃ dn dne hx₃ hn₃ => ?_)
  exact hq h₃ tk₃ dx ⟨k₃, hx₃, dn, dne, hn₃⟩
/-- self.fld = prm, a further one -/
theorem store_more {x C f cda cc L t0 dx : Addr} {qual fld prm : Str} {params : Arguments} {body rest : List Stmt} {scope : Scope} {q1 q2 q3 q4 : Pos} {m m0 : Str → Option Value} {nl : List Str} {s : Shared} {Q : Flow → Shared → Prop} {v : Value}
    (T : ErrC prog K mg C f cda cc qual params body scope) (X : K.In s.heap) (hx : s.heap.get? x = some (excD C t0 dx)) (hdx : s.heap.Ns1 dx m0) (hw : Within m0 nl) (hz : nl.length ≤ 1000) (ns : s.heap.Ns L m) (hself : m "self" = some (.ref x)) (hprm : m prm = some v) (hno : findIn K (.ref C) fld = some none)
    (hk : scope.kind = .function) (hl1 : scope.names.lookup ("self" : Str) = some .local) (hl2 : scope.names.lookup prm = some .local)
    (hq : ∀ h' tk, (∀ b o, b ≠ dx → s.heap.get? b = some o → h'.get? b = some o) → h'.Ns1 dx (fun y => if y = fld then some v else m0 y) → Q .next { s with heap := h', toks := tk })
    (hd1 : (prm == ("__debug__" : Str)) = false := by decide)
    (hs : swapsWith (.Name prm q3) (some (.Attribute (.Name "self" q1) fld q2)) q4.line (ksEnv qual scope L f (.ref cda) cc) = pure false := by rfl) :
    wpAny (model prog w) A (exec (.Assign [.Attribute (.Name "self" q1) fld q2] (.Name prm q3) q4) (ksEnv qual scope L f (.ref cda) cc)) Q E s := by
  obtain ⟨cd, hcl, hbm, hhd⟩ := T.clsIn
  obtain ⟨oD, _, _, hoD, _, _⟩ := hdx.count hw
  refine plainObj_wpAny_Assign_Attribute ?_ hs
  refine wpAny_Name (wpAny_loadName_local hk hl2 ns hprm ?_) hd1
  refine wpAny_Name (wpAny_loadName_local hk hl1 ns hself ?_) (by decide)
  refine set_plain X (ox := excD C t0 dx) (od := some oD) ⟨hx, rfl, rfl, hoD⟩ T.sa ?_
  refine PySem.OEX.osa_old X hx hdx hw hz hcl hbm hhd hno (fun h' tk' k hn => ?_)
  exact hq h' tk' k hn
/-- C.__init__(x, v): one field -/
theorem init_one {x C f cda cc t0 : Addr} {qual fld prm : Str} {params : Arguments} {scope : Scope} {p0 p1 p2 p3 p4 q1 q2 q3 q4 : Pos} {e : Expr} {s : Shared} {R : Result → Shared → Prop} {v : Value} {ar : Arg} {pl : Sem Bool}
    (T : ErrC prog K mg C f cda cc qual params [.Expr (.Call (.Attribute (.Call (.Name "super" p0) [] [] p1) "__init__" p2) [e] [] p3) p4, .Assign [.Attribute (.Name "self" q1) fld q2] (.Name prm q3) q4] scope)
    (X : K.In s.heap) (hlim : s.heap.NoLimit) (hg : s.heap.Ns mainGlobals mg) (hb : ∃ mb, s.heap.Ns builtinsNs mb ∧ ∀ y : Str, y ≠ "__name__" → mb y = bootBuiltins y)
    (hx : s.heap.get? x = some (excO C t0)) (hnx : K.lookup x = none) (hroom : A.depth < recursionLimit) (hno : findIn K (.ref C) fld = some none)
    (hbind : ∀ (doc pm ct : Value) (an : Option Addr), BindsTo s (ksFn "__init__" qual params [.Expr (.Call (.Attribute (.Call (.Name "super" p0) [] [] p1) "__init__" p2) [e] [] p3) p4, .Assign [.Attribute (.Name "self" q1) fld q2] (.Name prm q3) q4] scope .none .none doc pm an (.ref cda) ct cc) ⟨[.ref x, v], []⟩ [("self", .ref x), (prm, v)])
    (hp : (params.posonlyargs ++ params.args).head? = some ar) (har : ar.arg = "self") (hne : prm ≠ "self")
    (hks : scope.names.lookup ("super" : Str) = some .globalImplicit) (hkc : scope.names.lookup ("__class__" : Str) = some .free) (hk : scope.kind = .function) (hl1 : scope.names.lookup ("self" : Str) = some .local) (hl2 : scope.names.lookup prm = some .local)
    (hcell : ∀ x ∈ scope.names, x.2 ≠ .cell) (hco : scope.isCoroutine = false) (hgen : scope.isGenerator = false) (hd1 : (prm == ("__debug__" : Str)) = false)
    (harg : ∀ (L : Addr) (h1 : Heap) (tk : Nat) (E' : Value → Shared → Prop), (∀ b o, s.heap.get? b = some o → h1.get? b = some o) → (∃ m, h1.Ns L m ∧ m prm = some v) → ∀ Q : Value → Shared → Prop, (∀ z u tk', Q (.str z u) { s with heap := h1, toks := tk' }) →
      wpAny (model prog w) (A.deeper (ksEnv qual scope L f (.ref cda) cc)) (eval e (ksEnv qual scope L f (.ref cda) cc)) Q E' { s with heap := h1, toks := tk })
    (hq : ∀ h' tk dx t1, Made s.heap h' x C dx t1 (fun y => if y = fld then some v else none) → R (.ok (.ret .none)) { s with heap := h', toks := tk })
    (he : ∀ L, starEach [e] (ksEnv qual scope L f (.ref cda) cc) = (false, eval e (ksEnv qual scope L f (.ref cda) cc)) :: starEach [] (ksEnv qual scope L f (.ref cda) cc))
    (hc : ∀ L, eval (.Call (.Attribute (.Call (.Name "super" p0) [] [] p1) "__init__" p2) [e] [] p3) (ksEnv qual scope L f (.ref cda) cc) = (do
      let ov ← attributeBase (.Call (.Name "super" p0) [] [] p1) "__init__" (ksEnv qual scope L f (.ref cda) cc) (eval (.Call (.Name "super" p0) [] [] p1) (ksEnv qual scope L f (.ref cda) cc))
      standAt p2.atName
      let (f', first) ← holding [ov] (getMethod ov "__init__" pl)
      callWith p3 f' first (backTo p3 (starEach [e] (ksEnv qual scope L f (.ref cda) cc))) []))
    (hi : ∀ L, interactive (ksEnv qual scope L f (.ref cda) cc) = false) (hs : ∀ L, swapsWith (.Call (.Attribute (.Call (.Name "super" p0) [] [] p1) "__init__" p2) [e] [] p3) none p4.line (ksEnv qual scope L f (.ref cda) cc) = pure false)
    (hs2 : ∀ L, swapsWith (.Name prm q3) (some (.Attribute (.Name "self" q1) fld q2)) q4.line (ksEnv qual scope L f (.ref cda) cc) = pure false) :
    codeAny (model prog w) A (.call (.ref f) ⟨[.ref x, v], []⟩) R s := by
  obtain ⟨oc, doc, pm, ct, od, an, osl, hf⟩ := T.fn
  refine ks_codeAny_call_defAt (binds := [("self", .ref x), (prm, v)]) hroom (X _ _ hf) rfl hlim (codeRec_of X T.cd) rfl (hbind doc pm ct an) hcell ?_ (fun h₁ hns hk₁ => ?_) hco hgen hk
  · intro y hy
    rcases List.mem_cons.mp hy with rfl | hy
    · exact hl1
    · rcases List.mem_cons.mp hy with rfl | hy
      · exact hl2
      · exact absurd hy List.not_mem_nil
  have m1 : (List.reverse [(("self" : Str), Value.ref x), (prm, v)]).lookup ("self" : Str) = some (.ref x) := by
    have e1 : (("self" : Str) == prm) = false := beq_eq_false_iff_ne.mpr (Ne.symm hne)
    simp [List.lookup, e1]
  have m2 : (List.reverse [(("self" : Str), Value.ref x), (prm, v)]).lookup prm = some v := by simp [List.lookup]
  obtain ⟨hh, g, d, t, os⟩ := s
  have X1 : K.In h₁ := X.keeps hk₁
  obtain ⟨mb, hb1, hb2⟩ := hb
  refine ks_wpAt_execs_cons ?_
  refine super_stmt (s := ⟨h₁, g, d, _, os⟩) T X1 (hg.keeps hk₁) ⟨mb, hb1.keeps hk₁, hb2⟩ (hk₁ _ _ hx) hns hp (by rw [har]; exact m1) hks hkc (by rw [har]; exact hl1) hk (fun h2 tk k2 Q hQ => ?_) (fun h2 tk t1 k2 e2 => ?_) (he _) (hc _) (hi _) (hs _)
  · exact harg _ h2 tk _ (fun b o z => k2 b o (hk₁ b o z)) ⟨_, hns.keeps k2, m2⟩ Q hQ
  · have xL : x ≠ hh.objs.size := Nat.ne_of_lt (Heap.lt_size hx)
    have ns2 : h2.Ns hh.objs.size (fun y => (List.reverse [(("self" : Str), Value.ref x), (prm, v)]).lookup y) := by
      obtain ⟨oL, es, ep, hL, r⟩ := hns
      exact ⟨oL, es, ep, k2 _ _ (Ne.symm xL) hL, r⟩
    have k3 : ∀ b o, b ≠ x → hh.get? b = some o → h2.get? b = some o := fun b o hb z => k2 b o hb (hk₁ b o z)
    have X2 : K.In h2 := fun b o z => k3 b o (fun q => by rw [q, hnx] at z; cases z) (X b o z)
    show _root_.PySem.wpAt _ _ _ (execs _ _) _ _ _
    refine ks_wpAt_execs_cons (wpAt_of_wpAny ?_)
    refine store_first (s := ⟨h2, g, d, _, os⟩) (rest := []) T X2 e2 ns2 m1 m2 hno hk hl1 hl2 (fun h3 tk3 dx M => ?_) hd1 (hs2 _)
    show _root_.PySem.wpAt _ _ _ (execs _ _) _ _ _
    refine wpAt_of_wpAny (wpAny_execs_nil ?_)
    refine hq h3 _ dx t1 ⟨fun b o hb z => M.keep b o hb (k3 b o hb z), M.obj, ?_, M.ne, M.ns⟩
    exact Nat.le_trans (Nat.le_of_lt (show hh.objs.size < h2.objs.size from ns2.lt)) M.big
/-- C.__init__(x, v, v2): two fields -/
theorem init_two {x C f cda cc t0 : Addr} {qual fld prm fld2 prm2 : Str} {params : Arguments} {scope : Scope} {p0 p1 p2 p3 p4 q1 q2 q3 q4 r1 r2 r3 r4 : Pos} {e : Expr} {s : Shared} {R : Result → Shared → Prop} {v v2 : Value} {ar : Arg} {pl : Sem Bool} {body : List Stmt}
    (hbody : body = [.Expr (.Call (.Attribute (.Call (.Name "super" p0) [] [] p1) "__init__" p2) [e] [] p3) p4, .Assign [.Attribute (.Name "self" q1) fld q2] (.Name prm q3) q4, .Assign [.Attribute (.Name "self" r1) fld2 r2] (.Name prm2 r3) r4])
    (T : ErrC prog K mg C f cda cc qual params body scope)
    (X : K.In s.heap) (hlim : s.heap.NoLimit) (hg : s.heap.Ns mainGlobals mg) (hb : ∃ mb, s.heap.Ns builtinsNs mb ∧ ∀ y : Str, y ≠ "__name__" → mb y = bootBuiltins y)
    (hx : s.heap.get? x = some (excO C t0)) (hnx : K.lookup x = none) (hroom : A.depth < recursionLimit) (hno : findIn K (.ref C) fld = some none) (hno2 : findIn K (.ref C) fld2 = some none)
    (hbind : ∀ (doc pm ct : Value) (an : Option Addr), BindsTo s (ksFn "__init__" qual params body scope .none .none doc pm an (.ref cda) ct cc) ⟨[.ref x, v, v2], []⟩ [("self", .ref x), (prm, v), (prm2, v2)])
    (hp : (params.posonlyargs ++ params.args).head? = some ar) (har : ar.arg = "self") (hne : prm ≠ "self") (hne2 : prm2 ≠ "self") (hne3 : prm ≠ prm2)
    (hks : scope.names.lookup ("super" : Str) = some .globalImplicit) (hkc : scope.names.lookup ("__class__" : Str) = some .free) (hk : scope.kind = .function) (hl1 : scope.names.lookup ("self" : Str) = some .local) (hl2 : scope.names.lookup prm = some .local) (hl3 : scope.names.lookup prm2 = some .local)
    (hcell : ∀ x ∈ scope.names, x.2 ≠ .cell) (hco : scope.isCoroutine = false) (hgen : scope.isGenerator = false) (hd1 : (prm == ("__debug__" : Str)) = false) (hd2 : (prm2 == ("__debug__" : Str)) = false)
    (harg : ∀ (L : Addr) (h1 : Heap) (tk : Nat) (E' : Value → Shared → Prop), (∀ b o, s.heap.get? b = some o → h1.get? b = some o) → (∃ m, h1.Ns L m ∧ m prm = some v ∧ m prm2 = some v2) → ∀ Q : Value → Shared → Prop, (∀ z u tk', Q (.str z u) { s with heap := h1, toks := tk' }) →
      wpAny (model prog w) (A.deeper (ksEnv qual scope L f (.ref cda) cc)) (eval e (ksEnv qual scope L f (.ref cda) cc)) Q E' { s with heap := h1, toks := tk })
    (hq : ∀ h' tk dx t1, Made s.heap h' x C dx t1 (fun y => if y = fld2 then some v2 else if y = fld then some v else none) → R (.ok (.ret .none)) { s with heap := h', toks := tk })
    (he : ∀ L, starEach [e] (ksEnv qual scope L f (.ref cda) cc) = (false, eval e (ksEnv qual scope L f (.ref cda) cc)) :: starEach [] (ksEnv qual scope L f (.ref cda) cc))
    (hc : ∀ L, eval (.Call (.Attribute (.Call (.Name "super" p0) [] [] p1) "__init__" p2) [e] [] p3) (ksEnv qual scope L f (.ref cda) cc) = (do
      let ov ← attributeBase (.Call (.Name "super" p0) [] [] p1) "__init__" (ksEnv qual scope L f (.ref cda) cc) (eval (.Call (.Name "super" p0) [] [] p1) (ksEnv qual scope L f (.ref cda) cc))
      standAt p2.atName
      let (f', first) ← holding [ov] (getMethod ov "__init__" pl)
      callWith p3 f' first (backTo p3 (starEach [e] (ksEnv qual scope L f (.ref cda) cc))) []))
    (hi : ∀ L, interactive (ksEnv qual scope L f (.ref cda) cc) = false) (hs : ∀ L, swapsWith (.Call (.Attribute (.Call (.Name "super" p0) [] [] p1) "__init__" p2) [e] [] p3) none p4.line (ksEnv qual scope L f (.ref cda) cc) = pure false)
    (hs2 : ∀ L, swapsWith (.Name prm q3) (some (.Attribute (.Name "self" q1) fld q2)) q4.line (ksEnv qual scope L f (.ref cda) cc) = pure false)
    (hs3 : ∀ L, swapsWith (.Name prm2 r3) (some (.Attribute (.Name "self" r1) fld2 r2)) r4.line (ksEnv qual scope L f (.ref cda) cc) = pure false) :
    codeAny (model prog w) A (.call (.ref f) ⟨[.ref x, v, v2], []⟩) R s := by
  obtain ⟨oc, doc, pm, ct, od, an, osl, hf⟩ := T.fn
  refine ks_codeAny_call_defAt (body := body) (binds := [("self", .ref x), (prm, v), (prm2, v2)]) hroom (X _ _ hf) rfl hlim (codeRec_of X T.cd) rfl (hbind doc pm ct an) hcell ?_ (fun h₁ hns hk₁ => ?_) hco hgen hk
  · intro y hy
    rcases List.mem_cons.mp hy with rfl | hy
    · exact hl1
    · rcases List.mem_cons.mp hy with rfl | hy
      · exact hl2
      · rcases List.mem_cons.mp hy with rfl | hy
        · exact hl3
        · exact absurd hy List.not_mem_nil
  have m1 : (List.reverse [(("self" : Str), Value.ref x), (prm, v), (prm2, v2)]).lookup ("self" : Str) = some (.ref x) := by
    have e1 : (("self" : Str) == prm) = false := beq_eq_false_iff_ne.mpr (Ne.symm hne)
    have e2 : (("self" : Str) == prm2) = false := beq_eq_false_iff_ne.mpr (Ne.symm hne2)
    simp [List.lookup, e1, e2]
  have m2 : (List.reverse [(("self" : Str), Value.ref x), (prm, v), (prm2, v2)]).lookup prm = some v := by
    have e1 : (prm == prm2) = false := beq_eq_false_iff_ne.mpr hne3
    simp [List.lookup, e1]
  have m3 : (List.reverse [(("self" : Str), Value.ref x), (prm, v), (prm2, v2)]).lookup prm2 = some v2 := by simp [List.lookup]
  obtain ⟨hh, g, d, t, os⟩ := s
  have X1 : K.In h₁ := X.keeps hk₁
  obtain ⟨mb, hb1, hb2⟩ := hb
  show _root_.PySem.wpAt _ _ _ (execs body _) _ _ _
  generalize hbd : Code.func body = cod at *
  rw [hbody]
  subst hbd
  refine ks_wpAt_execs_cons ?_
  refine super_stmt (s := ⟨h₁, g, d, _, os⟩) T X1 (hg.keeps hk₁) ⟨mb, hb1.keeps hk₁, hb2⟩ (hk₁ _ _ hx) hns hp (by rw [har]; exact m1) hks hkc (by rw [har]; exact hl1) hk (fun h2 tk k2 Q hQ => ?_) (fun h2 tk t1 k2 e2 => ?_) (he _) (hc _) (hi _) (hs _)
  · exact harg _ h2 tk _ (fun b o z => k2 b o (hk₁ b o z)) ⟨_, hns.keeps k2, m2, m3⟩ Q hQ
  · have xL : x ≠ hh.objs.size := Nat.ne_of_lt (Heap.lt_size hx)
    have ns2 : h2.Ns hh.objs.size (fun y => (List.reverse [(("self" : Str), Value.ref x), (prm, v), (prm2, v2)]).lookup y) := by
      obtain ⟨oL, es, ep, hL, r⟩ := hns
      exact ⟨oL, es, ep, k2 _ _ (Ne.symm xL) hL, r⟩
    have k3 : ∀ b o, b ≠ x → hh.get? b = some o → h2.get? b = some o := fun b o hb z => k2 b o hb (hk₁ b o z)
    have X2 : K.In h2 := fun b o z => k3 b o (fun q => by rw [q, hnx] at z; cases z) (X b o z)
    show _root_.PySem.wpAt _ _ _ (execs _ _) _ _ _
    refine ks_wpAt_execs_cons (wpAt_of_wpAny ?_)
    refine store_first (s := ⟨h2, g, d, _, os⟩) (rest := []) T X2 e2 ns2 m1 m2 hno hk hl1 hl2 (fun h3 tk3 dx M => ?_) hd1 (hs2 _)
    have Lx : hh.objs.size < dx := Nat.lt_of_lt_of_le (show hh.objs.size < h2.objs.size from ns2.lt) M.big
    have ns3 : h3.Ns hh.objs.size (fun y => (List.reverse [(("self" : Str), Value.ref x), (prm, v), (prm2, v2)]).lookup y) := by
      obtain ⟨oL, es, ep, hL, r⟩ := ns2
      exact ⟨oL, es, ep, M.keep _ _ (Ne.symm xL) hL, r⟩
    have X3 : K.In h3 := fun b o z => M.keep b o (fun q => by rw [q, hnx] at z; cases z) (X2 b o z)
    have hw : Within (fun y => if y = fld then some v else none) [fld] := Within.cons fld v Within.nil
    show _root_.PySem.wpAt _ _ _ (execs _ _) _ _ _
    refine ks_wpAt_execs_cons (wpAt_of_wpAny ?_)
    refine store_more (s := ⟨h3, g, d, _, os⟩) (rest := []) T X3 M.obj M.ns hw (by show 1 ≤ 1000; decide) ns3 m1 m3 hno2 hk hl1 hl3 (fun h4 tk4 k4 n4 => ?_) hd2 (hs3 _)
    show _root_.PySem.wpAt _ _ _ (execs _ _) _ _ _
    refine wpAt_of_wpAny (wpAny_execs_nil ?_)
    exact hq h4 _ dx t1 ⟨fun b o hb z => k4 b o (Nat.ne_of_lt (Nat.lt_trans (Heap.lt_size z) Lx)) (M.keep b o hb (k3 b o hb z)), k4 _ _ M.ne.symm M.obj, Nat.le_of_lt Lx, M.ne, n4⟩
end
end KC

namespace KE0
open PySem PySem.Spec PyProof.Rows L2
/-! ### data that an f-string shows -/
/-- none, a bool, a number below 10 ^ 60, a short text, or (n deep) a tuple of at most ten such -/
inductive Dat (H : Hp) : Nat → V → Prop where
  | non {n} : Dat H n .non
  | bl {n} (b : Bool) : Dat H n (.bl b)
  | int {n} (i : Int) (h : i.natAbs < 10 ^ 60) : Dat H n (.int i)
  | str {n} (z : Str) (h : z.length ≤ 60) (hc : ∀ c ∈ z.cps.toList, c < 16 ^ 8) : Dat H n (.str z)
  | tup {n} (a : Addr) (xs : List V) (ha : H a = some (.tup xs)) (hl : xs.length ≤ 10) (hx : ∀ x ∈ xs, Dat H n x) : Dat H (n + 1) (.ref a)
theorem Dat.same {H H' : Hp} {n : Nat} {v : V} (d : Dat H n v) (s : ∀ a xs, H a = some (.tup xs) → H' a = some (.tup xs)) : Dat H' n v := by
  induction d with
  | non => exact .non
  | bl b => exact .bl b
  | int i h => exact .int i h
  | str z h hc => exact .str z h hc
  | tup a xs ha hl hx ih => exact .tup a xs (s _ _ ha) hl ih
def bnd : Nat → Nat
  | 0 => 700
  | n + 1 => 10 * (bnd n + 2) + 5
theorem bnd_ge : ∀ n, 700 ≤ bnd n
  | 0 => Nat.le_refl _
  | n + 1 => by
    have := bnd_ge n
    show 700 ≤ 10 * (bnd n + 2) + 5
    omega
section
variable {P : Program} {w : World} {H : Hp} {h : Heap}
theorem shows_mono {h0 : Heap} {d d' n n' : Nat} {x : Value} (a : KB.Shows P w h0 d n x) (hd : d ≤ d') (hn : n ≤ n') : KB.Shows P w h0 d' n' x := fun b hb A E s Q hu hk hQ => a b (by omega) A E s Q (by omega) hk fun t tk ht => hQ t tk (by omega)
theorem int_len {i : Int} (hi : i.natAbs < 10 ^ 60) : (Str.ofString (toString i)).length ≤ 61 := by
  rw [PySem.ofString_length]
  exact int_text_length_le10 (k := 60) (by decide) hi
theorem log_of {i : Int} (hi : i.natAbs < 10 ^ 60) : i.natAbs.log2 < 1920 := by
  by_cases h0 : i.natAbs = 0
  · rw [h0]
    decide
  · have h1 : i.natAbs < 2 ^ 1920 := Nat.lt_of_lt_of_le hi (by decide +kernel)
    exact (Nat.log2_lt h0).mpr h1
theorem Dat.shows (ok : HOk P w H h) {n : Nat} {v : V} (d : Dat H n v) : ∀ u, RelV v u → KB.Shows P w h n (bnd n) u := by
  induction d with
  | @non n =>
    intro u r
    cases (show u = Value.none from r)
    exact shows_mono (d := 0) (n := 4) (KB.Shows.of_is ReprIs.none (by decide +kernel)) (Nat.zero_le _) (Nat.le_trans (by decide) (bnd_ge n))
  | @bl n b =>
    intro u r
    cases (show u = Value.bool b from r)
    exact shows_mono (d := 0) (n := 5) (KB.Shows.of_is (ReprIs.bool b) (by cases b <;> decide +kernel)) (Nat.zero_le _) (Nat.le_trans (by decide) (bnd_ge n))
  | @int n i hi =>
    intro u r
    obtain ⟨t, rfl⟩ := (show ∃ t, u = Value.int i t from r)
    exact shows_mono (d := 0) (n := 61) (KB.Shows.of_is (ReprIs.int t (log_of hi)) (int_len hi)) (Nat.zero_le _) (Nat.le_trans (by decide) (bnd_ge n))
  | @str n z hz hc =>
    intro u r
    obtain ⟨t, rfl⟩ := (show ∃ t, u = Value.str z t from r)
    have hl := StrLaws.reprText_len z hc
    have hs : (700 : Nat) ≤ sizeLine := by decide
    exact shows_mono (d := 0) (n := 610) (KB.Shows.of_is (ReprIs.str z t (by omega)) (by omega)) (Nat.zero_le _) (Nat.le_trans (by decide) (bnd_ge n))
  | @tup n a xs ha hl hx ih =>
    intro u r
    cases (show u = Value.ref a from r)
    obtain ⟨_, its, rv, o, e1, e2, k, e3⟩ := (show ObjOk P w H h a (.tup xs) from ok a _ ha)
    have hsz : its.toArray.size ≤ 10 := by
      have := rv.length
      simp only [List.size_toArray]
      omega
    refine shows_mono (KB.Shows.tup (n := bnd n) (d := n) e1 e2 e3 fun x hx' => ?_) (Nat.le_refl _) ?_
    · have hx2 : x ∈ its := by simpa using hx'
      obtain ⟨i, hi, e⟩ := List.getElem_of_mem hx2
      have hi2 : i < xs.length := by rw [rv.length]; exact hi
      obtain ⟨u', g1, g2⟩ := rv.get (List.getElem?_eq_getElem hi2)
      rw [List.getElem?_eq_getElem hi, e] at g1
      cases g1
      exact ih xs[i] (List.getElem_mem _) _ g2
    · show its.toArray.size * (bnd n + 2) + 5 ≤ 10 * (bnd n + 2) + 5
      have := Nat.mul_le_mul_right (bnd n + 2) hsz
      omega
/-- what formatField makes of such a value: some text of at most n signs -/
def Field (P : Program) (w : World) (h : Heap) (u : Value) (n : Nat) : Prop :=
  ∀ (A : Around) (E : Value → Shared → Prop) (s : Shared) (Q : Value → Shared → Prop), A.units + 12 < cLine → (∀ c o, h.get? c = some o → s.heap.get? c = some o) → (∀ m u' tk, m.length ≤ n → Q (.str m u') { s with toks := tk }) →
    wpAny (model P w) A (formatField u Str.empty) Q E s
theorem field_int {i : Int} {t : Tok} (hi : i.natAbs < 10 ^ 60) : Field P w h (.int i t) 100 := fun A E s Q hu hk hQ =>
  wpAny_formatField_int (log_of hi) (hQ _ _ _ (Nat.le_trans (int_len hi) (by decide)))
theorem HOk.sub {h' : Heap} (ok : HOk P w H h) (k : ∀ c o, h.get? c = some o → h'.get? c = some o) : HOk P w H h' := ok.kept k
theorem field_tup {n : Nat} {a : Addr} (ok : HOk P w H h) (d : Dat H (n + 1) (.ref a)) (hn : n ≤ 2) : Field P w h (.ref a) 730000 := by
  intro A E s Q hu hk hQ
  cases d with
  | tup _ xs ha hl hx =>
    have ok' := ok.kept hk
    obtain ⟨_, its, rv, o, e1, e2, k, e3⟩ := (show ObjOk P w H s.heap a (.tup xs) from ok' a _ ha)
    have hsz : its.toArray.size ≤ 10 := by
      have := rv.length
      simp only [List.size_toArray]
      omega
    have hb : bnd n ≤ 72000 := by
      have h2 : bnd 2 = 70275 := rfl
      have h1 : bnd 1 = 7025 := rfl
      have h0 : bnd 0 = 700 := rfl
      rcases n with _ | _ | _ | n
      · rw [h0]; decide
      · exact Nat.le_trans (Nat.le_of_eq h1) (by decide)
      · exact Nat.le_trans (Nat.le_of_eq h2) (by decide)
      · omega
    have hm : its.toArray.size * (bnd n + 2) + 5 ≤ 10 * (72000 + 2) + 5 := by
      have := Nat.mul_le_mul hsz (Nat.add_le_add_right hb 2)
      omega
    have hS : (100000 : Nat) ≤ sizeLine * 10 := by decide
    have hS2 : (730000 : Nat) ≤ sizeLine := by decide
    refine KB.field_tup (n := bnd n) (d := n) (by omega) e1 e2 e3 (fun x hx' => ?_) (by omega) fun m u' tk hm => hQ m u' tk (by omega)
    have hx2 : x ∈ its := by simpa using hx'
    obtain ⟨i, hi, e⟩ := List.getElem_of_mem hx2
    have hi2 : i < xs.length := by rw [rv.length]; exact hi
    obtain ⟨u', g1, g2⟩ := rv.get (List.getElem?_eq_getElem hi2)
    rw [List.getElem?_eq_getElem hi, e] at g1
    cases g1
    exact (hx xs[i] (List.getElem_mem _)).shows ok' _ g2
end
end KE0

namespace KE0
open PySem PySem.Spec PyProof.Rows L2
section
variable {P : Program} {w : World} {A : Around} {E : Value → Shared → Prop} {env : Env}
theorem js_const {c acc : Str} {j : Nat} {p : Pos} {rest : List (Sem Value)} {R : Str → Shared → Prop} {s : Shared} (hl : (acc ++ c).length ≤ sizeLine) (h : ∀ tk, Joins (model P w) A E rest (acc ++ c) R { s with toks := tk }) :
    Joins (model P w) A E (eval (.Constant (.str c) j p) env :: rest) acc R s := Calls.Constant_str ⟨c, _, rfl, hl, h _⟩
theorem js_field {prm acc : Str} {b1 b2 : Pos} {rest : List (Sem Value)} {R : Str → Shared → Prop} {s : Shared} {h : Heap} {u : Value} {n : Nat} {m : Str → Option Value} (hF : Field P w h u n) (hk : ∀ c o, h.get? c = some o → s.heap.get? c = some o)
    (hu : A.units + 12 < cLine) (hkind : env.scope.kind = .function) (hloc : env.kindOf prm = some .local) (ns : s.heap.Ns env.locals m) (hm : m prm = some u) (hd : (prm == ("__debug__" : Str)) = false) (hl : acc.length + n ≤ sizeLine)
    (hr : ∀ y tk, y.length ≤ n → Joins (model P w) A E rest (acc ++ y) R { s with toks := tk }) : Joins (model P w) A E (eval (.FormattedValue (.Name prm b1) (-1) none b2) env :: rest) acc R s := by
  refine wpAny_FormattedValue_plain (wpAny_Name (wpAny_loadName_local hkind hloc ns hm ?_) hd)
  refine hF A E s _ hu hk fun y u' tk hy => ⟨y, u', rfl, ?_, hr y tk hy⟩
  rw [strLen_append]
  omega
theorem js_nil {acc : Str} {R : Str → Shared → Prop} {s : Shared} (h : R acc s) : Joins (model P w) A E [] acc R s := h
/-- f'..{a}..', of two or three parts -/
theorem fstr2 {c1 prm : Str} {j1 : Nat} {a1 a3 b1 b2 : Pos} {s : Shared} {h : Heap} {u : Value} {n : Nat} {m : Str → Option Value} {Q : Value → Shared → Prop} (hF : Field P w h u n) (hk : ∀ c o, h.get? c = some o → s.heap.get? c = some o)
    (hu : A.units + 12 < cLine) (hkind : env.scope.kind = .function) (hloc : env.kindOf prm = some .local) (ns : s.heap.Ns env.locals m) (hm : m prm = some u) (hd : (prm == ("__debug__" : Str)) = false) (hl : c1.length + n ≤ sizeLine)
    (hQ : ∀ z u tk, Q (.str z u) { s with toks := tk }) : wpAny (model P w) A (eval (.JoinedStr [.Constant (.str c1) j1 a1, .FormattedValue (.Name prm b1) (-1) none b2] a3) env) Q E s := by
  have e0 : (Str.empty ++ c1).length = c1.length := by rw [strLen_append]; exact Nat.zero_add _
  refine wpAny_JoinedStr (js_const (by omega) fun tk => js_field hF hk hu hkind hloc ns hm hd (by omega) fun y tk hy => js_nil ⟨?_, hQ _ _ _⟩)
  rw [strLen_append]
  omega
theorem fstr3 {c1 c2 prm : Str} {j1 j2 : Nat} {a1 a2 a3 b1 b2 : Pos} {s : Shared} {h : Heap} {u : Value} {n : Nat} {m : Str → Option Value} {Q : Value → Shared → Prop} (hF : Field P w h u n) (hk : ∀ c o, h.get? c = some o → s.heap.get? c = some o)
    (hu : A.units + 12 < cLine) (hkind : env.scope.kind = .function) (hloc : env.kindOf prm = some .local) (ns : s.heap.Ns env.locals m) (hm : m prm = some u) (hd : (prm == ("__debug__" : Str)) = false) (hl : c1.length + n + c2.length ≤ sizeLine)
    (hQ : ∀ z u tk, Q (.str z u) { s with toks := tk }) : wpAny (model P w) A (eval (.JoinedStr [.Constant (.str c1) j1 a1, .FormattedValue (.Name prm b1) (-1) none b2, .Constant (.str c2) j2 a2] a3) env) Q E s := by
  have e0 : (Str.empty ++ c1).length = c1.length := by rw [strLen_append]; exact Nat.zero_add _
  refine wpAny_JoinedStr (js_const (by omega) fun tk => js_field hF hk hu hkind hloc ns hm hd (by omega) fun y tk hy => js_const ?_ fun tk => js_nil ⟨?_, hQ _ _ _⟩)
  all_goals
    rw [strLen_append, strLen_append]
    omega
theorem fstr5 {c1 c2 c3 prm prm2 : Str} {j1 j2 j3 : Nat} {a1 a2 a3 a4 b1 b2 b3 b4 : Pos} {s : Shared} {h : Heap} {u u2 : Value} {n : Nat} {m : Str → Option Value} {Q : Value → Shared → Prop} (hF : Field P w h u n) (hF2 : Field P w h u2 n) (hk : ∀ c o, h.get? c = some o → s.heap.get? c = some o)
    (hu : A.units + 12 < cLine) (hkind : env.scope.kind = .function) (hloc : env.kindOf prm = some .local) (hloc2 : env.kindOf prm2 = some .local) (ns : s.heap.Ns env.locals m) (hm : m prm = some u) (hm2 : m prm2 = some u2) (hd : (prm == ("__debug__" : Str)) = false) (hd2 : (prm2 == ("__debug__" : Str)) = false)
    (hl : c1.length + n + c2.length + n + c3.length ≤ sizeLine)
    (hQ : ∀ z u tk, Q (.str z u) { s with toks := tk }) : wpAny (model P w) A (eval (.JoinedStr [.Constant (.str c1) j1 a1, .FormattedValue (.Name prm b1) (-1) none b2, .Constant (.str c2) j2 a2, .FormattedValue (.Name prm2 b3) (-1) none b4, .Constant (.str c3) j3 a4] a3) env) Q E s := by
  have e0 : (Str.empty ++ c1).length = c1.length := by rw [strLen_append]; exact Nat.zero_add _
  refine wpAny_JoinedStr (js_const (by omega) fun tk => js_field hF hk hu hkind hloc ns hm hd (by omega) fun y tk hy => js_const ?_ fun tk => js_field hF2 hk hu hkind hloc2 ns hm2 hd2 ?_ fun y2 tk hy2 => js_const ?_ fun tk => js_nil ⟨?_, hQ _ _ _⟩)
  all_goals
    have e1 : Str.empty.length = 0 := rfl
    simp only [strLen_append]
    omega
end
/-- what the call of C's __init__ does, whatever runs around -/
def InitOk (P : Program) (w : World) (K : PySem.W.Frag) (mg : Str → Option Value) (C f : Addr) (ok : Hp → List V → Prop) (fs : List V → List (Str × V)) : Prop :=
  ∀ (A : Around) (R : Result → Shared → Prop) (s : Shared) (x t0 : Addr) (vs : List V) (us : List Value) (H : Hp), K.In s.heap → s.heap.NoLimit → s.heap.Ns mainGlobals mg → (∃ mb, s.heap.Ns builtinsNs mb ∧ ∀ y : Str, y ≠ "__name__" → mb y = bootBuiltins y) →
    s.heap.get? x = some (PySem.HandSPX.excO C t0) → K.lookup x = none → A.depth < recursionLimit → A.units + 40 < cLine → HOk P w H s.heap → Vals vs us → ok H vs →
    (∀ h' tk dx t1 mA, KC.Made s.heap h' x C dx t1 mA → (∀ y, RelO ((fs vs).lookup y) (mA y)) → R (.ok (.ret .none)) { s with heap := h', toks := tk }) →
    codeAny (model P w) A (.call (.ref f) ⟨.ref x :: us, []⟩) R s
section
variable {X : Cx}
/-- C(e, ..), an own error with its own __init__, as a value -/
theorem pe_err {x : Str} {C f cda cc : Addr} {qual : Str} {params : Arguments} {body : List Stmt} {scope : Scope} {ok : Hp → List V → Prop} {fs : List V → List (Str × V)} {e : Expr} {es : List Expr} {ta : TA} {p pos : Pos} {k : Nat}
    (T : KC.ErrC X.prog X.K X.mg C f cda cc qual params body scope) (IK : InitOk X.prog X.w X.K X.mg C f ok fs) (hr : Room (k + 1) X.A) (hg : Gl X x) (hm : X.mg x = some (.ref C)) (ha : PA X (e :: es) ta)
    (hdb : (x == ("__debug__" : Str)) = false := by decide) (he : starEach (e :: es) X.env = (false, eval e X.env) :: starEach es X.env := by rfl) (hpl : (backTo pos (starEach es X.env)).any (·.1) = false := by rfl) :
    PE X (.Call (.Name x p) (e :: es) [] pos) (fun σ H Q => ta σ H fun vs H1 => vs.length ≤ 1000 ∧ ok H1 vs ∧ ∀ a d, H1 a = none → H1 d = none → d ≠ a → Q (.ref a) (upd (upd H1 d (exd d (fs vs))) a (exo a C (some d)))) := by
  refine ⟨fun pins s σ H Q I h => ?_⟩
  obtain ⟨nm, q, N, bs, bm, sn, sub, ab, col, dd, k0, k1, k2, k3, k5, hC, hbm⟩ := T.cls
  refine wpAny_Call_Name_kw (ld_glob I hg hm ?_ hdb)
  refine PySem.W.callWith_K (h₀ := X.base) I.ok.mod.kin T.kC (thn (ha.run pos pins s σ H _ I h) fun us s1 ⟨vs, H1, I1, r1, hz, hok, q1⟩ => ⟨I1.kIn, ?_⟩) he hpl
  show wpAny _ _ (call (.ref C) us) _ _ _
  have hlim := I1.nolimit
  have hglob := I1.mod.glob.keeps I1.bk
  obtain ⟨mb, hb1, hb2⟩ := I1.mod.blt
  have hb1' := hb1.keeps I1.bk
  obtain ⟨hp, g, dr, tk, os⟩ := s1
  have hsz : hp.objs.size ≤ hp.objs.size + 1 := Nat.le_succ _
  have hn : H1 (hp.objs.size + 1) = none := I1.hok.fresh hsz
  have kk : ∀ b o, hp.get? b = some o → ((hp.push (PySem.W.kdv_tup us)).push (PySem.HandSPX.excO C hp.objs.size)).get? b = some o := fun b o e => Heap.get?_push_of_some _ (Heap.get?_push_of_some _ e)
  have hget : ((hp.push (PySem.W.kdv_tup us)).push (PySem.HandSPX.excO C hp.objs.size)).get? (hp.objs.size + 1) = some (PySem.HandSPX.excO C hp.objs.size) := by heap_get
  have hus : us.length ≤ sizeLine := by
    rw [← Paired.length r1, sizeLine_eq]
    omega
  have hnx : X.K.lookup (hp.objs.size + 1) = none := by
    cases e : X.K.lookup (hp.objs.size + 1) with
    | none => rfl
    | some o =>
      have z : hp.get? (hp.objs.size + 1) = some o := I1.kIn _ _ e
      exact absurd (Nat.lt_of_succ_lt (Heap.lt_size z)) (Nat.lt_irrefl _)
  refine wpAny_call (PySem.HandSPX.call_own F.excBase_ValueError (fun Y => PySem.HandSPX.refsVE_contains Y bm hbm) (I1.kIn _ _ hC) (PySem.W.looks_findIn I1.kIn T.ic) (fun self => PySem.W.bind_fn I1.kIn self T.tf) hus ?_)
  refine IK _ _ ⟨(hp.push (PySem.W.kdv_tup us)).push (PySem.HandSPX.excO C hp.objs.size), g, dr, tk, os⟩ (hp.objs.size + 1) hp.objs.size vs us H1 (I1.kIn.keeps kk) (hlim.keeps kk) (hglob.keeps kk) ⟨mb, hb1'.keeps kk, hb2⟩ hget hnx ?_ ?_ (I1.hok.kept kk) r1 hok fun h' tk' dx t1 mA M hrel => ?_
  · have z := (hr.make C us []).dp
    omega
  · have z := (hr.make C us []).un
    omega
  have hda : dx ≠ hp.objs.size + 1 := M.ne
  have hdn : hp.objs.size ≤ dx := by
    have := M.big
    have e2 : ((hp.push (PySem.W.kdv_tup us)).push (PySem.HandSPX.excO C hp.objs.size)).objs.size = hp.objs.size + 1 + 1 := by rw [Heap.size_push, Heap.size_push]
    have e3 : ((hp.push (PySem.W.kdv_tup us)).push (PySem.HandSPX.excO C hp.objs.size)).objs.size ≤ dx := this
    omega
  obtain ⟨G, g1, g2⟩ := restrict h' fun b => decide (b ≠ hp.objs.size + 1)
  have gk : ∀ b, b ≠ hp.objs.size + 1 → G.get? b = h'.get? b := fun b hb => g1 b (decide_eq_true hb)
  have ge : G.get? (hp.objs.size + 1) = none := g2 _ (by simp)
  have nha : ∀ {b : Addr} {o : Obj}, hp.get? b = some o → b ≠ hp.objs.size + 1 := fun {b o} z => Nat.ne_of_lt (Nat.lt_of_lt_of_le (Heap.lt_size z) hsz)
  have old : ∀ b o, hp.get? b = some o → G.get? b = some o := fun b o z => (gk b (nha z)).trans (M.keep b o (nha z) (kk b o z))
  have nsG : G.Ns1 dx mA := M.ns.at fun o q => (gk dx hda).trans q
  have J : Inv X pins σ (upd H1 dx (exd dx (fs vs))) ⟨G, g, dr, tk', os⟩ := I1.laid (t' := tk') old hdn (exd_ok nsG hrel)
  have hna : upd H1 dx (exd dx (fs vs)) (hp.objs.size + 1) = none := by rw [upd_ne (Ne.symm hda)]; exact hn
  have J2 : Inv X pins σ (upd (upd H1 dx (exd dx (fs vs))) (hp.objs.size + 1) (exo (hp.objs.size + 1) C (some dx))) ⟨h', g, dr, tk', os⟩ :=
    J.laidN (t' := tk') (h' := h') (fun b o z => by
      have hb : b ≠ hp.objs.size + 1 := fun e => by rw [e, ge] at z; cases z
      exact (gk b hb).symm.trans z) ge hna (exo_ok M.obj)
  refine ⟨rfl, .ref (hp.objs.size + 1), _, J2, rfl, q1 _ dx hn (I1.hok.fresh hdn) hda⟩
end
end KE0


/-! enumerate over a tuple: its making, its turns, the walk. -/
namespace ET
open PySem
open Sem (wp)
theorem meets_new1 {v : Value} {ob : Obj} {Hh : Heap → Prop} (bg : Begins v ob Hh) :
    Meets (Builtin.«enumerate.__new__» ⟨[.type "enumerate", v], []⟩) (fun _ R z => Hh z.heap ∧
      R (.ok (.ret (.ref (z.heap.push ob).objs.size))) { z with heap := (z.heap.push ob).push { cls := .type "enumerate", data := .fields #[.none, .bool false, .ref z.heap.objs.size, rawInt 0, .none, .none] } }) :=
  .of_wp fun prog w A R z both => by
    obtain ⟨hp, g, d, tk, os⟩ := z
    obtain ⟨b1, fin⟩ := both
    have hsub := sub_enumerate
    have its : ∀ {A' : Around} {E : Value → Shared → Prop} {Q : Value → Shared → Prop}, Q (.ref hp.objs.size) ⟨hp.push ob, g, d, tk, os⟩ → wpAny (model prog w) A' (pyIter v) Q E ⟨hp, g, d, tk, os⟩ := fun q => bg.iter prog w _ _ ⟨hp, g, d, tk, os⟩ _ b1 q
    wp_walk using its
    refine wpAny_stack_any fun _ => wpAny_pure ?_
    split
    · rename_i c _ _ _ _ _
      cases (c == Value.type "enumerate") <;> (wp_walk using its; exact ⟨_, rfl, fin⟩)
    · (wp_walk using its; exact ⟨_, rfl, fin⟩)
section
variable {prog : Program} {w : World} {A : Around} {E : Value → Shared → Prop} {s : Shared}
theorem call_enum1 {v : Value} {ob : Obj} {Hh : Heap → Prop} {Q : Value → Shared → Prop} (bg : Begins v ob Hh) (h1 : Hh s.heap)
    (fin : ∀ h', IsEnum h' (s.heap.objs.size + 1) s.heap.objs.size 0 .none → h'.get? s.heap.objs.size = some ob →
      (∀ b o, s.heap.get? b = some o → h'.get? b = some o) → Q (.ref (s.heap.objs.size + 1)) { s with heap := h' }) :
    wpAny (model prog w) A (call (.type "enumerate") [v]) Q E s := by
  refine callType_new F.called_enumerate (by decide) (F.typeCall_enumerate_1 _) (F.newCall_enumerate_1 _) (fun obj => F.args_object_init_2 obj _) F.entry_enumerate_new (meets_new1 bg) ⟨h1, ?_⟩
  have hz : (s.heap.push ob).objs.size = s.heap.objs.size + 1 := Heap.size_push ..
  show _ ∧ _
  rw [hz]
  have he : IsEnum ((s.heap.push ob).push { cls := .type "enumerate", data := .fields #[.none, .bool false, .ref s.heap.objs.size, rawInt 0, .none, .none] }) (s.heap.objs.size + 1) s.heap.objs.size 0 .none := by
    have q := Heap.get?_push_size (s.heap.push ob) (o := { cls := .type "enumerate", data := .fields #[.none, .bool false, .ref s.heap.objs.size, rawInt 0, .none, .none] }) rfl
    rw [hz] at q
    exact q
  exact ⟨⟨_, he, rfl⟩, fin _ he (Heap.get?_push_of_some _ (Heap.get?_push_size _ bg.free)) fun b o x => Heap.get?_push_of_some _ (Heap.get?_push_of_some _ x)⟩
end
end ET
namespace ET
open PySem PySem.Spec PyProof.Rows L2
/-- the tuple at a, each item in a new pair -/
def Itet (K : PySem.W.Frag) (a : Addr) : It :=
  ⟨fun i H => ∃ (xs : List V) (x : V), SqT K H a xs ∧ xs[i]? = some x,
   fun i H v H' => ∃ T x, v = .ref T ∧ H T = none ∧ H' = upd H T (.tup [.int (i : Nat), x]) ∧ ∀ xs, SqT K H a xs → xs[i]? = some x,
   fun i H => ∃ xs : List V, SqT K H a xs ∧ xs.length = i⟩
theorem turn_enumT {P : Program} {w : World} {K : PySem.W.Frag} {elts : List Expr} {kk : Nat} {tpos : Pos} (a e it : Addr) :
    Turn P w K (.Tuple elts kk tpos) (Itet K a) [e, it] e (fun i h => (∃ old, IsEnum h e it ((i : Nat) : Int) old) ∧ h.IsTupleIter it a i ∧ e ≠ it ∧ a ≠ it ∧ a ≠ e) where
  mem := by simp
  obj := fun i h st b hb => by
    obtain ⟨⟨old, he⟩, ⟨o, ho, hc, hd⟩, _⟩ := st
    rcases (by simpa using hb : b = e ∨ b = it) with z | z
    · exact z ▸ ⟨_, he, fun v q => nomatch q⟩
    · exact z ▸ ⟨o, ho, fun v q => by rw [hd] at q; cases q⟩
  keep := fun i h h' st k => by
    obtain ⟨⟨old, he⟩, hi, hne⟩ := st
    exact ⟨⟨old, k e (by simp) _ he⟩, hi.at fun o q => k it (by simp) o q, hne⟩
  item := by
    intro X hP hw hK hc i pins s σ H E I hf st hg
    subst hP hw hK
    obtain ⟨⟨old, he⟩, hit, hne, hai, hae⟩ := st
    obtain ⟨xs, x, hq, hx⟩ := hg
    obtain ⟨its, rv, p, hz⟩ := I.tuple hq
    obtain ⟨u, hu, ru⟩ := rv.get hx
    have hel : e < s.heap.objs.size := Heap.lt_size he
    have hil : it < s.heap.objs.size := by obtain ⟨_, q, _⟩ := hit; exact Heap.lt_size q
    have hh := I.ok.hd hc
    have hi : i < its.toArray.size := by
      have h1 := (List.getElem?_eq_some_iff.mp hu).1
      simpa using h1
    refine wpAny_pyNext_enum_itemD (PySem.Draws.tuple (A := X.A.in1) hh it a hai its.toArray) he ⟨hit, p⟩ hi hne (by simp [hne, Ne.symm hae]) fun u' h' tk hP' ho hit' hT hsz hk => ?_
    have eu : u' = u := by
      have h1 : its.toArray[i]? = some u' := hP'
      rw [show its.toArray[i]? = its[i]? by simp, hu] at h1
      exact (Option.some.inj h1).symm
    subst eu
    refine ⟨_, rfl, wpAny_letOwnedTupleGo_enum (s := { s with heap := h', toks := tk + 1 }) ho fun h'' he' sb => ?_⟩
    have hT2 : h''.get? s.heap.objs.size = some { cls := .type "tuple", data := .seq #[.int i tk, u'] } := (sb.2 _ (Nat.ne_of_gt hel)).trans hT
    have new : ObjOk X.prog X.w (upd H s.heap.objs.size (.tup [.int (i : Nat), x])) h'' s.heap.objs.size (.tup [.int (i : Nat), x]) := ⟨by show 2 ≤ sizeLine; decide, [.int i tk, u'], .cons ⟨_, rfl⟩ (.cons ru .nil), ⟨_, hT2, rfl, _, rfl⟩⟩
    have kept : ∀ b ob, b ∉ [e, it] → s.heap.get? b = some ob → h''.get? b = some ob := fun b ob hb q => (sb.2 b (fun z => hb (by simp [z]))).trans (hk b ob (fun z => hb (by simp [z])) (fun z => hb (by simp [z])) q)
    have I1 : Inv X pins σ (upd H s.heap.objs.size (.tup [.int (i : Nat), x])) { s with heap := h'', toks := tk + 1 } := I.turnedNew (ch := [e, it]) kept hf (Nat.le_refl _) new
    have e1 : ((i + 1 : Nat) : Int) = (i : Int) + 1 := by omega
    refine ⟨.ref s.heap.objs.size, _, I1, rfl, ⟨_, x, rfl, I.hok.fresh (Nat.le_refl _), rfl, fun ys hy => by rw [I.tuple_inj hy hq]; exact hx⟩, ⟨⟨u', by rw [e1]; exact he'⟩, hit'.1.at fun o q => (sb.2 it (Ne.symm hne)).trans q, hne, hai, hae⟩, fun b hb => ?_⟩
    have hb' : b < s.heap.objs.size := by
      rcases (by simpa using hb : b = e ∨ b = it) with z | z
      · exact z ▸ hel
      · exact z ▸ hil
    rw [upd_ne (Nat.ne_of_lt hb')]
    exact (hf b hb).1
  done := by
    intro X hP hw hK hc i pins s σ H E I hf st hg
    subst hP hw hK
    obtain ⟨⟨old, he⟩, hit, hne, hai, hae⟩ := st
    obtain ⟨xs, hq, hx⟩ := hg
    obtain ⟨its, rv, p, hz⟩ := I.tuple hq
    obtain ⟨f0, f1, f2, f3, f4, f5⟩ := hf it (by simp)
    have hl := rv.length
    have hn : i = its.toArray.size := by simp; omega
    subst hn
    exact wpAny_pyNext_enum_endD (PySem.Draws.tuple (A := X.A.in1) (I.ok.hd hc) it a hai its.toArray) he ⟨hit, p⟩ fun h' eb => ⟨rfl, I.turned (t' := s.toks) (fun b o hb q => eb b o hb q) f0 f1 f3 f4 f5⟩
  self := fun A i s Q E st h => by
    obtain ⟨⟨_, he⟩, _⟩ := st
    exact wpAny_pyIter_enum he h
def iEnumT (K : PySem.W.Frag) (ta : TA) : TI := fun σ H R => ta σ H fun vs H1 => ∃ a xs, vs = [.ref a] ∧ SqT K H1 a xs ∧ R (Itet K a) H1
theorem pi_enumT {X : Cx} {e : Expr} {ta : TA} {p pos tpos : Pos} {elts : List Expr} {kk : Nat} (hg : Gl X "enumerate") (hm : X.mg "enumerate" = none) (ha : PA X [e] ta) (hs : starEach [e] X.env = [(false, eval e X.env)] := by rfl) :
    PI X (.Tuple elts kk tpos) (.Call (.Name "enumerate" p) [e] [] pos) (iEnumT X.K ta) := by
  refine ⟨fun pins s σ H R I h => ?_⟩
  refine Call_ (ld_blt I hg hm boot_enumerate (PyProof.Rows.callWith_type1 (thn (ha.run pos pins s σ H _ I h) fun us s1 ⟨vs, H1, I1, r1, q1⟩ => ?_) hs rfl))
  obtain ⟨a, xs, ex, hq, q⟩ := q1
  subst ex
  cases r1 with
  | cons r rr =>
    cases rr
    cases r
    obtain ⟨its, rv, p', hz⟩ := I1.tuple hq
    have hal : a < s1.heap.objs.size := by
      obtain ⟨o, ho, _⟩ := p'
      exact Heap.lt_size ho
    refine call_enum1 (PySem.begins_tuple a its.toArray) p' fun h' he hit hk => wpAny_pyIter_enum he ?_
    have I2 : Inv X pins σ H1 { s1 with heap := h' } := I1.kept (t' := s1.toks) hk
    have hti : h'.IsTupleIter s1.heap.objs.size a 0 := ⟨_, hit, rfl, rfl⟩
    refine ⟨s1.heap.objs.size + 1, [s1.heap.objs.size + 1, s1.heap.objs.size], _, _, H1, rfl, I2, turn_enumT a (s1.heap.objs.size + 1) s1.heap.objs.size, ⟨⟨.none, he⟩, hti, Nat.succ_ne_self _, Nat.ne_of_lt hal, Nat.ne_of_lt (Nat.lt_succ_of_lt hal)⟩, fun b hb => ?_, q⟩
    have hle : s1.heap.objs.size ≤ b := by
      rcases (by simpa using hb : b = s1.heap.objs.size + 1 ∨ b = s1.heap.objs.size) with z | z
      · rw [z]; exact Nat.le_succ _
      · rw [z]; exact Nat.le_refl _
    exact I1.fpOk hle (I1.hok.fresh hle)
theorem walk_enumT {K : PySem.W.Frag} {a : Addr} {xs : List V} : Walk (Itet K a) xs.length (fun H => SqT K H a xs) (YPair (fun i => some (.int (i : Nat))) (fun i => xs[i]?)) := by
  refine ⟨fun i _ hi q => ⟨xs, xs[i], q, by simp [hi]⟩, fun _ q => ⟨xs, q, rfl⟩, fun i H v H' _ q y => ?_⟩
  obtain ⟨T, x, h1, h2, h3, h4⟩ := y
  exact ⟨T, .int (i : Nat), x, h1, h2, h3, rfl, h4 xs q⟩
end ET

/-! d.get(k) of a written dict with text keys. -/
namespace ET
open PySem PySem.Spec PyProof.Rows L2
/-- what .get finds -/
def Found (r : Option Value) (v : V) : Prop := match r with
  | some u => RelV v u
  | none => v = .non
def tKGet (K : PySem.W.Frag) (w : World) (td ty : TE) : TE := fun σ H Q => td σ H fun x H1 => ∃ p es n, x = .ref p ∧ KDict K w p es n ∧ ty σ H1 fun y H2 => ∃ (z : Str) (r : Option Value) (v : V), y = .str z ∧ PySem.W.nsIn K p z = some r ∧ Found r v ∧ Q v H2
theorem pe_kget {X : Cx} {o e : Expr} {apos cpos : Pos} {td ty : TE} (ho : PE X o td) (he : PE X e ty) (m : M1 X o "get" apos e cpos) : PE X (.Call (.Attribute o "get" apos) [e] [] cpos) (tKGet X.K X.w td ty) := by
  refine ⟨fun pins s σ H Q I h => ?_⟩
  refine wpAny_Call_method m.base m.few m.line PySem.F.plainAttrs_dict PySem.F.slot_dict_get PySem.F.type_dict_get (thn (ho.run pins s σ H _ I h) fun u s1 ⟨x, H1, I1, rx, a, es, n, ex, D, q1⟩ => ?_)
  subst ex
  obtain rfl : u = Value.ref a := rx
  have hm := PySem.W.mapOf_K (prog := X.prog) (w := X.w) I1.kIn D.at_ D.lit
  refine ⟨hm.typeIs, hm.noDict, ?_⟩
  rw [m.trees]
  refine Calls.callWith_builtin rfl (Calls.evalArgs_plain (Calls.spliced_cons (thn (he.run pins s1 σ H1 _ I1 q1) fun iv s2 ⟨y, H2, I2, ry, z, r, v, ey, en, fv, q2⟩ => Calls.spliced_nil ?_)))
  subst ey
  obtain ⟨t, rfl⟩ := ry
  have hm2 := PySem.W.mapOf_K (prog := X.prog) (w := X.w) I2.kIn D.at_ D.lit
  refine call_meetsIn PySem.F.slot_dict_get hm2.typeIs PySem.F.entry_dict_get (PySem.F.args_dict_get_2 _ _) (meets_dict_get (strKind X.prog X.w) a (strKind_is X.prog X.w z t) D.low) ⟨_, hm2, ?_⟩
  rw [PySem.W.find_K D.at_ en]
  refine ⟨v, H2, I2.tok _, ?_, q2⟩
  cases r with
  | none => cases (show v = .non from fv); rfl
  | some u => exact fv
end ET

namespace PB
open PySem PySem.Spec PyProof.Rows L2 PV PF T ET
def bf (n t b : Int) : List (Str × V) := [("names", .int n), ("tries", .int t), ("begun", .int b)]
theorem bf_n {n t b : Int} : (bf n t b).lookup ("names" : Str) = some (.int n) := by rfl
theorem bf_t {n t b : Int} : (bf n t b).lookup ("tries" : Str) = some (.int t) := by rfl
theorem bf_b {n t b : Int} : (bf n t b).lookup ("begun" : Str) = some (.int b) := by rfl
theorem bf_no {n t b : Int} {m : Str} (h1 : (m == "names") = false) (h2 : (m == "tries") = false) (h3 : (m == "begun") = false) : (bf n t b).lookup m = none := by
  unfold bf
  simp only [List.lookup, h1, h2, h3]
theorem nt : ¬ (("names" : Str) = "tries") := by decide +kernel
theorem nb : ¬ (("names" : Str) = "begun") := by decide +kernel
theorem tb : ¬ (("tries" : Str) = "begun") := by decide +kernel
theorem put_b {n t b x : Int} : putF "begun" (.int x) (bf n t b) = bf n t x := by
  show (if ("names" : Str) = "begun" then _ else (("names" : Str), V.int n) :: (if ("tries" : Str) = "begun" then _ else (("tries" : Str), V.int t) :: (if ("begun" : Str) = "begun" then [(("begun" : Str), V.int x)] else _))) = _
  rw [if_neg nb, if_neg tb, if_pos rfl]
  rfl
theorem put_n {n t b x : Int} : putF "names" (.int x) (bf n t b) = bf x t b := by
  show (if ("names" : Str) = "names" then (("names" : Str), V.int x) :: _ else _) = _
  rw [if_pos rfl]
  rfl
theorem put_t {n t b x : Int} : putF "tries" (.int x) (bf n t b) = bf n x b := by
  show (if ("names" : Str) = "tries" then _ else (("names" : Str), V.int n) :: (if ("tries" : Str) = "tries" then (("tries" : Str), V.int x) :: _ else _)) = _
  rw [if_neg nt, if_pos rfl]
  rfl
/-- a BodyForm stands at p -/
def BfAt (C : Addr) (H : Hp) (p : Addr) (n t b : Int) : Prop := ∃ dx, H p = some (.ins C dx (bf n t b))
/-- all but p stands as it stood (new things may stand besides) -/
def Kp (p : Addr) (H H' : Hp) : Prop := ∀ a o, a ≠ p → H a = some o → H' a = some o
theorem Kp.refl {p : Addr} (H : Hp) : Kp p H H := fun _ _ _ e => e
theorem Kp.trans {p : Addr} {H H1 H2 : Hp} (a : Kp p H H1) (b : Kp p H1 H2) : Kp p H H2 := fun x o h e => b x o h (a x o h e)
theorem Kp.upd {p : Addr} {H : Hp} {o : HO} : Kp p H (upd H p o) := fun a o' h e => by rw [upd_ne h]; exact e
theorem Kp.new {p q : Addr} {H : Hp} {o : HO} (h : H q = none) : Kp p H (L2.upd H q o) := fun a o' _ e => by rw [upd_ne (ne_of_none e h)]; exact e
theorem Kp.tup {p C : Addr} {H H' : Hp} {n t b : Int} (k : Kp p H H') (hp : BfAt C H p n t b) : TupSame H H' := fun a xs e => k a _ (by obtain ⟨dx, h⟩ := hp; exact ne_of e h (by intro z; cases z)) e
/-- the class and what its methods look at -/
structure BfC (K : PySem.W.Frag) (mg : Str → Option Value) (C : Addr) : Prop where
  b : Bt mg
  cl : Cls K C
  nN : NoAttr K C "names"
  nT : NoAttr K C "tries"
  nB : NoAttr K C "begun"
  mib : ∃ t, mg "MOST_IN_BODY" = some (.int 400 t)
  mic : ∃ t, mg "MOST_IN_CHAIN" = some (.int 20 t)
  enum : mg "enumerate" = none
  lf : LfT K mg
section
variable {P : Program} {w : World} {K : PySem.W.Frag} {mg : Str → Option Value} {base : Heap} {C : Addr}
def spMay (C : Addr) : Sp := fun vs H Q _ => ∃ (p a : Addr) (n t b d : Int) (z : Str) (xs : List V), vs = [.ref p, .ref a, .int d] ∧ BfAt C H p n t b ∧ H a = some (.tup (.str z :: xs)) ∧ b + 1 ≤ 400 ∧ d ≤ 20 ∧
  ∀ H', BfAt C H' p n t (b + 1) → Kp p H H' → Q (.bl true) H'
theorem ok_may {f : Addr} {fd : FuncData} (F : Fun K "may_begin" "BodyForm.may_begin" s_BodyForm_may_begin f fd) (T0 : BfC K mg C) : FnOk P w K mg base CX0 1 f fd ["self", "thing", "depth"] (spMay C) := by
  refine F.ok sc_BodyForm_may_begin (fun vs H Q E h => ?_) (fun cdv A outer s H vs Q E hr h => ?_)
  · obtain ⟨p, a, n, t, b, d, z, xs, rfl, _⟩ := h
    rfl
  · obtain ⟨p, a, n, t, b, d, z, xs, rfl, ⟨dx, hp⟩, ha, hb, hd, q⟩ := h
    have bt := T0.b
    obtain ⟨_, mib⟩ := T0.mib
    obtain ⟨_, mic⟩ := T0.mic
    refine ⟨_, pss_cons (ps_fldaug (pv 0) pe_int in_add)
      (pss_cons (ps_if (PW.pt (pw_or (pt_cmpR op_gt (pe_fld (pv 0) rfl) (pe_glob (v := .int 400) (by rfl) mib ⟨_, rfl⟩) (nomark _)) (pw_or1 (pt_cmpR op_gt (pv 2) (pe_glob (v := .int 20) (by rfl) mic ⟨_, rfl⟩) (nomark _))))) (pss_one (ps_ret pe_bl)) pss_nil)
      (pss_one (ps_ret (pe_and (pe_callB call_isi (by rfl) bt.isi (by decide +kernel) (pa_cons (pv 1) (pa_cons (pe_bltn (by rfl) bt.tuple (v := .ty "tuple") (by decide +kernel) rfl) pa_nil)))
        (pe_and (pe_cmp (pc_gt (pe_callB call_len_seq (by rfl) bt.len PySem.boot_len (pa_cons (pv 1) pa_nil)) pe_int) rfl)
        (pe_one (pe_callB call_isi (by rfl) bt.isi (by decide +kernel) (pa_cons (pe_ix ix_tup (pv 1) pe_int (fun _ _ => rfl)) (pa_cons (pe_bltn (by rfl) bt.str (v := .ty "str") (by decide +kernel) rfl) pa_nil))))))))), ?_⟩
    have hap : a ≠ p := ne_of ha hp (by intro z; cases z)
    refine ⟨_, rfl, p, C, dx, _, _, rfl, hp, T0.cl, T0.nB, bf_b, ?_⟩
    have ep : upd H p (.ins C dx (putF "begun" (.int (b + 1)) (bf n t b))) = upd H p (.ins C dx (bf n t (b + 1))) := by rw [put_b]
    have k1 : Kp p H (upd H p (.ins C dx (putF "begun" (.int (b + 1)) (bf n t b)))) := Kp.upd
    have ha1 := k1 a _ hap ha
    have hp1 : (upd H p (.ins C dx (putF "begun" (.int (b + 1)) (bf n t b)))) p = some (.ins C dx (bf n t (b + 1))) := by rw [ep]; exact upd_same
    refine ⟨b, 1, rfl, rfl, dx, _, hp, (by show 3 < 1000; decide), ?_⟩
    refine ⟨_, rfl, p, C, dx, _, _, rfl, hp1, T0.cl, T0.nB, bf_b, _, _, rfl, rfl, false, (by show V.bl (decide ((400 : Int) < b + 1)) = _; rw [decide_eq_false (by omega)]), iteF ?_⟩
    refine ⟨_, rfl, _, _, rfl, rfl, false, (by show V.bl (decide ((20 : Int) < d)) = _; rw [decide_eq_false (by omega)]), iteF ?_⟩
    obtain ⟨ty, t1, t2, _⟩ := tupTy (K := K) ha1
    obtain ⟨sy, s1, _, s3⟩ := strTy (K := K) (H := upd H p (.ins C dx (putF "begun" (.int (b + 1)) (bf n t b)))) (z := z)
    refine ⟨_, rfl, _, _, _, _, _, rfl, .ty _, t1, t2, true, rfl, ?_⟩
    refine ⟨_, rfl, a, _, rfl, .inr (SqT.of ha1), _, _, rfl, rfl, true, (by show V.bl (decide ((0 : Int) < (((V.str z :: xs).length : Nat) : Int))) = _; rw [decide_eq_true (by simp <;> omega)]), ?_⟩
    refine ⟨_, rfl, a, _, 0, .str z, rfl, rfl, SqT.of ha1, atI_nat (j := 0) rfl, _, _, _, _, _, rfl, .ty _, s1, s3, ?_⟩
    exact q _ ⟨dx, hp1⟩ k1
def spPartOk (C : Addr) (D : Nat) : Sp := fun vs H Q _ => ∃ (p : Addr) (n t b : Int) (d : Nat) (s : Str) (v : V) (e : PyData) (pn pt pc ph : Nat), vs = [.ref p, .str s, v, .int d] ∧ BfAt C H p n t b ∧ Dv H v e ∧ Part s e pn pt pc ph ∧ b + pc ≤ 400 ∧ d + ph ≤ 21 ∧ ph ≤ D ∧
  ∀ H', BfAt C H' p (n + pn) (t + pt) (b + pc) → Kp p H H' → Q (.bl true) H'
def spPartsOk (K : PySem.W.Frag) (C : Addr) (D : Nat) : Sp := fun vs H Q _ => ∃ (p sa a : Addr) (n t b : Int) (d : Nat) (ss : List Str) (wd : Str) (es : List PyData) (pn pt pc ph : Nat), vs = [.ref p, .ref sa, .ref a, .int d] ∧ BfAt C H p n t b ∧ (∀ H, SqT K H sa (ss.map V.str)) ∧
  Dv H (.ref a) (.tuple (.str wd :: es)) ∧ Parts ss es pn pt pc ph ∧ b + pc ≤ 400 ∧ d + 1 + ph ≤ 21 ∧ ph ≤ D ∧ ∀ H', BfAt C H' p (n + pn) (t + pt) (b + pc) → Kp p H H' → Q (.bl true) H'
theorem Parts.len {ss : List Str} {es : List PyData} {n t c h : Nat} (r : Parts ss es n t c h) : ss.length = es.length := by
  induction r with
  | nil => rfl
  | cons p r ih => simp [ih]
/-- sums ahead of each place -/
theorem Parts.sums {ss : List Str} {es : List PyData} {n t c h : Nat} (r : Parts ss es n t c h) : ∃ N T Cn : Nat → Nat, N 0 = 0 ∧ T 0 = 0 ∧ Cn 0 = 0 ∧ N ss.length = n ∧ T ss.length = t ∧ Cn ss.length = c ∧
    ∀ i, i < ss.length → ∃ s e n0 t0 c0 h0, ss[i]? = some s ∧ es[i]? = some e ∧ Part s e n0 t0 c0 h0 ∧ N (i + 1) = N i + n0 ∧ T (i + 1) = T i + t0 ∧ Cn (i + 1) = Cn i + c0 ∧ h0 ≤ h ∧ Cn (i + 1) ≤ c := by
  induction r with
  | nil => exact ⟨fun _ => 0, fun _ => 0, fun _ => 0, rfl, rfl, rfl, rfl, rfl, rfl, fun i hi => by cases hi⟩
  | @cons s d ss ds n t c h n' t' c' h' p r ih =>
    obtain ⟨N, T, Cn, z1, z2, z3, e1, e2, e3, st⟩ := ih
    refine ⟨fun i => if i = 0 then 0 else n + N (i - 1), fun i => if i = 0 then 0 else t + T (i - 1), fun i => if i = 0 then 0 else c + Cn (i - 1), rfl, rfl, rfl, by simp [e1], by simp [e2], by simp [e3], fun i hi => ?_⟩
    cases i with
    | zero => exact ⟨s, d, n, t, c, h, rfl, rfl, p, by simp [z1], by simp [z2], by simp [z3], Nat.le_max_left _ _, by simp [z3]⟩
    | succ i =>
      obtain ⟨s2, e2, n0, t0, c0, h0, a1, a2, a3, a4, a5, a6, a7, a8⟩ := st i (by simpa using hi)
      refine ⟨s2, e2, n0, t0, c0, h0, by simpa using a1, by simpa using a2, a3, ?_, ?_, ?_, Nat.le_trans a7 (Nat.le_max_right _ _), ?_⟩
      · simp [a4]; omega
      · simp [a5]; omega
      · simp [a6]; omega
      · simp; omega
end
end PB

namespace PB
open PySem PySem.Spec PyProof.Rows L2 PV PF T ET
/-- a method of a class of the top -/
structure Md (K : PySem.W.Frag) (C : Addr) (x q : Str) (st : Stmt) (ps : List Str) (f : Addr) (fd : FuncData) : Prop where
  F : Fun K x q st f fd
  m : Meth K C x f
  b : Binds K fd ps []
section
variable {P : Program} {w : World} {K : PySem.W.Frag} {mg : Str → Option Value} {base : Heap} {C : Addr}
abbrev psPart : List Str := ["self", "sort", "thing", "depth"]
abbrev psParts : List Str := ["self", "sorts", "thing", "depth"]
abbrev psThing : List Str := ["self", "thing", "depth"]
theorem ok_parts {k D : Nat} {f fP : Addr} {fd dP : FuncData} (F : Fun K "are_parts" "BodyForm.are_parts" s_BodyForm_are_parts f fd) (M : Md K C "is_part" "BodyForm.is_part" s_BodyForm_is_part psPart fP dP)
    (GP : FnOk P w K mg base CX0 k fP dP psPart (spPartOk C D)) (T0 : BfC K mg C) : FnOk P w K mg base CX0 (k + 1) f fd psParts (spPartsOk K C D) := by
  refine F.ok sc_BodyForm_are_parts (fun vs H Q E h => ?_) (fun cdv A outer s H vs Q E hr h => ?_)
  · obtain ⟨p, sa, a, n, t, b, d, ss, wd, es, pn, pt, pc, ph, rfl, _⟩ := h
    rfl
  · obtain ⟨p, sa, a, n, t, b, d, ss, wd, es, pn, pt, pc, ph, rfl, hp, hsa, ha, hps, hc, hd, hD, q⟩ := h
    have bt := T0.b
    refine ⟨_, pss_cons (ps_if (pt_cmpR op_ne (pe_callB call_len_seq (by rfl) bt.len PySem.boot_len (pa_cons (pv 2) pa_nil)) (pe_op op_add (pe_callB call_len_seq (by rfl) bt.len PySem.boot_len (pa_cons (pv 1) pa_nil)) pe_int) (nomark _)) (pss_one (ps_ret pe_bl)) pss_nil)
      (pss_cons (ps_for PassesOwn.never rfl (pi_enumT (by rfl) T0.enum (pa_cons (pv 1) pa_nil)) (pg_tup rfl (pgs_cons (pg_name (i := 4) sc_BodyForm_are_parts.nd rfl (Or.inl rfl)) (pgs_cons (pg_name (i := 5) sc_BodyForm_are_parts.nd rfl (Or.inl rfl)) pgs_nil)))
        (pss_one (ps_if (pt_not (pt_val (pe_meth (pv 0) T0.cl M.m GP hr M.b .nil pass0 (pa_cons (pv 5) (pa_cons (pe_ix ix_tup (pv 2) (pe_op op_add (pv 4) pe_int) (fun _ _ => rfl)) (pa_cons (pe_op op_add (pv 3) pe_int) pa_nil)))))) (pss_one (ps_ret pe_bl)) pss_nil)))
      (pss_one (ps_ret pe_bl))), ?_⟩
    obtain ⟨a', xs, e0, hat, hl, r1⟩ := ha.tupE
    cases e0
    obtain ⟨u0, us, rfl, h0, r2⟩ := r1.consE
    obtain ⟨rfl, _⟩ := h0.strE
    have hlen : us.length = ss.length := by rw [r2.len, Parts.len hps]
    have hap : a ≠ p := by
      obtain ⟨dx, hp'⟩ := hp
      exact ne_of hat hp' (by intro z; cases z)
    obtain ⟨N, T, Cn, z1, z2, z3, e1, e2, e3, st⟩ := Parts.sums hps
    refine ⟨_, rfl, a, _, rfl, .inr (SqT.of hat), _, rfl, sa, _, rfl, .inr (hsa H), _, _, rfl, rfl, rfl, false, ?_, iteF ?_⟩
    · show V.bl (!decide (V.int (((V.str wd :: us).length : Nat) : Int) = V.int ((((ss.map V.str).length : Nat) : Int) + 1))) = V.bl false
      have e : V.int (((V.str wd :: us).length : Nat) : Int) = V.int ((((ss.map V.str).length : Nat) : Int) + 1) := by simp [hlen]
      rw [decide_eq_true e]
      rfl
    refine ⟨_, rfl, sa, _, rfl, hsa H, ?_⟩
    refine for_it walk_enumT (fun i σ H' => (∃ s4 s5, σ = [some (.ref p), some (.ref sa), some (.ref a), some (.int d), s4, s5]) ∧ BfAt C H' p (n + N i) (t + T i) (b + Cn i) ∧ Kp p H H') ⟨⟨_, _, rfl⟩, by rw [z1, z2, z3]; simpa using hp, Kp.refl H⟩ (fun i σ H' _ _ => hsa H') ?_ ?_
    · rintro i x σ H1 H2 hi ⟨⟨s4, s5, rfl⟩, hp1, k1⟩ ⟨Tp, x1, y1, rfl, hT, rfl, ex, ey⟩
      obtain rfl := Option.some.inj ex
      rw [List.length_map] at hi
      obtain ⟨sv, e, n0, t0, c0, h0', a1, a2, a3, a4, a5, a6, a7, a8⟩ := st i hi
      have ey2 : y1 = .str sv := by
        have ez : (ss.map V.str)[i]? = some y1 := ey
        rw [List.getElem?_map, a1] at ez
        exact (Option.some.inj ez).symm
      subst ey2
      have k2 : Kp p H (upd H1 Tp (.tup [.int (i : Nat), .str sv])) := k1.trans (Kp.new hT)
      have hp2 : BfAt C (upd H1 Tp (.tup [.int (i : Nat), .str sv])) p (n + N i) (t + T i) (b + Cn i) := by
        obtain ⟨dx, hp'⟩ := hp1
        exact ⟨dx, by rw [upd_ne (ne_of_none hp' hT)]; exact hp'⟩
      have hT2 : (upd H1 Tp (.tup [.int (i : Nat), .str sv])) Tp = some (.tup [.int (i : Nat), .str sv]) := upd_same
      generalize upd H1 Tp (.tup [.int (i : Nat), .str sv]) = H3 at k2 hp2 hT2
      obtain ⟨v, hv, dv⟩ := r2.get a2
      have hat3 := k2 a _ hap hat
      refine ⟨Tp, _, rfl, SqT.of hT2, rfl, _, _, rfl, _, _, rfl, rfl, ?_⟩
      obtain ⟨dx, hp'⟩ := id hp2
      refine ⟨_, rfl, p, dx, _, rfl, hp', bf_no (by decide +kernel) (by decide +kernel) (by decide +kernel), ?_⟩
      refine ⟨_, rfl, _, rfl, _, rfl, _, _, rfl, rfl, a, _, _, v, rfl, rfl, SqT.of hat3, ?_, _, rfl, _, _, rfl, rfl, ?_⟩
      · exact atI_nat (j := i + 1) (by simpa using hv)
      refine ⟨p, _, _, _, d + 1, sv, v, e, n0, t0, c0, h0', rfl, hp2, dv.same (k2.tup hp), a3, by omega, by omega, by omega, fun H4 hp4 k4 => ?_⟩
      refine ⟨true, rfl, iteF ?_⟩
      refine ⟨⟨_, _, rfl⟩, ?_, k2.trans k4⟩
      have w1 : n + (N (i + 1) : Int) = n + N i + n0 := by rw [a4]; omega
      have w2 : t + (T (i + 1) : Int) = t + T i + t0 := by rw [a5]; omega
      have w3 : b + (Cn (i + 1) : Int) = b + Cn i + c0 := by rw [a6]; omega
      rw [w1, w2, w3]
      exact hp4
    · rintro σ H1 ⟨_, hp1, k1⟩
      rw [List.length_map, e1, e2, e3] at hp1
      exact q _ hp1 k1
/-! ### expressions, args, blocks, statements -/
def spExpr (C : Addr) (D : Nat) : Sp := fun vs H Q _ => ∃ (p : Addr) (n t b : Int) (d : Nat) (v : V) (e : Ex), vs = [.ref p, v, .int d] ∧ BfAt C H p n t b ∧ Dv H v e.py ∧ e.ok = true ∧ b + e.cnt ≤ 400 ∧ d + e.ht ≤ 21 ∧ e.ht ≤ D ∧
  ∀ H', BfAt C H' p n t (b + e.cnt) → Kp p H H' → Q (.bl true) H'
def spArgs (C : Addr) (D : Nat) : Sp := fun vs H Q _ => ∃ (p : Addr) (n t b : Int) (d : Nat) (v : V) (as : Exs), vs = [.ref p, v, .int d] ∧ BfAt C H p n t b ∧ Dv H v (.tuple as.py) ∧ as.ok = true ∧ b + as.cnt ≤ 400 ∧ d + as.ht ≤ 21 ∧ as.ht ≤ D ∧
  ∀ H', BfAt C H' p n t (b + as.cnt) → Kp p H H' → Q (.bl true) H'
def spStat (C : Addr) (D : Nat) : Sp := fun vs H Q _ => ∃ (p : Addr) (n t b : Int) (d : Nat) (v : V) (s : PV.St), vs = [.ref p, v, .int d] ∧ BfAt C H p n t b ∧ Dv H v s.py ∧ s.ok = true ∧ b + s.cnt ≤ 400 ∧ d + s.ht ≤ 21 ∧ s.ht ≤ D ∧
  ∀ H', BfAt C H' p (n + s.told) (t + s.trys) (b + s.cnt) → Kp p H H' → Q (.bl true) H'
def spBlk (C : Addr) (D : Nat) : Sp := fun vs H Q _ => ∃ (p : Addr) (n t b : Int) (d : Nat) (v : V) (s : Sts), vs = [.ref p, v, .int d] ∧ BfAt C H p n t b ∧ Dv H v (.tuple s.py) ∧ s.ok = true ∧ b + s.cnt ≤ 400 ∧ d + s.ht ≤ 21 ∧ s.ht ≤ D ∧
  ∀ H', BfAt C H' p (n + s.told) (t + s.trys) (b + s.cnt) → Kp p H H' → Q (.bl true) H'
theorem ok_part {k D : Nat} (hk : 7 ≤ k) {f fE fB fA fL : Addr} {fd dE dB dA dL : FuncData} (F : Fun K "is_part" "BodyForm.is_part" s_BodyForm_is_part f fd)
    (ME : Md K C "is_expression" "BodyForm.is_expression" s_BodyForm_is_expression psThing fE dE) (GE : FnOk P w K mg base CX0 k fE dE psThing (spExpr C D))
    (MB : Md K C "is_block" "BodyForm.is_block" s_BodyForm_is_block psThing fB dB) (GB : FnOk P w K mg base CX0 k fB dB psThing (spBlk C D))
    (MA : Md K C "are_args" "BodyForm.are_args" s_BodyForm_are_args psThing fA dA) (GA : FnOk P w K mg base CX0 k fA dA psThing (spArgs C D))
    (LF : Gd K mg "is_leaf" s_is_leaf ["sort", "thing"] fL dL) (T0 : BfC K mg C) : FnOk P w K mg base CX0 (k + 1) f fd psPart (spPartOk C D) := by
  have GL : FnOk P w K mg base CX0 7 fL dL ["sort", "thing"] spLeaf := ok_leaf LF.F T0.lf
  refine F.ok sc_BodyForm_is_part (fun vs H Q E h => ?_) (fun cdv A outer s H vs Q E hr h => ?_)
  · obtain ⟨p, n, t, b, d, s, v, e, pn, pt, pc, ph, rfl, _⟩ := h
    rfl
  · obtain ⟨p, n, t, b, d, s, v, e, pn, pt, pc, ph, rfl, hp, hv, hps, hc, hd, hD, q⟩ := h
    refine ⟨_, pss_cons (ps_if (pt_cmpR op_eq (pv 1) pe_str (nomark _)) (pss_one (ps_ret (pe_meth (pv 0) T0.cl ME.m GE hr ME.b .nil pass0 (pa_cons (pv 2) (pa_cons (pv 3) pa_nil))))) pss_nil)
      (pss_cons (ps_if (pt_cmpR op_eq (pv 1) pe_str (nomark _)) (pss_one (ps_ret (pe_meth (pv 0) T0.cl MB.m GB hr MB.b .nil pass0 (pa_cons (pv 2) (pa_cons (pv 3) pa_nil))))) pss_nil)
      (pss_cons (ps_if (pt_cmpR op_eq (pv 1) pe_str (nomark _)) (pss_one (ps_ret (pe_meth (pv 0) T0.cl MA.m GA hr MA.b .nil pass0 (pa_cons (pv 2) (pa_cons (pv 3) pa_nil))))) pss_nil)
      (pss_cons (ps_if (pt_cmpR op_eq (pv 1) pe_str (nomark _)) (pss_one (ps_ret (pe_or (pe_cmpR op_isN (pv 2) pe_non (nomark _)) (pe_one (pe_meth (pv 0) T0.cl ME.m GE hr ME.b .nil pass0 (pa_cons (pv 2) (pa_cons (pv 3) pa_nil))))))) pss_nil)
      (pss_one (ps_ret (pe_call GL (hr.mono hk) (by rfl) LF.g LF.F.kp LF.b .nil pass0 (pa_cons (pv 1) (pa_cons (pv 2) pa_nil)))))))), ?_⟩
    obtain ⟨dx, hp'⟩ := id hp
    have no : ∀ {m : Str}, (m == "names") = false → (m == "tries") = false → (m == "begun") = false → (bf n t b).lookup m = none := fun h1 h2 h3 => bf_no h1 h2 h3
    cases hps with
    | ex e he =>
      refine ⟨_, rfl, rfl, _, rfl, iteT ?_⟩
      refine ⟨_, rfl, p, dx, _, rfl, hp', no (by decide +kernel) (by decide +kernel) (by decide +kernel), _, rfl, _, rfl, ?_⟩
      exact ⟨p, n, t, b, d, v, e, rfl, hp, hv, he, hc, hd, hD, fun H' h1 h2 => q H' (by simpa using h1) h2⟩
    | blk bb hb =>
      refine ⟨_, rfl, rfl, _, rfl, iteF ?_⟩
      refine ⟨_, rfl, rfl, _, rfl, iteT ?_⟩
      refine ⟨_, rfl, p, dx, _, rfl, hp', no (by decide +kernel) (by decide +kernel) (by decide +kernel), _, rfl, _, rfl, ?_⟩
      exact ⟨p, n, t, b, d, v, bb, rfl, hp, hv, hb, hc, hd, hD, fun H' h1 h2 => q H' h1 h2⟩
    | args as ha =>
      refine ⟨_, rfl, rfl, _, rfl, iteF ?_⟩
      refine ⟨_, rfl, rfl, _, rfl, iteF ?_⟩
      refine ⟨_, rfl, rfl, _, rfl, iteT ?_⟩
      refine ⟨_, rfl, p, dx, _, rfl, hp', no (by decide +kernel) (by decide +kernel) (by decide +kernel), _, rfl, _, rfl, ?_⟩
      exact ⟨p, n, t, b, d, v, as, rfl, hp, hv, ha, hc, hd, hD, fun H' h1 h2 => q H' (by simpa using h1) h2⟩
    | valN =>
      cases hv
      refine ⟨_, rfl, rfl, _, rfl, iteF ?_⟩
      refine ⟨_, rfl, rfl, _, rfl, iteF ?_⟩
      refine ⟨_, rfl, rfl, _, rfl, iteF ?_⟩
      refine ⟨_, rfl, rfl, _, rfl, iteT ?_⟩
      refine ⟨_, rfl, rfl, true, rfl, iteT ?_⟩
      exact q H (by simpa using hp) (Kp.refl H)
    | val e he =>
      have hn : v ≠ .non := fun z => by
        rw [z] at hv
        obtain ⟨ds, e1, _⟩ := Ex.view e he
        rw [e1] at hv
        cases hv
      refine ⟨_, rfl, rfl, _, rfl, iteF ?_⟩
      refine ⟨_, rfl, rfl, _, rfl, iteF ?_⟩
      refine ⟨_, rfl, rfl, _, rfl, iteF ?_⟩
      refine ⟨_, rfl, rfl, _, rfl, iteT ?_⟩
      refine ⟨_, rfl, rfl, false, by rw [decide_eq_false hn], iteF ?_⟩
      refine ⟨_, rfl, p, dx, _, rfl, hp', no (by decide +kernel) (by decide +kernel) (by decide +kernel), _, rfl, _, rfl, ?_⟩
      exact ⟨p, n, t, b, d, v, e, rfl, hp, hv, he, hc, hd, hD, fun H' h1 h2 => q H' (by simpa using h1) h2⟩
    | leaf hl =>
      have nn : s ≠ "expression" ∧ s ≠ "block" ∧ s ≠ "args" ∧ s ≠ "value" := by
        cases hl <;> decide +kernel
      obtain ⟨n1, n2, n3, n4⟩ := nn
      have ff : ∀ {z : Str}, s ≠ z → decide (V.str s = V.str z) = false := fun h => decide_eq_false fun e => h (by injection e)
      refine ⟨_, rfl, rfl, false, by rw [ff n1], iteF ?_⟩
      refine ⟨_, rfl, rfl, false, by rw [ff n2], iteF ?_⟩
      refine ⟨_, rfl, rfl, false, by rw [ff n3], iteF ?_⟩
      refine ⟨_, rfl, rfl, false, by rw [ff n4], iteF ?_⟩
      exact ⟨_, rfl, _, rfl, s, v, e, rfl, hv, hl, q H (by simpa using hp) (Kp.refl H)⟩
end
end PB

namespace PB
open PySem PySem.Spec PyProof.Rows L2 PV PF T ET
/-- the tables of sorts -/
structure Tabs (K : PySem.W.Frag) (w : World) (mg : Str → Option Value) : Prop where
  ex : ∃ a es n, mg "EXPRESSIONS" = some (.ref a) ∧ KDict K w a es n ∧ ∀ e : Ex, ∃ sa, PySem.W.nsIn K a e.word = some (some (.ref sa)) ∧ ∀ H, SqT K H sa (e.sorts.map V.str)
  st : ∃ a es n, mg "STATEMENTS" = some (.ref a) ∧ KDict K w a es n ∧ ∀ s : PV.St, ∃ sa, PySem.W.nsIn K a s.word = some (some (.ref sa)) ∧ ∀ H, SqT K H sa (s.sorts.map V.str)
section
variable {P : Program} {w : World} {K : PySem.W.Frag} {mg : Str → Option Value} {base : Heap} {C : Addr}
theorem ok_expr {k j D : Nat} (hj : k ≤ j) (h1j : 1 ≤ j) {f fM fP : Addr} {fd dM dP : FuncData} (F : Fun K "is_expression" "BodyForm.is_expression" s_BodyForm_is_expression f fd)
    (MM : Md K C "may_begin" "BodyForm.may_begin" s_BodyForm_may_begin psThing fM dM) (MP : Md K C "are_parts" "BodyForm.are_parts" s_BodyForm_are_parts psParts fP dP)
    (GP : FnOk P w K mg base CX0 k fP dP psParts (spPartsOk K C D)) (TB : Tabs K w mg) (T0 : BfC K mg C) : FnOk P w K mg base CX0 (j + 1) f fd psThing (spExpr C (D + 1)) := by
  have GM : FnOk P w K mg base CX0 1 fM dM psThing (spMay C) := ok_may MM.F T0
  obtain ⟨aE, es, nE, mE, DE, hE⟩ := TB.ex
  refine F.ok sc_BodyForm_is_expression (fun vs H Q E h => ?_) (fun cdv A outer s H vs Q E hr h => ?_)
  · obtain ⟨p, n, t, b, d, v, e, rfl, _⟩ := h
    rfl
  · obtain ⟨p, n, t, b, d, v, e, rfl, hp, hv, he, hc, hd, hD, q⟩ := h
    refine ⟨_, pss_cons (ps_if (pt_not (pt_val (pe_meth (pv 0) T0.cl MM.m GM (hr.mono h1j) MM.b .nil pass0 (pa_cons (pv 1) (pa_cons (pv 2) pa_nil))))) (pss_one (ps_ret pe_bl)) pss_nil)
      (pss_cons (ps_set (i := 3) sc_BodyForm_is_expression.nd rfl (Or.inl rfl) (pe_kget (pe_glob (v := .ref aE) (by rfl) mE rfl) (pe_ix ix_tup (pv 1) pe_int (fun _ _ => rfl)) ⟨by rfl, by rfl, by rfl, by rfl⟩))
      (pss_one (ps_ret (pe_and (pe_cmpR op_notN (pv 3) pe_non (nomark _)) (pe_one (pe_meth (pv 0) T0.cl MP.m GP (hr.mono hj) MP.b .nil pass0 (pa_cons (pv 3) (pa_cons (pv 1) (pa_cons (pv 2) pa_nil))))))))), ?_⟩
    obtain ⟨ds, ev, c, ht, hps, ec, eh⟩ := Ex.view e he
    rw [ev] at hv
    obtain ⟨a, xs, rfl, ha, hl, r1⟩ := hv.tupE
    obtain ⟨u0, us, rfl, h0, r2⟩ := r1.consE
    obtain ⟨rfl, _⟩ := h0.strE
    obtain ⟨dx, hp'⟩ := id hp
    have hap : a ≠ p := ne_of ha hp' (by intro z; cases z)
    obtain ⟨sa, ns, hsa⟩ := hE e
    refine ⟨_, rfl, p, dx, _, rfl, hp', bf_no (by decide +kernel) (by decide +kernel) (by decide +kernel), _, rfl, _, rfl, ?_⟩
    refine ⟨p, a, n, t, b, d, _, us, rfl, hp, ha, by omega, by omega, fun H1 hp1 k1 => ⟨true, rfl, iteF ?_⟩⟩
    have ha1 := k1 a _ hap ha
    refine ⟨aE, es, nE, rfl, DE, _, rfl, a, _, 0, .str e.word, rfl, rfl, SqT.of ha1, atI_nat (j := 0) rfl, e.word, _, .ref sa, rfl, ns, rfl, ?_⟩
    refine ⟨_, rfl, rfl, true, rfl, ?_⟩
    obtain ⟨dx1, hp1'⟩ := id hp1
    refine ⟨_, rfl, p, dx1, _, rfl, hp1', bf_no (by decide +kernel) (by decide +kernel) (by decide +kernel), _, rfl, _, rfl, _, rfl, ?_⟩
    refine ⟨p, sa, a, n, t, b + 1, d, e.sorts, e.word, ds, 0, 0, c, ht, rfl, hp1, hsa, .tup ha1 hl (r1.same (k1.tup hp)), hps, by omega, by omega, by omega, fun H2 hp2 k2 => q H2 ?_ (k1.trans k2)⟩
    rw [show b + (e.cnt : Int) = b + 1 + c by rw [ec]; omega]
    simpa using hp2
theorem ok_stat {k j D : Nat} (hj : k ≤ j) (h1j : 1 ≤ j) {f fM fP : Addr} {fd dM dP : FuncData} (F : Fun K "is_statement" "BodyForm.is_statement" s_BodyForm_is_statement f fd)
    (MM : Md K C "may_begin" "BodyForm.may_begin" s_BodyForm_may_begin psThing fM dM) (MP : Md K C "are_parts" "BodyForm.are_parts" s_BodyForm_are_parts psParts fP dP)
    (GP : FnOk P w K mg base CX0 k fP dP psParts (spPartsOk K C D)) (TB : Tabs K w mg) (T0 : BfC K mg C) : FnOk P w K mg base CX0 (j + 1) f fd psThing (spStat C (D + 1)) := by
  have GM : FnOk P w K mg base CX0 1 fM dM psThing (spMay C) := ok_may MM.F T0
  obtain ⟨aE, es, nE, mE, DE, hE⟩ := TB.st
  refine F.ok sc_BodyForm_is_statement (fun vs H Q E h => ?_) (fun cdv A outer s H vs Q E hr h => ?_)
  · obtain ⟨p, n, t, b, d, v, e, rfl, _⟩ := h
    rfl
  · obtain ⟨p, n, t, b, d, v, e, rfl, hp, hv, he, hc, hd, hD, q⟩ := h
    refine ⟨_, pss_cons (ps_if (pt_not (pt_val (pe_meth (pv 0) T0.cl MM.m GM (hr.mono h1j) MM.b .nil pass0 (pa_cons (pv 1) (pa_cons (pv 2) pa_nil))))) (pss_one (ps_ret pe_bl)) pss_nil)
      (pss_cons (ps_set (i := 3) sc_BodyForm_is_statement.nd rfl (Or.inl rfl) (pe_kget (pe_glob (v := .ref aE) (by rfl) mE rfl) (pe_ix ix_tup (pv 1) pe_int (fun _ _ => rfl)) ⟨by rfl, by rfl, by rfl, by rfl⟩))
      (pss_cons (ps_if (pt_cmpR op_isN (pv 3) pe_non (nomark _)) (pss_one (ps_ret pe_bl)) pss_nil)
      (pss_cons (ps_if (PW.pt (pw_or (pt_cmpR op_eq (pe_ix ix_tup (pv 1) pe_int (fun _ _ => rfl)) pe_str (nomark _)) (pw_or1 (pt_cmpR op_eq (pe_ix ix_tup (pv 1) pe_int (fun _ _ => rfl)) pe_str (nomark _))))) (pss_one (ps_fldaug (pv 0) pe_int in_add)) pss_nil)
      (pss_cons (ps_if (pt_cmpR op_eq (pe_ix ix_tup (pv 1) pe_int (fun _ _ => rfl)) pe_str (nomark _)) (pss_one (ps_fldaug (pv 0) pe_int in_add)) pss_nil)
      (pss_one (ps_ret (pe_meth (pv 0) T0.cl MP.m GP (hr.mono hj) MP.b .nil pass0 (pa_cons (pv 3) (pa_cons (pv 1) (pa_cons (pv 2) pa_nil)))))))))), ?_⟩
    obtain ⟨ds, ev, pn, pt, c, ht, hps, en, et, ec, eh⟩ := PV.St.view e he
    rw [ev] at hv
    obtain ⟨a, xs, rfl, ha, hl, r1⟩ := hv.tupE
    obtain ⟨u0, us, rfl, h0, r2⟩ := r1.consE
    obtain ⟨rfl, _⟩ := h0.strE
    obtain ⟨dx, hp'⟩ := id hp
    have hap : a ≠ p := ne_of ha hp' (by intro z; cases z)
    obtain ⟨sa, ns, hsa⟩ := hE e
    refine ⟨_, rfl, p, dx, _, rfl, hp', bf_no (by decide +kernel) (by decide +kernel) (by decide +kernel), _, rfl, _, rfl, ?_⟩
    refine ⟨p, a, n, t, b, d, _, us, rfl, hp, ha, by omega, by omega, fun H1 hp1 k1 => ⟨true, rfl, iteF ?_⟩⟩
    have ha1 := k1 a _ hap ha
    refine ⟨aE, es, nE, rfl, DE, _, rfl, a, _, 0, .str e.word, rfl, rfl, SqT.of ha1, atI_nat (j := 0) rfl, e.word, _, .ref sa, rfl, ns, rfl, ?_⟩
    refine ⟨_, rfl, rfl, false, rfl, iteF ?_⟩
    -- the end, from any heap behind the two counts
    have fin : ∀ H2, BfAt C H2 p (n + e.own) (t + e.ownT) (b + 1) → Kp p H H2 → spPartsOk K C D [.ref p, .ref sa, .ref a, .int d] H2 Q (fun _ _ _ => False) := fun H2 hp2 k2 => by
      refine ⟨p, sa, a, n + e.own, t + e.ownT, b + 1, d, e.sorts, e.word, ds, pn, pt, c, ht, rfl, hp2, hsa, .tup (k2 a _ hap ha) hl (r1.same (k2.tup hp)), hps, by omega, by omega, by omega, fun H3 hp3 k3 => q H3 ?_ (k2.trans k3)⟩
      rw [show n + (e.told : Int) = n + e.own + pn by rw [en]; omega, show t + (e.trys : Int) = t + e.ownT + pt by rw [et]; omega, show b + (e.cnt : Int) = b + 1 + c by rw [ec]; omega]
      exact hp3
    obtain ⟨dx1, hp1'⟩ := id hp1
    have ix : ∀ {H2 : Hp}, H2 a = some (.tup (.str e.word :: us)) → SqT K H2 a (.str e.word :: us) := fun h => SqT.of h
    have no : ∀ {m : Str} {n t b : Int}, (m == "names") = false → (m == "tries") = false → (m == "begun") = false → (bf n t b).lookup m = none := fun h1 h2 h3 => bf_no h1 h2 h3
    have ff : ∀ {z : Str}, e.word ≠ z → decide (V.str e.word = V.str z) = false := fun h => decide_eq_false fun e => h (by injection e)
    have tt : ∀ {z : Str}, e.word = z → decide (V.str e.word = V.str z) = true := fun h => decide_eq_true (by rw [h])
    have three : (e.word = "var" ∧ e.own = 1 ∧ e.ownT = 0) ∨ (e.word = "try" ∧ e.own = 1 ∧ e.ownT = 1) ∨ (e.word ≠ "var" ∧ e.word ≠ "try" ∧ e.own = 0 ∧ e.ownT = 0) := by
      cases e <;> first | exact .inl ⟨rfl, rfl, rfl⟩ | exact .inr (.inl ⟨rfl, rfl, rfl⟩) | exact .inr (.inr ⟨by simp only [PV.St.word]; decide +kernel, by simp only [PV.St.word]; decide +kernel, rfl, rfl⟩)
    have kN : Kp p H1 (upd H1 p (.ins C dx1 (putF "names" (.int (n + 1)) (bf n t (b + 1))))) := Kp.upd
    have hN : (upd H1 p (.ins C dx1 (putF "names" (.int (n + 1)) (bf n t (b + 1))))) p = some (.ins C dx1 (bf (n + 1) t (b + 1))) := by rw [put_n]; exact upd_same
    have haN := kN a _ hap ha1
    rcases three with ⟨w1, w2, w3⟩ | ⟨w1, w2, w3⟩ | ⟨w1, w2, w3, w4⟩
    · have nv : e.word ≠ "try" := by rw [w1]; decide +kernel
      refine ⟨_, rfl, a, _, 0, .str e.word, rfl, rfl, SqT.of ha1, atI_nat (j := 0) rfl, rfl, true, by rw [tt w1], iteT ?_⟩
      refine ⟨_, rfl, p, C, dx1, _, _, rfl, hp1', T0.cl, T0.nN, bf_n, n, 1, rfl, rfl, dx1, _, hp1', (by show 3 < 1000; decide), ?_⟩
      refine ⟨_, rfl, a, _, 0, .str e.word, rfl, rfl, SqT.of haN, atI_nat (j := 0) rfl, rfl, false, by rw [ff nv], iteF ?_⟩
      refine ⟨_, rfl, p, dx1, _, rfl, hN, no (by decide +kernel) (by decide +kernel) (by decide +kernel), _, rfl, _, rfl, _, rfl, ?_⟩
      refine fin _ ?_ (k1.trans kN)
      rw [w2, w3]
      exact ⟨dx1, by simpa using hN⟩
    · have nv : e.word ≠ "var" := by rw [w1]; decide +kernel
      refine ⟨_, rfl, a, _, 0, .str e.word, rfl, rfl, SqT.of ha1, atI_nat (j := 0) rfl, rfl, false, by rw [ff nv], iteF ?_⟩
      refine ⟨_, rfl, a, _, 0, .str e.word, rfl, rfl, SqT.of ha1, atI_nat (j := 0) rfl, rfl, true, by rw [tt w1], iteT ?_⟩
      refine ⟨_, rfl, p, C, dx1, _, _, rfl, hp1', T0.cl, T0.nN, bf_n, n, 1, rfl, rfl, dx1, _, hp1', (by show 3 < 1000; decide), ?_⟩
      refine ⟨_, rfl, a, _, 0, .str e.word, rfl, rfl, SqT.of haN, atI_nat (j := 0) rfl, rfl, true, by rw [tt w1], iteT ?_⟩
      have kT : Kp p (upd H1 p (.ins C dx1 (putF "names" (.int (n + 1)) (bf n t (b + 1))))) (upd (upd H1 p (.ins C dx1 (putF "names" (.int (n + 1)) (bf n t (b + 1))))) p (.ins C dx1 (putF "tries" (.int (t + 1)) (bf (n + 1) t (b + 1))))) := Kp.upd
      have hT : (upd (upd H1 p (.ins C dx1 (putF "names" (.int (n + 1)) (bf n t (b + 1))))) p (.ins C dx1 (putF "tries" (.int (t + 1)) (bf (n + 1) t (b + 1))))) p = some (.ins C dx1 (bf (n + 1) (t + 1) (b + 1))) := by rw [put_t]; exact upd_same
      refine ⟨_, rfl, p, C, dx1, _, _, rfl, hN, T0.cl, T0.nT, bf_t, t, 1, rfl, rfl, dx1, _, hN, (by show 3 < 1000; decide), ?_⟩
      refine ⟨_, rfl, p, dx1, _, rfl, hT, no (by decide +kernel) (by decide +kernel) (by decide +kernel), _, rfl, _, rfl, _, rfl, ?_⟩
      refine fin _ ?_ ((k1.trans kN).trans kT)
      rw [w2, w3]
      exact ⟨dx1, by simpa using hT⟩
    · refine ⟨_, rfl, a, _, 0, .str e.word, rfl, rfl, SqT.of ha1, atI_nat (j := 0) rfl, rfl, false, by rw [ff w1], iteF ?_⟩
      refine ⟨_, rfl, a, _, 0, .str e.word, rfl, rfl, SqT.of ha1, atI_nat (j := 0) rfl, rfl, false, by rw [ff w2], iteF ?_⟩
      refine ⟨_, rfl, a, _, 0, .str e.word, rfl, rfl, SqT.of ha1, atI_nat (j := 0) rfl, rfl, false, by rw [ff w2], iteF ?_⟩
      refine ⟨_, rfl, p, dx1, _, rfl, hp1', no (by decide +kernel) (by decide +kernel) (by decide +kernel), _, rfl, _, rfl, _, rfl, ?_⟩
      refine fin _ ?_ k1
      rw [w3, w4]
      exact ⟨dx1, by simpa using hp1'⟩
end
end PB

namespace PB
open PySem PySem.Spec PyProof.Rows L2 PV PF T ET
def len : Sts → Nat
  | .nil => 0
  | .cons _ r => len r + 1
theorem py_len : ∀ s : Sts, s.py.length = len s
  | .nil => rfl
  | .cons _ r => by show r.py.length + 1 = len r + 1; rw [py_len r]
def alen : Exs → Nat
  | .nil => 0
  | .cons _ r => alen r + 1
theorem apy_len : ∀ s : Exs, s.py.length = alen s
  | .nil => rfl
  | .cons _ r => by show r.py.length + 1 = alen r + 1; rw [apy_len r]
theorem sums : ∀ s : Sts, s.ok = true → ∃ N T Cn : Nat → Nat, N 0 = 0 ∧ T 0 = 0 ∧ Cn 0 = 0 ∧ N (len s) = s.told ∧ T (len s) = s.trys ∧ Cn (len s) = s.cnt ∧
    ∀ i, i < len s → ∃ x : PV.St, s.py[i]? = some x.py ∧ x.ok = true ∧ N (i + 1) = N i + x.told ∧ T (i + 1) = T i + x.trys ∧ Cn (i + 1) = Cn i + x.cnt ∧ x.ht ≤ s.ht ∧ Cn (i + 1) ≤ s.cnt
  | .nil, _ => ⟨fun _ => 0, fun _ => 0, fun _ => 0, rfl, rfl, rfl, rfl, rfl, rfl, fun i hi => by cases hi⟩
  | .cons y r, hk => by
    simp only [Sts.ok, Bool.and_eq_true] at hk
    obtain ⟨N, T, Cn, z1, z2, z3, e1, e2, e3, st⟩ := sums r hk.2
    refine ⟨fun i => if i = 0 then 0 else y.told + N (i - 1), fun i => if i = 0 then 0 else y.trys + T (i - 1), fun i => if i = 0 then 0 else y.cnt + Cn (i - 1), rfl, rfl, rfl, by simp [e1, len, Sts.told], by simp [e2, len, Sts.trys], by simp [e3, len, Sts.cnt], fun i hi => ?_⟩
    cases i with
    | zero => exact ⟨y, by simp [Sts.py], hk.1, by simp [z1], by simp [z2], by simp [z3], by simp only [Sts.ht]; exact Nat.le_max_left _ _, by simp [z3, Sts.cnt]⟩
    | succ i =>
      obtain ⟨x, a1, a2, a4, a5, a6, a7, a8⟩ := st i (by simpa [len] using hi)
      refine ⟨x, by simpa [Sts.py] using a1, a2, ?_, ?_, ?_, by simp only [Sts.ht]; exact Nat.le_trans a7 (Nat.le_max_right _ _), ?_⟩
      · simp [a4]; omega
      · simp [a5]; omega
      · simp [a6]; omega
      · simp [Sts.cnt]; omega
theorem asums : ∀ s : Exs, s.ok = true → ∃ Cn : Nat → Nat, Cn 0 = 0 ∧ Cn (alen s) = s.cnt ∧
    ∀ i, i < alen s → ∃ x : Ex, s.py[i]? = some x.py ∧ x.ok = true ∧ Cn (i + 1) = Cn i + x.cnt ∧ x.ht ≤ s.ht ∧ Cn (i + 1) ≤ s.cnt
  | .nil, _ => ⟨fun _ => 0, rfl, rfl, fun i hi => by cases hi⟩
  | .cons y r, hk => by
    simp only [Exs.ok, Bool.and_eq_true] at hk
    obtain ⟨Cn, z3, e3, st⟩ := asums r hk.2
    refine ⟨fun i => if i = 0 then 0 else y.cnt + Cn (i - 1), rfl, by simp [e3, alen, Exs.cnt], fun i hi => ?_⟩
    cases i with
    | zero => exact ⟨y, by simp [Exs.py], hk.1, by simp [z3], by simp only [Exs.ht]; exact Nat.le_max_left _ _, by simp [z3, Exs.cnt]⟩
    | succ i =>
      obtain ⟨x, a1, a2, a6, a7, a8⟩ := st i (by simpa [alen] using hi)
      refine ⟨x, by simpa [Exs.py] using a1, a2, ?_, by simp only [Exs.ht]; exact Nat.le_trans a7 (Nat.le_max_right _ _), ?_⟩
      · simp [a6]; omega
      · simp [Exs.cnt]; omega
section
variable {P : Program} {w : World} {K : PySem.W.Frag} {mg : Str → Option Value} {base : Heap} {C : Addr}
theorem ok_blk {k D : Nat} {f fS : Addr} {fd dS : FuncData} (F : Fun K "is_block" "BodyForm.is_block" s_BodyForm_is_block f fd)
    (MS : Md K C "is_statement" "BodyForm.is_statement" s_BodyForm_is_statement psThing fS dS) (GS : FnOk P w K mg base CX0 k fS dS psThing (spStat C D)) (T0 : BfC K mg C) : FnOk P w K mg base CX0 (k + 1) f fd psThing (spBlk C D) := by
  refine F.ok sc_BodyForm_is_block (fun vs H Q E h => ?_) (fun cdv A outer s H vs Q E hr h => ?_)
  · obtain ⟨p, n, t, b, d, v, e, rfl, _⟩ := h
    rfl
  · obtain ⟨p, n, t, b, d, v, e, rfl, hp, hv, he, hc, hd, hD, q⟩ := h
    have bt := T0.b
    refine ⟨_, pss_cons (ps_if (pt_not (pt_val (pe_callB call_isi (by rfl) bt.isi (by decide +kernel) (pa_cons (pv 1) (pa_cons (pe_bltn (by rfl) bt.tuple (v := .ty "tuple") (by decide +kernel) rfl) pa_nil))))) (pss_one (ps_ret pe_bl)) pss_nil)
      (pss_cons (ps_for PassesOwn.never rfl (pi_tup (pv 1)) (pg_name (i := 3) sc_BodyForm_is_block.nd rfl (Or.inl rfl))
        (pss_one (ps_if (pt_not (pt_val (pe_meth (pv 0) T0.cl MS.m GS hr MS.b .nil pass0 (pa_cons (pv 3) (pa_cons (pv 2) pa_nil))))) (pss_one (ps_ret pe_bl)) pss_nil)))
      (pss_one (ps_ret pe_bl))), ?_⟩
    obtain ⟨a, xs, rfl, ha, hl, r1⟩ := hv.tupE
    obtain ⟨t0, t1, t2, _⟩ := tupTy (K := K) ha
    obtain ⟨dx, hp'⟩ := id hp
    have hap : a ≠ p := ne_of ha hp' (by intro z; cases z)
    obtain ⟨N, T, Cn, z1, z2, z3, e1, e2, e3, st⟩ := sums e he
    have hxl : xs.length = len e := by rw [r1.len, py_len]
    refine ⟨_, rfl, _, _, _, _, _, rfl, .ty _, t1, t2, true, rfl, iteF ?_⟩
    refine ⟨_, rfl, a, rfl, ⟨xs, SqT.of ha⟩, ?_⟩
    refine for_tup (xs := xs) (fun i σ H' => (∃ s3, σ = [some (.ref p), some (.ref a), some (.int d), s3]) ∧ BfAt C H' p (n + N i) (t + T i) (b + Cn i) ∧ Kp p H H') ⟨⟨_, rfl⟩, by rw [z1, z2, z3]; simpa using hp, Kp.refl H⟩ (fun i σ H' _ ⟨_, _, k⟩ => SqT.of (k a _ hap ha)) ?_ ?_
    · rintro i x σ H1 hx ⟨⟨s3, rfl⟩, hp1, k1⟩
      have hi : i < len e := by
        have := (List.getElem?_eq_some_iff.mp hx).1
        omega
      obtain ⟨y, a1, a2, a4, a5, a6, a7, a8⟩ := st i hi
      obtain ⟨v, hv1, dv⟩ := r1.get a1
      obtain rfl : x = v := by
        rw [hx] at hv1
        exact Option.some.inj hv1
      obtain ⟨dx1, hp1'⟩ := id hp1
      refine ⟨_, rfl, p, dx1, _, rfl, hp1', bf_no (by decide +kernel) (by decide +kernel) (by decide +kernel), _, rfl, _, rfl, ?_⟩
      refine ⟨p, _, _, _, d, x, y, rfl, hp1, dv.same (k1.tup hp), a2, by omega, by omega, by omega, fun H2 hp2 k2 => ⟨true, rfl, iteF ?_⟩⟩
      refine ⟨⟨_, rfl⟩, ?_, k1.trans k2⟩
      rw [show n + (N (i + 1) : Int) = n + N i + y.told by rw [a4]; omega, show t + (T (i + 1) : Int) = t + T i + y.trys by rw [a5]; omega, show b + (Cn (i + 1) : Int) = b + Cn i + y.cnt by rw [a6]; omega]
      exact hp2
    · rintro σ H1 ⟨_, hp1, k1⟩
      rw [hxl, e1, e2, e3] at hp1
      exact q _ hp1 k1
theorem ok_args {k D : Nat} {f fS : Addr} {fd dS : FuncData} (F : Fun K "are_args" "BodyForm.are_args" s_BodyForm_are_args f fd)
    (MS : Md K C "is_expression" "BodyForm.is_expression" s_BodyForm_is_expression psThing fS dS) (GS : FnOk P w K mg base CX0 k fS dS psThing (spExpr C D)) (T0 : BfC K mg C) : FnOk P w K mg base CX0 (k + 1) f fd psThing (spArgs C D) := by
  refine F.ok sc_BodyForm_are_args (fun vs H Q E h => ?_) (fun cdv A outer s H vs Q E hr h => ?_)
  · obtain ⟨p, n, t, b, d, v, e, rfl, _⟩ := h
    rfl
  · obtain ⟨p, n, t, b, d, v, e, rfl, hp, hv, he, hc, hd, hD, q⟩ := h
    have bt := T0.b
    refine ⟨_, pss_cons (ps_if (pt_not (pt_val (pe_callB call_isi (by rfl) bt.isi (by decide +kernel) (pa_cons (pv 1) (pa_cons (pe_bltn (by rfl) bt.tuple (v := .ty "tuple") (by decide +kernel) rfl) pa_nil))))) (pss_one (ps_ret pe_bl)) pss_nil)
      (pss_cons (ps_for PassesOwn.never rfl (pi_tup (pv 1)) (pg_name (i := 3) sc_BodyForm_are_args.nd rfl (Or.inl rfl))
        (pss_one (ps_if (pt_not (pt_val (pe_meth (pv 0) T0.cl MS.m GS hr MS.b .nil pass0 (pa_cons (pv 3) (pa_cons (pv 2) pa_nil))))) (pss_one (ps_ret pe_bl)) pss_nil)))
      (pss_one (ps_ret pe_bl))), ?_⟩
    obtain ⟨a, xs, rfl, ha, hl, r1⟩ := hv.tupE
    obtain ⟨t0, t1, t2, _⟩ := tupTy (K := K) ha
    obtain ⟨dx, hp'⟩ := id hp
    have hap : a ≠ p := ne_of ha hp' (by intro z; cases z)
    obtain ⟨Cn, z3, e3, st⟩ := asums e he
    have hxl : xs.length = alen e := by rw [r1.len, apy_len]
    refine ⟨_, rfl, _, _, _, _, _, rfl, .ty _, t1, t2, true, rfl, iteF ?_⟩
    refine ⟨_, rfl, a, rfl, ⟨xs, SqT.of ha⟩, ?_⟩
    refine for_tup (xs := xs) (fun i σ H' => (∃ s3, σ = [some (.ref p), some (.ref a), some (.int d), s3]) ∧ BfAt C H' p n t (b + Cn i) ∧ Kp p H H') ⟨⟨_, rfl⟩, by rw [z3]; simpa using hp, Kp.refl H⟩ (fun i σ H' _ ⟨_, _, k⟩ => SqT.of (k a _ hap ha)) ?_ ?_
    · rintro i x σ H1 hx ⟨⟨s3, rfl⟩, hp1, k1⟩
      have hi : i < alen e := by
        have := (List.getElem?_eq_some_iff.mp hx).1
        omega
      obtain ⟨y, a1, a2, a6, a7, a8⟩ := st i hi
      obtain ⟨v, hv1, dv⟩ := r1.get a1
      obtain rfl : x = v := by
        rw [hx] at hv1
        exact Option.some.inj hv1
      obtain ⟨dx1, hp1'⟩ := id hp1
      refine ⟨_, rfl, p, dx1, _, rfl, hp1', bf_no (by decide +kernel) (by decide +kernel) (by decide +kernel), _, rfl, _, rfl, ?_⟩
      refine ⟨p, _, _, _, d, x, y, rfl, hp1, dv.same (k1.tup hp), a2, by omega, by omega, by omega, fun H2 hp2 k2 => ⟨true, rfl, iteF ?_⟩⟩
      refine ⟨⟨_, rfl⟩, ?_, k1.trans k2⟩
      rw [show b + (Cn (i + 1) : Int) = b + Cn i + y.cnt by rw [a6]; omega]
      exact hp2
    · rintro σ H1 ⟨_, hp1, k1⟩
      rw [hxl, e3] at hp1
      exact q _ hp1 k1
theorem ht_pos (e : Ex) : 1 ≤ e.ht := by cases e <;> simp [Ex.ht]
theorem sht_pos (s : PV.St) : 1 ≤ s.ht := by cases s <;> simp [PV.St.ht]
/-- the six methods -/
structure Six (K : PySem.W.Frag) (mg : Str → Option Value) (C fE fS fB fA fM fP fT fL : Addr) (dE dS dB dA dM dP dT dL : FuncData) : Prop where
  e : Md K C "is_expression" "BodyForm.is_expression" s_BodyForm_is_expression psThing fE dE
  s : Md K C "is_statement" "BodyForm.is_statement" s_BodyForm_is_statement psThing fS dS
  b : Md K C "is_block" "BodyForm.is_block" s_BodyForm_is_block psThing fB dB
  a : Md K C "are_args" "BodyForm.are_args" s_BodyForm_are_args psThing fA dA
  m : Md K C "may_begin" "BodyForm.may_begin" s_BodyForm_may_begin psThing fM dM
  p : Md K C "are_parts" "BodyForm.are_parts" s_BodyForm_are_parts psParts fP dP
  t : Md K C "is_part" "BodyForm.is_part" s_BodyForm_is_part psPart fT dT
  l : Gd K mg "is_leaf" s_is_leaf ["sort", "thing"] fL dL
theorem all_ok {fE fS fB fA fM fP fT fL : Addr} {dE dS dB dA dM dP dT dL : FuncData} (X : Six K mg C fE fS fB fA fM fP fT fL dE dS dB dA dM dP dT dL) (TB : Tabs K w mg) (T0 : BfC K mg C) :
    ∀ D : Nat, FnOk P w K mg base CX0 (7 + 4 * D) fE dE psThing (spExpr C D) ∧ FnOk P w K mg base CX0 (7 + 4 * D) fB dB psThing (spBlk C D) ∧ FnOk P w K mg base CX0 (7 + 4 * D) fA dA psThing (spArgs C D) := by
  intro D
  induction D with
  | zero =>
    have vE : FnOk P w K mg base CX0 6 fE dE psThing (spExpr C 0) := by
      refine X.e.F.ok sc_BodyForm_is_expression (fun vs H Q E h => ?_) (fun cdv A outer s H vs Q E hr h => ?_)
      · obtain ⟨p, n, t, b, d, v, e, rfl, _⟩ := h
        rfl
      · obtain ⟨p, n, t, b, d, v, e, rfl, hp, hv, he, hc, hd, hD, q⟩ := h
        have := ht_pos e
        omega
    have vS : FnOk P w K mg base CX0 6 fS dS psThing (spStat C 0) := by
      refine X.s.F.ok sc_BodyForm_is_statement (fun vs H Q E h => ?_) (fun cdv A outer s H vs Q E hr h => ?_)
      · obtain ⟨p, n, t, b, d, v, e, rfl, _⟩ := h
        rfl
      · obtain ⟨p, n, t, b, d, v, e, rfl, hp, hv, he, hc, hd, hD, q⟩ := h
        have := sht_pos e
        omega
    exact ⟨vE.mono (by omega), ok_blk X.b.F X.s vS T0, ok_args X.a.F X.e vE T0⟩
  | succ D ih =>
    obtain ⟨gE, gB, gA⟩ := ih
    have gT : FnOk P w K mg base CX0 (7 + 4 * D + 1) fT dT psPart (spPartOk C D) := ok_part (by omega) X.t.F X.e gE X.b gB X.a gA X.l T0
    have gP : FnOk P w K mg base CX0 (7 + 4 * D + 1 + 1) fP dP psParts (spPartsOk K C D) := ok_parts X.p.F X.t gT T0
    have nE : FnOk P w K mg base CX0 (7 + 4 * D + 3) fE dE psThing (spExpr C (D + 1)) := ok_expr (k := 7 + 4 * D + 1 + 1) (Nat.le_refl _) (by omega) X.e.F X.m X.p gP TB T0
    have nS : FnOk P w K mg base CX0 (7 + 4 * D + 3) fS dS psThing (spStat C (D + 1)) := ok_stat (k := 7 + 4 * D + 1 + 1) (Nat.le_refl _) (by omega) X.s.F X.m X.p gP TB T0
    have nB : FnOk P w K mg base CX0 (7 + 4 * D + 3 + 1) fB dB psThing (spBlk C (D + 1)) := ok_blk X.b.F X.s nS T0
    have nA : FnOk P w K mg base CX0 (7 + 4 * D + 3 + 1) fA dA psThing (spArgs C (D + 1)) := ok_args X.a.F X.e nE T0
    exact ⟨nE.mono (by omega), nB, nA⟩
end
end PB

namespace PP
open PySem PySem.Spec PyProof.Rows L2 PV PF T ET PB
theorem put0 (n : Int) : putF "begun" (.int 0) (putF "tries" (.int 0) (putF "names" (.int n) ([] : List (Str × V)))) = bf n 0 0 := by
  have e1 : putF "tries" (.int 0) (putF "names" (.int n) ([] : List (Str × V))) = ([(("names" : Str), V.int n), (("tries" : Str), V.int 0)] : List (Str × V)) := by
    show (if ("names" : Str) = "tries" then _ else (("names" : Str), V.int n) :: [(("tries" : Str), V.int 0)]) = _
    rw [if_neg nt]
  rw [e1]
  show (if ("names" : Str) = "begun" then _ else (("names" : Str), V.int n) :: (if ("tries" : Str) = "begun" then _ else (("tries" : Str), V.int 0) :: [(("begun" : Str), V.int 0)])) = _
  rw [if_neg nb, if_neg tb]
  rfl
def bodyOk (b : Sts) (params : Nat) : Prop := b.ok = true ∧ params + b.told ≤ 16 ∧ b.trys ≤ 10 ∧ b.cnt ≤ 400 ∧ b.ht ≤ 20
/-- what is_body looks at -/
structure Body (K : PySem.W.Frag) (w : World) (mg : Str → Option Value) : Prop where
  ex : ∃ C fI dI fE fS fB fA fM fP fT fL dE dS dB dA dM dP dT dL, Six K mg C fE fS fB fA fM fP fT fL dE dS dB dA dM dP dT dL ∧ BfC K mg C ∧ Mk K C fI ∧ Fun K "__init__" "BodyForm.__init__" s_BodyForm_init fI dI ∧ Binds K dI ["self", "params"] [] ∧ mg "BodyForm" = some (.ref C)
  tabs : Tabs K w mg
  mn : ∃ t, mg "MOST_NAMES_TOLD" = some (.int 16 t)
  mt : ∃ t, mg "MOST_TRIES" = some (.int 10 t)
section
variable {P : Program} {w : World} {K : PySem.W.Frag} {mg : Str → Option Value} {base : Heap} {C : Addr}
def spInitB (C : Addr) : Sp := fun vs H Q _ => ∃ (p dx : Addr) (n : Int), vs = [.ref p, .int n] ∧ H p = some (.ins C dx []) ∧ ∀ H', BfAt C H' p n 0 0 → (∀ b o, H b = some o → b ≠ p → H' b = some o) → Q .non H'
theorem ok_initB {f : Addr} {fd : FuncData} (F : Fun K "__init__" "BodyForm.__init__" s_BodyForm_init f fd) (T0 : BfC K mg C) : FnOk P w K mg base CX0 1 f fd ["self", "params"] (spInitB C) := by
  refine F.ok sc_BodyForm_init (fun vs H Q E h => ?_) (fun cdv A outer s H vs Q E hr h => ?_)
  · obtain ⟨p, dx, n, rfl, _⟩ := h
    rfl
  · obtain ⟨p, dx, n, rfl, hp, q⟩ := h
    refine ⟨_, pss_cons (ps_fld (pv 0) (pv 1) rfl) (pss_cons (ps_fld (pv 0) pe_int rfl) (pss_one (ps_fld (pv 0) pe_int rfl))), ?_⟩
    refine ⟨_, rfl, _, rfl, p, C, dx, [], rfl, hp, T0.cl, T0.nN, (by show 0 < 1000; decide), ?_⟩
    refine ⟨_, rfl, p, C, dx, _, rfl, upd_same, T0.cl, T0.nT, (by show 1 < 1000; decide), ?_⟩
    refine ⟨_, rfl, p, C, dx, _, rfl, upd_same, T0.cl, T0.nB, (by
      have e1 : putF "tries" (.int 0) (putF "names" (.int n) ([] : List (Str × V))) = ([(("names" : Str), V.int n), (("tries" : Str), V.int 0)] : List (Str × V)) := by
        show (if ("names" : Str) = "tries" then _ else (("names" : Str), V.int n) :: [(("tries" : Str), V.int 0)]) = _
        rw [if_neg nt]
      rw [e1]
      show 2 < 1000
      decide), ?_⟩
    refine q _ ⟨dx, ?_⟩ fun b o e hb => ?_
    · rw [upd_same, put0]
    · rw [upd_ne hb, upd_ne hb, upd_ne hb]
      exact e
def spBody : Sp := fun vs H Q _ => ∃ (v : V) (b : Sts) (n : Nat), vs = [v, .int n] ∧ Dv H v (.tuple b.py) ∧ bodyOk b n ∧ ∀ H', Same H H' → Q (.bl true) H'
theorem ok_body {f : Addr} {fd : FuncData} (F : Fun K "is_body" "is_body" s_is_body f fd) (T1 : Body K w mg) : FnOk P w K mg base CX0 88 f fd ["thing", "params"] spBody := by
  obtain ⟨C, fI, dI, fE, fS, fB, fA, fM, fP, fT, fL, dE, dS, dB, dA, dM, dP, dT, dL, X, T0, MK, FI, bI, gC⟩ := T1.ex
  have GI : FnOk P w K mg base CX0 1 fI dI ["self", "params"] (spInitB C) := ok_initB FI T0
  have GB : FnOk P w K mg base CX0 87 fB dB psThing (spBlk C 20) := (all_ok X T1.tabs T0 20).2.1
  obtain ⟨_, mmn⟩ := T1.mn
  obtain ⟨_, mmt⟩ := T1.mt
  refine F.ok sc_is_body (fun vs H Q E h => ?_) (fun cdv A outer s H vs Q E hr h => ?_)
  · obtain ⟨v, b, n, rfl, _⟩ := h
    rfl
  · obtain ⟨v, b, n, rfl, hv, ⟨h1, h2, h3, h4, h5⟩, q⟩ := h
    refine ⟨_, pss_cons (ps_set (i := 2) sc_is_body.nd rfl (Or.inl rfl) (pe_make MK GI (hr.mono (by decide)) (by rfl) gC bI .nil pass0 (pa_cons (pv 1) pa_nil)))
      (pss_one (ps_ret (pe_and (pe_meth (pv 2) T0.cl X.b.m GB hr X.b.b .nil pass0 (pa_cons (pv 0) (pa_cons pe_int pa_nil)))
        (pe_and (pe_cmp (pc_le (pe_fld (pv 2) rfl) (pe_glob (v := .int 16) (by rfl) mmn ⟨_, rfl⟩)) rfl) (pe_one (pe_cmp (pc_le (pe_fld (pv 2) rfl) (pe_glob (v := .int 10) (by rfl) mmt ⟨_, rfl⟩)) rfl)))))), ?_⟩
    refine ⟨_, rfl, fun x dx nx nd ne => ⟨x, dx, n, rfl, upd_same, fun H1 hp1 k1 => ⟨rfl, ?_⟩⟩⟩
    have s1 : Same H H1 := Same.made nx nd k1
    obtain ⟨dx1, hp1'⟩ := id hp1
    refine ⟨_, rfl, x, dx1, _, rfl, hp1', bf_no (by decide +kernel) (by decide +kernel) (by decide +kernel), _, rfl, ?_⟩
    refine ⟨x, n, 0, 0, 1, v, b, rfl, hp1, hv.same (TupSame.of s1), h1, by omega, by omega, by omega, fun H2 hp2 k2 => ⟨true, rfl, ?_⟩⟩
    obtain ⟨dx2, hp2'⟩ := id hp2
    refine ⟨_, rfl, x, C, dx2, _, _, rfl, hp2', T0.cl, T0.nN, bf_n, _, _, rfl, rfl, true, (by show V.bl (decide ((n : Int) + b.told ≤ 16)) = _; rw [decide_eq_true (by omega)]), ?_⟩
    refine ⟨_, rfl, x, C, dx2, _, _, rfl, hp2', T0.cl, T0.nT, bf_t, _, _, rfl, rfl, ?_⟩
    have e3 : decide ((0 : Int) + b.trys ≤ 10) = true := decide_eq_true (by omega)
    show Q (.bl (decide ((0 : Int) + b.trys ≤ 10))) H2
    rw [e3]
    exact q H2 fun a o e => k2 a o (fun z => by rw [z, nx] at e; cases e) (s1 a o e)
end
end PP

namespace PP
open PySem PySem.Spec PyProof.Rows L2 PV PF T ET PB
def nkOk (ps : List (Str × Kd)) (m : Nat) : Prop := ps.length ≤ m ∧ ∀ p ∈ ps, nameB p.1 = true ∧ kindOk p.2 3 = true
def resOk : Option Kd → Prop
  | none => True
  | some k => kindOk k 3 = true
def fnOk (f : Fn) : Prop := nameB f.name = true ∧ nkOk f.params 6 ∧ resOk f.result ∧ bodyOk f.body f.params.length
def aboveOk : Option Str → Prop
  | none => True
  | some z => nameB z = true
def clOk (c : Cl) : Prop := nameB c.name = true ∧ aboveOk c.above ∧ nkOk c.fields 8 ∧ c.methods.length ≤ 8 ∧ ∀ f ∈ c.methods, fnOk f
def meths (cs : List Cl) : Nat := (cs.map fun c => c.methods.length).sum
def progOk (cs : List Cl) (fs : List Fn) : Prop := cs.length ≤ 12 ∧ fs.length + meths cs ≤ 30 ∧ (∀ c ∈ cs, clOk c) ∧ ∀ f ∈ fs, fnOk f
structure Pg (K : PySem.W.Frag) (w : World) (mg : Str → Option Value) : Prop where
  kd : ∃ fT fN fK dT dN dK, KdT K mg fT fN fK dT dN dK
  to_ : ∃ f fd, Gd K mg "is_tuple_to" s_is_tuple_to ["thing", "most"] f fd
  nk : ∃ f fd, Gd K mg "are_named_kinds" s_are_named_kinds ["thing", "most"] f fd
  fn : ∃ f fd, Gd K mg "is_function" s_is_function ["thing"] f fd
  fns : ∃ f fd, Gd K mg "are_functions" s_are_functions ["things"] f fd
  cl : ∃ f fd, Gd K mg "is_class" s_is_class ["thing"] f fd
  bd : ∃ f fd, Gd K mg "is_body" s_is_body ["thing", "params"] f fd
  body : Body K w mg
  mr : ∃ t, mg "MOST_ROWS" = some (.int 3 t)
  mp : ∃ t, mg "MOST_PARAMS" = some (.int 6 t)
  mf : ∃ t, mg "MOST_FIELDS" = some (.int 8 t)
  mm : ∃ t, mg "MOST_METHODS" = some (.int 8 t)
  mc : ∃ t, mg "MOST_CLASSES" = some (.int 12 t)
  mu : ∃ t, mg "MOST_FUNCTIONS" = some (.int 30 t)
section
variable {P : Program} {w : World} {K : PySem.W.Frag} {mg : Str → Option Value} {base : Heap}
def spNk : Sp := fun vs H Q _ => ∃ (v : V) (ps : List (Str × Kd)) (m : Nat), vs = [v, .int m] ∧ Dv H v (.tuple (ps.map pair)) ∧ nkOk ps m ∧ Q (.bl true) H
theorem ok_nk {f : Addr} {fd : FuncData} (F : Fun K "are_named_kinds" "are_named_kinds" s_are_named_kinds f fd) (T1 : Pg K w mg) : FnOk P w K mg base CX0 7 f fd ["thing", "most"] spNk := by
  obtain ⟨fT, fN, fK, dT, dN, dK, kd⟩ := T1.kd
  obtain ⟨fO, dO, gO⟩ := T1.to_
  obtain ⟨_, mmr⟩ := T1.mr
  have b := kd.nm.b
  have GO : FnOk P w K mg base CX0 1 fO dO ["thing", "most"] spTto := ok_tto gO.F b
  have GT : FnOk P w K mg base CX0 1 fT dT ["thing", "many"] spTof := ok_tof kd.tof.F b
  have GN : FnOk P w K mg base CX0 1 fN dN ["thing"] spName := ok_name kd.name.F kd.nm
  have GK : FnOk P w K mg base CX0 6 fK dK ["thing", "rows"] (spKind 4) := ok_kind kd 4
  refine F.ok sc_are_named_kinds (fun vs H Q E h => ?_) (fun cdv A outer s H vs Q E hr h => ?_)
  · obtain ⟨v, ps, m, rfl, _⟩ := h
    rfl
  · obtain ⟨v, ps, m, rfl, hv, ⟨hl, hps⟩, q⟩ := h
    refine ⟨_, pss_cons (ps_if (pt_not (pt_val (pe_call GO (hr.mono (by decide)) (by rfl) gO.g gO.F.kp gO.b .nil pass0 (pa_cons (pv 0) (pa_cons (pv 1) pa_nil))))) (pss_one (ps_ret pe_bl)) pss_nil)
      (pss_cons (ps_for PassesOwn.never rfl (pi_tup (pv 0)) (pg_name (i := 2) sc_are_named_kinds.nd rfl (Or.inl rfl))
        (pss_one (ps_if (PW.pt (pw_or (pt_not (pt_val (pe_call GT (hr.mono (by decide)) (by rfl) kd.tof.g kd.tof.F.kp kd.tof.b .nil pass0 (pa_cons (pv 2) (pa_cons pe_int pa_nil)))))
            (pw_or (pt_not (pt_val (pe_call GN (hr.mono (by decide)) (by rfl) kd.name.g kd.name.F.kp kd.name.b .nil pass0 (pa_cons (pe_ix ix_tup (pv 2) pe_int (fun _ _ => rfl)) pa_nil))))
            (pw_or1 (pt_not (pt_val (pe_call GK hr (by rfl) kd.kind.g kd.kind.F.kp kd.kind.b .nil pass0 (pa_cons (pe_ix ix_tup (pv 2) pe_int (fun _ _ => rfl)) (pa_cons (pe_glob (v := .int 3) (by rfl) mmr ⟨_, rfl⟩) pa_nil)))))))))
          (pss_one (ps_ret pe_bl)) pss_nil)))
      (pss_one (ps_ret pe_bl))), ?_⟩
    obtain ⟨a, xs, rfl, ha, hx, r1⟩ := hv.tupE
    have hxl : xs.length = ps.length := by rw [r1.len, List.length_map]
    refine ⟨_, rfl, _, rfl, a, xs, m, rfl, ha, true, (by rw [decide_eq_true (by omega)]), iteF ?_⟩
    refine ⟨_, rfl, a, rfl, ⟨xs, SqT.of ha⟩, ?_⟩
    refine for_tup (xs := xs) (fun i σ H' => (∃ s2, σ = [some (.ref a), some (.int m), s2]) ∧ H' = H) ⟨⟨_, rfl⟩, rfl⟩ (fun i σ H' _ h2 => by rw [h2.2]; exact SqT.of ha) ?_ ?_
    · rintro i x σ H1 hxi ⟨⟨s2, rfl⟩, rfl⟩
      have hi : i < ps.length := by
        have := (List.getElem?_eq_some_iff.mp hxi).1
        omega
      obtain ⟨v2, hv2, dv⟩ := r1.get (i := i) (d := pair ps[i]) (by rw [List.getElem?_map, List.getElem?_eq_getElem hi]; rfl)
      obtain rfl : x = v2 := by
        rw [hxi] at hv2
        exact Option.some.inj hv2
      obtain ⟨o1, o2⟩ := hps _ (List.getElem_mem hi)
      obtain ⟨a2, ys, rfl, ha2, _, r2⟩ := dv.tupE
      obtain ⟨u0, us, rfl, h0, r3⟩ := r2.consE
      obtain ⟨u1, us, rfl, h1, r4⟩ := r3.consE
      obtain rfl := r4.nilE
      obtain ⟨rfl, hz⟩ := h0.strE
      refine ⟨_, rfl, a2, _, 2, rfl, ha2, true, rfl, iteF ?_⟩
      refine ⟨_, rfl, a2, _, 0, .str ps[i].1, rfl, rfl, SqT.of ha2, rfl, _, rfl, hz, true, (by rw [o1]), iteF ?_⟩
      refine ⟨_, rfl, a2, _, 1, u1, rfl, rfl, SqT.of ha2, rfl, u1, ps[i].2, 3, rfl, by decide, h1, o2, true, rfl, iteF ?_⟩
      exact ⟨⟨_, rfl⟩, rfl⟩
    · rintro σ H1 ⟨_, rfl⟩
      exact q
def spFn : Sp := fun vs H Q _ => ∃ (v : V) (f : Fn), vs = [v] ∧ Dv H v f.py ∧ fnOk f ∧ ∀ H', Same H H' → Q (.bl true) H'
theorem ok_fn {f : Addr} {fd : FuncData} (F : Fun K "is_function" "is_function" s_is_function f fd) (T1 : Pg K w mg) : FnOk P w K mg base CX0 89 f fd ["thing"] spFn := by
  obtain ⟨fT, fN, fK, dT, dN, dK, kd⟩ := T1.kd
  obtain ⟨fO, dO, gO⟩ := T1.nk
  obtain ⟨fB, dB, gB⟩ := T1.bd
  obtain ⟨_, mmr⟩ := T1.mr
  obtain ⟨_, mmp⟩ := T1.mp
  have b := kd.nm.b
  have GO : FnOk P w K mg base CX0 7 fO dO ["thing", "most"] spNk := ok_nk gO.F T1
  have GT : FnOk P w K mg base CX0 1 fT dT ["thing", "many"] spTof := ok_tof kd.tof.F b
  have GN : FnOk P w K mg base CX0 1 fN dN ["thing"] spName := ok_name kd.name.F kd.nm
  have GK : FnOk P w K mg base CX0 6 fK dK ["thing", "rows"] (spKind 4) := ok_kind kd 4
  have GB : FnOk P w K mg base CX0 88 fB dB ["thing", "params"] spBody := ok_body gB.F T1.body
  refine F.ok sc_is_function (fun vs H Q E h => ?_) (fun cdv A outer s H vs Q E hr h => ?_)
  · obtain ⟨v, f, rfl, _⟩ := h
    rfl
  · obtain ⟨v, f, rfl, hv, ⟨h1, h2, h3, h4⟩, q⟩ := h
    refine ⟨_, pss_cons (ps_if (pt_not (pt_val (pe_call GT (hr.mono (by decide)) (by rfl) kd.tof.g kd.tof.F.kp kd.tof.b .nil pass0 (pa_cons (pv 0) (pa_cons pe_int pa_nil))))) (pss_one (ps_ret pe_bl)) pss_nil)
      (pss_cons (ps_asg (pv 0) (pg_tup rfl (pgs_cons (pg_name (i := 1) sc_is_function.nd rfl (Or.inl rfl)) (pgs_cons (pg_name (i := 2) sc_is_function.nd rfl (Or.inl rfl)) (pgs_cons (pg_name (i := 3) sc_is_function.nd rfl (Or.inl rfl)) (pgs_cons (pg_name (i := 4) sc_is_function.nd rfl (Or.inl rfl)) pgs_nil))))))
      (pss_cons (ps_if (PW.pt (pw_or (pt_not (pt_val (pe_call GN (hr.mono (by decide)) (by rfl) kd.name.g kd.name.F.kp kd.name.b .nil pass0 (pa_cons (pv 1) pa_nil))))
          (pw_or1 (pt_not (pt_val (pe_call GO (hr.mono (by decide)) (by rfl) gO.g gO.F.kp gO.b .nil pass0 (pa_cons (pv 2) (pa_cons (pe_glob (v := .int 6) (by rfl) mmp ⟨_, rfl⟩) pa_nil))))))))
        (pss_one (ps_ret pe_bl)) pss_nil)
      (pss_one (ps_ret (pe_and (pe_or (pe_cmpR op_isN (pv 3) pe_non (nomark _)) (pe_one (pe_call GK (hr.mono (by decide)) (by rfl) kd.kind.g kd.kind.F.kp kd.kind.b .nil pass0 (pa_cons (pv 3) (pa_cons (pe_glob (v := .int 3) (by rfl) mmr ⟨_, rfl⟩) pa_nil)))))
        (pe_one (pe_call GB hr (by rfl) gB.g gB.F.kp gB.b .nil pass0 (pa_cons (pv 4) (pa_cons (pe_callB call_len_seq (by rfl) b.len PySem.boot_len (pa_cons (pv 2) pa_nil)) pa_nil))))))))), ?_⟩
    obtain ⟨a, xs, rfl, ha, hx, r1⟩ := hv.tupE
    obtain ⟨u0, us, rfl, g0, r2⟩ := r1.consE
    obtain ⟨u1, us, rfl, g1, r2⟩ := r2.consE
    obtain ⟨u2, us, rfl, g2, r2⟩ := r2.consE
    obtain ⟨u3, us, rfl, g3, r2⟩ := r2.consE
    obtain rfl := r2.nilE
    obtain ⟨rfl, hz⟩ := g0.strE
    obtain ⟨a1, ys, rfl, ha1, hy, r3⟩ := id g1.tupE
    have hyl : ys.length = f.params.length := by rw [r3.len, List.length_map]
    refine ⟨_, rfl, a, _, 4, rfl, ha, true, rfl, iteF ?_⟩
    refine ⟨_, rfl, a, _, rfl, SqT.of ha, rfl, _, _, rfl, _, _, rfl, _, _, rfl, _, _, rfl, rfl, ?_⟩
    refine ⟨_, rfl, _, rfl, hz, true, (by rw [h1]), iteF ?_⟩
    refine ⟨_, rfl, _, f.params, 6, rfl, g1, h2, true, rfl, iteF ?_⟩
    have fin : spBody [u3, .int ((ys.length : Nat) : Int)] H Q (fun _ _ _ => False) := ⟨u3, f.body, ys.length, rfl, g3, by rw [hyl]; exact h4, q⟩
    cases hres : f.result with
    | none =>
      rw [hres] at g2
      cases g2
      refine ⟨_, rfl, rfl, true, rfl, iteT ?_⟩
      exact ⟨true, rfl, _, rfl, _, rfl, a1, _, rfl, .inr (SqT.of ha1), fin⟩
    | some k =>
      rw [hres] at g2 h3
      have hn : u2 ≠ .non := fun z => by
        rw [z] at g2
        cases k <;> cases g2
      refine ⟨_, rfl, rfl, false, (by rw [decide_eq_false hn]), iteF ?_⟩
      refine ⟨_, rfl, u2, k, 3, rfl, by decide, g2, h3, true, rfl, ?_⟩
      exact ⟨_, rfl, _, rfl, a1, _, rfl, .inr (SqT.of ha1), fin⟩
end
end PP

namespace PP
open PySem PySem.Spec PyProof.Rows L2 PV PF T ET PB
section
variable {P : Program} {w : World} {K : PySem.W.Frag} {mg : Str → Option Value} {base : Heap}
def spFns : Sp := fun vs H Q _ => ∃ (v : V) (fs : List Fn), vs = [v] ∧ Dv H v (.tuple (fs.map Fn.py)) ∧ (∀ f ∈ fs, fnOk f) ∧ ∀ H', Same H H' → Q (.bl true) H'
theorem ok_fns {f : Addr} {fd : FuncData} (F : Fun K "are_functions" "are_functions" s_are_functions f fd) (T1 : Pg K w mg) : FnOk P w K mg base CX0 90 f fd ["things"] spFns := by
  obtain ⟨fF, dF, gF⟩ := T1.fn
  have GF : FnOk P w K mg base CX0 89 fF dF ["thing"] spFn := ok_fn gF.F T1
  refine F.ok sc_are_functions (fun vs H Q E h => ?_) (fun cdv A outer s H vs Q E hr h => ?_)
  · obtain ⟨v, fs, rfl, _⟩ := h
    rfl
  · obtain ⟨v, fs, rfl, hv, hf, q⟩ := h
    refine ⟨_, pss_cons (ps_for PassesOwn.never rfl (pi_tup (pv 0)) (pg_name (i := 1) sc_are_functions.nd rfl (Or.inl rfl))
        (pss_one (ps_if (pt_not (pt_val (pe_call GF hr (by rfl) gF.g gF.F.kp gF.b .nil pass0 (pa_cons (pv 1) pa_nil)))) (pss_one (ps_ret pe_bl)) pss_nil)))
      (pss_one (ps_ret pe_bl)), ?_⟩
    obtain ⟨a, xs, rfl, ha, hx, r1⟩ := hv.tupE
    have hxl : xs.length = fs.length := by rw [r1.len, List.length_map]
    refine ⟨_, rfl, a, rfl, ⟨xs, SqT.of ha⟩, ?_⟩
    refine for_tup (xs := xs) (fun i σ H' => (∃ s1, σ = [some (.ref a), s1]) ∧ Same H H') ⟨⟨_, rfl⟩, fun _ _ e => e⟩ (fun i σ H' _ h2 => SqT.of (h2.2 _ _ ha)) ?_ ?_
    · rintro i x σ H1 hxi ⟨⟨s1, rfl⟩, k1⟩
      have hi : i < fs.length := by
        have := (List.getElem?_eq_some_iff.mp hxi).1
        omega
      obtain ⟨v2, hv2, dv⟩ := r1.get (i := i) (d := fs[i].py) (by rw [List.getElem?_map, List.getElem?_eq_getElem hi]; rfl)
      obtain rfl : x = v2 := by
        rw [hxi] at hv2
        exact Option.some.inj hv2
      refine ⟨_, rfl, x, fs[i], rfl, dv.same (TupSame.of k1), hf _ (List.getElem_mem hi), fun H2 k2 => ⟨true, rfl, iteF ?_⟩⟩
      exact ⟨⟨_, rfl⟩, k1.trans k2⟩
    · rintro σ H1 ⟨_, k1⟩
      exact q _ k1
def spCl : Sp := fun vs H Q _ => ∃ (v : V) (c : Cl), vs = [v] ∧ Dv H v c.py ∧ clOk c ∧ ∀ H', Same H H' → Q (.bl true) H'
theorem ok_cl {f : Addr} {fd : FuncData} (F : Fun K "is_class" "is_class" s_is_class f fd) (T1 : Pg K w mg) : FnOk P w K mg base CX0 91 f fd ["thing"] spCl := by
  obtain ⟨fT, fN, fK, dT, dN, dK, kd⟩ := T1.kd
  obtain ⟨fO, dO, gO⟩ := T1.nk
  obtain ⟨fQ, dQ, gQ⟩ := T1.to_
  obtain ⟨fF, dF, gF⟩ := T1.fns
  obtain ⟨_, mmf⟩ := T1.mf
  obtain ⟨_, mmm⟩ := T1.mm
  have b := kd.nm.b
  have GO : FnOk P w K mg base CX0 7 fO dO ["thing", "most"] spNk := ok_nk gO.F T1
  have GQ : FnOk P w K mg base CX0 1 fQ dQ ["thing", "most"] spTto := ok_tto gQ.F b
  have GT : FnOk P w K mg base CX0 1 fT dT ["thing", "many"] spTof := ok_tof kd.tof.F b
  have GN : FnOk P w K mg base CX0 1 fN dN ["thing"] spName := ok_name kd.name.F kd.nm
  have GF : FnOk P w K mg base CX0 90 fF dF ["things"] spFns := ok_fns gF.F T1
  refine F.ok sc_is_class (fun vs H Q E h => ?_) (fun cdv A outer s H vs Q E hr h => ?_)
  · obtain ⟨v, f, rfl, _⟩ := h
    rfl
  · obtain ⟨v, c, rfl, hv, ⟨h1, h2, h3, h4, h5⟩, q⟩ := h
    refine ⟨_, pss_cons (ps_if (pt_not (pt_val (pe_call GT (hr.mono (by decide)) (by rfl) kd.tof.g kd.tof.F.kp kd.tof.b .nil pass0 (pa_cons (pv 0) (pa_cons pe_int pa_nil))))) (pss_one (ps_ret pe_bl)) pss_nil)
      (pss_cons (ps_asg (pv 0) (pg_tup rfl (pgs_cons (pg_name (i := 1) sc_is_class.nd rfl (Or.inl rfl)) (pgs_cons (pg_name (i := 2) sc_is_class.nd rfl (Or.inl rfl)) (pgs_cons (pg_name (i := 3) sc_is_class.nd rfl (Or.inl rfl)) (pgs_cons (pg_name (i := 4) sc_is_class.nd rfl (Or.inl rfl)) pgs_nil))))))
      (pss_cons (ps_if (PW.pt (pw_or (pt_not (pt_val (pe_call GN (hr.mono (by decide)) (by rfl) kd.name.g kd.name.F.kp kd.name.b .nil pass0 (pa_cons (pv 1) pa_nil))))
          (pw_or1 (pt_not (PW.pt (pw_or (pt_cmpR op_isN (pv 2) pe_non (nomark _)) (pw_or1 (pt_val (pe_call GN (hr.mono (by decide)) (by rfl) kd.name.g kd.name.F.kp kd.name.b .nil pass0 (pa_cons (pv 2) pa_nil))))))))))
        (pss_one (ps_ret pe_bl)) pss_nil)
      (pss_one (ps_ret (pe_and (pe_call GO (hr.mono (by decide)) (by rfl) gO.g gO.F.kp gO.b .nil pass0 (pa_cons (pv 3) (pa_cons (pe_glob (v := .int 8) (by rfl) mmf ⟨_, rfl⟩) pa_nil)))
        (pe_and (pe_call GQ (hr.mono (by decide)) (by rfl) gQ.g gQ.F.kp gQ.b .nil pass0 (pa_cons (pv 4) (pa_cons (pe_glob (v := .int 8) (by rfl) mmm ⟨_, rfl⟩) pa_nil)))
        (pe_one (pe_call GF hr (by rfl) gF.g gF.F.kp gF.b .nil pass0 (pa_cons (pv 4) pa_nil))))))))), ?_⟩
    obtain ⟨a, xs, rfl, ha, hx, r1⟩ := hv.tupE
    obtain ⟨u0, us, rfl, g0, r2⟩ := r1.consE
    obtain ⟨u1, us, rfl, g1, r2⟩ := r2.consE
    obtain ⟨u2, us, rfl, g2, r2⟩ := r2.consE
    obtain ⟨u3, us, rfl, g3, r2⟩ := r2.consE
    obtain rfl := r2.nilE
    obtain ⟨rfl, hz⟩ := g0.strE
    obtain ⟨a3, ys, rfl, ha3, hy, r3⟩ := id g3.tupE
    have hyl : ys.length = c.methods.length := by rw [r3.len, List.length_map]
    refine ⟨_, rfl, a, _, 4, rfl, ha, true, rfl, iteF ?_⟩
    refine ⟨_, rfl, a, _, rfl, SqT.of ha, rfl, _, _, rfl, _, _, rfl, _, _, rfl, _, _, rfl, rfl, ?_⟩
    refine ⟨_, rfl, _, rfl, hz, true, (by rw [h1]), iteF ?_⟩
    have fin : spFns [.ref a3] H Q (fun _ _ _ => False) := ⟨.ref a3, c.methods, rfl, g3, h5, q⟩
    have tail : ∀ X : Prop, X → X := fun _ x => x
    cases hab : c.above with
    | none =>
      rw [hab] at g1
      cases g1
      refine ⟨_, rfl, rfl, true, rfl, iteT ?_⟩
      refine iteF ?_
      refine ⟨_, rfl, u2, c.fields, 8, rfl, g2, h3, true, rfl, ?_⟩
      refine ⟨_, rfl, a3, ys, 8, rfl, ha3, true, (by rw [decide_eq_true (by omega)]), ?_⟩
      exact ⟨_, rfl, fin⟩
    | some z =>
      rw [hab] at g1 h2
      obtain ⟨rfl, hz2⟩ := g1.strE
      refine ⟨_, rfl, rfl, false, rfl, iteF ?_⟩
      refine ⟨_, rfl, z, rfl, hz2, true, (by rw [show nameB z = true from h2]), iteF ?_⟩
      refine ⟨_, rfl, u2, c.fields, 8, rfl, g2, h3, true, rfl, ?_⟩
      refine ⟨_, rfl, a3, ys, 8, rfl, ha3, true, (by rw [decide_eq_true (by omega)]), ?_⟩
      exact ⟨_, rfl, fin⟩
def spProg : Sp := fun vs H Q _ => ∃ (v : V) (cs : List Cl) (fs : List Fn), vs = [v] ∧ Dv H v (progPy cs fs) ∧ progOk cs fs ∧ ∀ H', Same H H' → Q (.bl true) H'
theorem meths_take (cs : List Cl) (i : Nat) (h : i < cs.length) : meths (cs.take (i + 1)) = meths (cs.take i) + cs[i].methods.length := by
  unfold meths
  rw [List.take_add_one, List.getElem?_eq_getElem h]
  simp only [List.map_append, List.sum_append, Option.toList, List.map_cons, List.map_nil, List.sum_cons, List.sum_nil, Nat.add_zero]
theorem ok_prog {f : Addr} {fd : FuncData} (F : Fun K "is_program" "is_program" s_is_program f fd) (T1 : Pg K w mg) : FnOk P w K mg base CX0 92 f fd ["thing"] spProg := by
  obtain ⟨fT, fN, fK, dT, dN, dK, kd⟩ := T1.kd
  obtain ⟨fQ, dQ, gQ⟩ := T1.to_
  obtain ⟨fF, dF, gF⟩ := T1.fns
  obtain ⟨fC, dC, gC⟩ := T1.cl
  obtain ⟨_, mmc⟩ := T1.mc
  obtain ⟨_, mmu⟩ := T1.mu
  have b := kd.nm.b
  have GQ : FnOk P w K mg base CX0 1 fQ dQ ["thing", "most"] spTto := ok_tto gQ.F b
  have GT : FnOk P w K mg base CX0 1 fT dT ["thing", "many"] spTof := ok_tof kd.tof.F b
  have GF : FnOk P w K mg base CX0 90 fF dF ["things"] spFns := ok_fns gF.F T1
  have GC : FnOk P w K mg base CX0 91 fC dC ["thing"] spCl := ok_cl gC.F T1
  refine F.ok sc_is_program (fun vs H Q E h => ?_) (fun cdv A outer s H vs Q E hr h => ?_)
  · obtain ⟨v, cs, fs, rfl, _⟩ := h
    rfl
  · obtain ⟨v, cs, fs, rfl, hv, ⟨h1, h2, h3, h4⟩, q⟩ := h
    refine ⟨_, pss_cons (ps_if (pt_not (pt_val (pe_call GT (hr.mono (by decide)) (by rfl) kd.tof.g kd.tof.F.kp kd.tof.b .nil pass0 (pa_cons (pv 0) (pa_cons pe_int pa_nil))))) (pss_one (ps_ret pe_bl)) pss_nil)
      (pss_cons (ps_asg (pv 0) (pg_tup rfl (pgs_cons (pg_name (i := 1) sc_is_program.nd rfl (Or.inl rfl)) (pgs_cons (pg_name (i := 2) sc_is_program.nd rfl (Or.inl rfl)) pgs_nil))))
      (pss_cons (ps_if (PW.pt (pw_or (pt_not (pt_val (pe_call GQ (hr.mono (by decide)) (by rfl) gQ.g gQ.F.kp gQ.b .nil pass0 (pa_cons (pv 1) (pa_cons (pe_glob (v := .int 12) (by rfl) mmc ⟨_, rfl⟩) pa_nil)))))
          (pw_or1 (pt_not (pt_val (pe_call GQ (hr.mono (by decide)) (by rfl) gQ.g gQ.F.kp gQ.b .nil pass0 (pa_cons (pv 2) (pa_cons (pe_glob (v := .int 30) (by rfl) mmu ⟨_, rfl⟩) pa_nil))))))))
        (pss_one (ps_ret pe_bl)) pss_nil)
      (pss_cons (ps_set (i := 3) sc_is_program.nd rfl (Or.inl rfl) (pe_callB call_len_seq (by rfl) b.len PySem.boot_len (pa_cons (pv 2) pa_nil)))
      (pss_cons (ps_for PassesOwn.never rfl (pi_tup (pv 1)) (pg_name (i := 4) sc_is_program.nd rfl (Or.inl rfl))
        (pss_cons (ps_if (pt_not (pt_val (pe_call GC hr (by rfl) gC.g gC.F.kp gC.b .nil pass0 (pa_cons (pv 4) pa_nil)))) (pss_one (ps_ret pe_bl)) pss_nil)
        (pss_one (ps_aug (i := 3) sc_is_program.nd rfl (Or.inl rfl) (pe_callB call_len_seq (by rfl) b.len PySem.boot_len (pa_cons (pe_ix ix_tup (pv 4) pe_int (fun _ _ => rfl)) pa_nil)) ip_add))))
      (pss_one (ps_ret (pe_and (pe_cmp (pc_le (pv 3) (pe_glob (v := .int 30) (by rfl) mmu ⟨_, rfl⟩)) rfl) (pe_one (pe_call GF (hr.mono (by decide)) (by rfl) gF.g gF.F.kp gF.b .nil pass0 (pa_cons (pv 2) pa_nil)))))))))), ?_⟩
    obtain ⟨a, xs, rfl, ha, hx, r1⟩ := hv.tupE
    obtain ⟨u0, us, rfl, g0, r2⟩ := r1.consE
    obtain ⟨u1, us, rfl, g1, r2⟩ := r2.consE
    obtain rfl := r2.nilE
    obtain ⟨a0, ys, rfl, ha0, hy, r3⟩ := id g0.tupE
    obtain ⟨a1, zs, rfl, ha1, hz, r4⟩ := id g1.tupE
    have hyl : ys.length = cs.length := by rw [r3.len, List.length_map]
    have hzl : zs.length = fs.length := by rw [r4.len, List.length_map]
    refine ⟨_, rfl, a, _, 2, rfl, ha, true, rfl, iteF ?_⟩
    refine ⟨_, rfl, a, _, rfl, SqT.of ha, rfl, _, _, rfl, _, _, rfl, rfl, ?_⟩
    refine ⟨_, rfl, a0, ys, 12, rfl, ha0, true, (by rw [decide_eq_true (by omega)]), iteF ?_⟩
    refine ⟨_, rfl, a1, zs, 30, rfl, ha1, true, (by rw [decide_eq_true (by omega)]), iteF ?_⟩
    refine ⟨_, rfl, a1, zs, rfl, .inr (SqT.of ha1), ?_⟩
    refine ⟨_, rfl, a0, rfl, ⟨ys, SqT.of ha0⟩, ?_⟩
    refine for_tup (xs := ys) (fun i σ H' => (∃ s4, σ = [some (.ref a), some (.ref a0), some (.ref a1), some (.int ((zs.length : Nat) + (meths (cs.take i) : Nat) : Int)), s4]) ∧ Same H H') ⟨⟨_, by rw [show ((zs.length : Nat) : Int) + ((meths (cs.take 0) : Nat) : Int) = ((zs.length : Nat) : Int) by simp [meths]]; rfl⟩, fun _ _ e => e⟩ (fun i σ H' _ h2 => SqT.of (h2.2 _ _ ha0)) ?_ ?_
    · rintro i x σ H1 hxi ⟨⟨s1, rfl⟩, k1⟩
      have hi : i < cs.length := by
        have := (List.getElem?_eq_some_iff.mp hxi).1
        omega
      obtain ⟨v2, hv2, dv⟩ := r3.get (i := i) (d := cs[i].py) (by rw [List.getElem?_map, List.getElem?_eq_getElem hi]; rfl)
      obtain rfl : x = v2 := by
        rw [hxi] at hv2
        exact Option.some.inj hv2
      refine ⟨_, rfl, x, cs[i], rfl, dv.same (TupSame.of k1), h3 _ (List.getElem_mem hi), fun H2 k2 => ⟨true, rfl, iteF ?_⟩⟩
      have dv2 := (dv.same (TupSame.of k1)).same (TupSame.of k2)
      obtain ⟨b0, ws, rfl, hb0, _, s1'⟩ := dv2.tupE
      obtain ⟨w0, us, rfl, _, s2⟩ := s1'.consE
      obtain ⟨w1, us, rfl, _, s2⟩ := s2.consE
      obtain ⟨w2, us, rfl, _, s2⟩ := s2.consE
      obtain ⟨w3, us, rfl, q3, s2⟩ := s2.consE
      obtain rfl := s2.nilE
      obtain ⟨b3, ms, rfl, hb3, _, q5⟩ := q3.tupE
      have hml : ms.length = cs[i].methods.length := by rw [q5.len, List.length_map]
      refine ⟨_, rfl, _, rfl, b0, _, 3, .ref b3, rfl, rfl, SqT.of hb0, rfl, b3, ms, rfl, .inr (SqT.of hb3), _, _, rfl, rfl, ?_⟩
      refine ⟨⟨some (.ref b0), ?_⟩, k1.trans k2⟩
      rw [meths_take cs i hi, hml]
      show [some (V.ref a), some (.ref a0), some (.ref a1), some (.int ((zs.length : Int) + (meths (cs.take i) : Nat) + (cs[i].methods.length : Nat))), some (.ref b0)] = _
      rw [show (zs.length : Int) + (meths (cs.take i) : Nat) + (cs[i].methods.length : Nat) = (zs.length : Nat) + ((meths (cs.take i) + cs[i].methods.length : Nat) : Int) by omega]
    · rintro σ H1 ⟨⟨s4, rfl⟩, k1⟩
      rw [hyl, List.take_length]
      refine ⟨_, rfl, _, _, rfl, rfl, true, (by show V.bl (decide ((zs.length : Int) + (meths cs : Nat) ≤ 30)) = _; rw [decide_eq_true (by omega)]), ?_⟩
      exact ⟨_, rfl, .ref a1, fs, rfl, g1.same (TupSame.of k1), h4, fun H2 k2 => q _ (k1.trans k2)⟩
end
end PP

/-! list(d.values()) of a dict with int and text keys. -/
namespace ET
open PySem PySem.Spec PyProof.Rows L2
def tListVals (td : TE) : TE := fun σ H Q => td σ H fun x H1 => ∃ (a : Addr) (kvs : List (Key × V)), x = V.ref a ∧ H1 a = some (.dK kvs) ∧ ∀ l, H1 l = none → Q (.ref l) (upd H1 l (.lst (kvs.map (·.2))))
theorem items_vals {kvs : List (Key × V)} {vs : List (Key × Value)} (rel : KV kvs vs) {acc : Array Value} (it : ItemsOf (fun i v => ∃ k, vs[i]? = some (k, v)) acc vs.length) : Vals (kvs.map (·.2)) acc.toList := by
  have hl := KV.length rel
  obtain ⟨h1, h2⟩ := it
  have gen : ∀ (xs : List V) (us : List Value), xs.length = us.length → (∀ (i : Nat) (u : Value), us[i]? = some u → ∃ x, xs[i]? = some x ∧ RelV x u) → Vals xs us := by
    intro xs
    induction xs with
    | nil =>
      intro us e _
      cases us with
      | nil => exact .nil
      | cons u us => cases e
    | cons x xs ih =>
      intro us e h
      cases us with
      | nil => cases e
      | cons u us =>
        obtain ⟨y, e1, r1⟩ := h 0 u rfl
        cases Option.some.inj e1
        exact .cons r1 (ih us (Nat.succ.inj e) fun i v hv => by
          obtain ⟨y, e2, r2⟩ := h (i + 1) v (by simpa using hv)
          exact ⟨y, by simpa using e2, r2⟩)
  refine gen _ _ (by simp [h1, hl]) fun i u hu => ?_
  obtain ⟨k, hk⟩ := h2 i u (by simpa using hu)
  obtain ⟨x, e1, r1⟩ := KV.at' rel hk
  exact ⟨x, by rw [List.getElem?_map, e1]; rfl, r1⟩
theorem pe_listVals {X : Cx} {o : Expr} {p pos apos mpos : Pos} {td : TE} (hc : X.calm = true) (hg : Gl X "list") (hm : X.mg "list" = none) (hd : PE X o td) (hbase : attributeBase o "values" X.env (eval o X.env) = eval o X.env := by rfl) (hline : (apos.endLine == mpos.line) = true := by rfl)
    (hse : starEach [Expr.Call (.Attribute o "values" apos) [] [] mpos] X.env = [(false, eval (Expr.Call (.Attribute o "values" apos) [] [] mpos) X.env)] := by rfl) :
    PE X (.Call (.Name "list" p) [.Call (.Attribute o "values" apos) [] [] mpos] [] pos) (tListVals td) := by
  refine ⟨fun pins s σ H Q I h => ?_⟩
  refine wpAny_Call_Name_kw (ld_blt I hg hm (u := .type "list") (by first | rfl | decide +kernel) ?_ (by first | decide +kernel | decide) (by first | decide +kernel | decide))
  rw [hse]
  refine PySem.callWith_type1 (wpAny_Call_method0_late hbase hline (thn (hd.run pins s σ H _ I h) fun v s1 ⟨x, H1, I1, r1, a, kvs, ex, ha, q⟩ => ?_))
  subst ex
  obtain rfl : v = Value.ref a := r1
  obtain ⟨hz, hsys, vs, rel, dof⟩ := dk_of I1.hok ha
  obtain ⟨ep, dat⟩ := dof.dictAt
  obtain ⟨ob, es, ho, hex, hdat, hko, hpr, hnd⟩ := id dat
  refine ⟨"dict", "dict.values", F.plainAttrs_dict, F.slot_dict_values, F.type_dict_values, ⟨ob, ho, hex.1⟩, fun b e => ?_, Calls.callWith_builtin rfl (PySem.evalArgs_none ?_)⟩
  · cases e
    exact ⟨ob, ho, hex.2.1⟩
  refine call_meetsIn F.slot_dict_values ⟨ob, ho, hex.1⟩ F.entry_dict_values (F.args_dict_values_1 _) (meets_dict_values (mixKind X.prog X.w) a hsys) ⟨⟨vs, dof⟩, ?_⟩
  have kp : ∀ b u, s1.heap.get? b = some u → (s1.heap.push { cls := .type "dict_values", data := .fields #[.ref a] }).get? b = some u := fun b u e => Heap.get?_push_of_some _ e
  have dat1 : (s1.heap.push { cls := .type "dict_values", data := .fields #[.ref a] }).DictAt (mixKind X.prog X.w) a vs ep := dat.keep kp
  have hl := KV.length rel
  have I2 : Inv X pins σ H1 { s1 with heap := s1.heap.push { cls := .type "dict_values", data := .fields #[.ref a] } } := I1.kept (t' := s1.toks) kp
  refine PySem.W.kdl_call (s := { s1 with heap := s1.heap.push { cls := .type "dict_values", data := .fields #[.ref a] } }) (PySem.W.kdl_values (prog := X.prog) (w := X.w) (knd := mixKind X.prog X.w) (r := s1.heap.objs.size) (d := a) (kvs := vs) (ep := ep)) (I1.ok.hd hc) ⟨⟨_, Heap.get?_push_size _ rfl, rfl, rfl⟩, dat1⟩ (by omega) fun h' tk acc c' hk hS it => ?_
  have hv := items_vals rel it
  have hvl := hv.length
  refine ⟨.ref _, _, I2.laid (t' := tk) (a := (s1.heap.push { cls := .type "dict_values", data := .fields #[.ref a] }).objs.size) (o := .lst (kvs.map (·.2))) hk (Nat.le_refl _) ⟨by rw [List.length_map]; exact hz, acc.toList, c', hv, by simpa using hS⟩, rfl, q _ (I2.hok.fresh (Nat.le_refl _))⟩
end ET

namespace FM
open PySem PySem.Spec PyProof.Rows L2 PV PF T ET PB
def clsV : Option Kd → V
  | some (.of n) => .str n
  | _ => .non
def isRef : Kd → Bool
  | .int => false
  | .truth => false
  | _ => true
def findC (cs : List Cl) (n : Str) : Option Cl := cs.find? fun c => decide (c.name = n)
def hasC (cs : List Cl) (n : Str) : Bool := (findC cs n).isSome
def knows (cs : List Cl) : Kd → Bool
  | .row k => knows cs k
  | .of n => hasC cs n
  | _ => true
def knowsO (cs : List Cl) : Option Kd → Bool
  | none => true
  | some k => knows cs k
/-- what never changes behind the family's making: tuples, dicts, the family itself -/
def Still (C : Addr) (H H' : Hp) : Prop := ∀ a o, H a = some o → ((∃ xs, o = .tup xs) ∨ (∃ kvs, o = .dK kvs) ∨ ∃ dx fs, o = .ins C dx fs) → H' a = some o
theorem Still.refl {C : Addr} (H : Hp) : Still C H H := fun _ _ e _ => e
theorem Still.trans {C : Addr} {H H1 H2 : Hp} (a : Still C H H1) (b : Still C H1 H2) : Still C H H2 := fun x o e h => b x o (a x o e h) h
theorem Still.of {C : Addr} {H H' : Hp} (s : Same H H') : Still C H H' := fun a o e _ => s a o e
theorem Still.tup {C : Addr} {H H' : Hp} (s : Still C H H') : TupSame H H' := fun a xs e => s a _ e (.inl ⟨xs, rfl⟩)
/-- a Family of cs stands at p -/
def FamAt (C : Addr) (H : Hp) (p : Addr) (cs : List Cl) : Prop := ∃ dx d kvs, H p = some (.ins C dx [("by_name", .ref d)]) ∧ H d = some (.dK kvs) ∧ ∀ n : Str, match findC cs n with
  | some c => ∃ v, valV kvs (Sum.inr n : Key) = some v ∧ Dv H v c.py
  | none => valV kvs (Sum.inr n : Key) = none
theorem FamAt.still {C : Addr} {H H' : Hp} {p : Addr} {cs : List Cl} (f : FamAt C H p cs) (s : Still C H H') : FamAt C H' p cs := by
  obtain ⟨dx, d, kvs, h1, h2, h3⟩ := f
  refine ⟨dx, d, kvs, s _ _ h1 (.inr (.inr ⟨_, _, rfl⟩)), s _ _ h2 (.inr (.inl ⟨_, rfl⟩)), fun n => ?_⟩
  have := h3 n
  cases e : findC cs n with
  | none => rw [e] at this; exact this
  | some c =>
    rw [e] at this
    obtain ⟨v, h4, h5⟩ := this
    exact ⟨v, h4, h5.same s.tup⟩
/-- the class Family -/
structure FmC (K : PySem.W.Frag) (mg : Str → Option Value) (C : Addr) : Prop where
  b : Bt mg
  cl : Cls K C
  nB : NoAttr K C "by_name"
  list : mg "list" = none
  nil : ∃ t, mg "NIL" = some (.str "nil" t)
  eo : ∃ f fd, Gd K mg "entry_of" s_entry_of ["kind"] f fd
  co : ∃ f fd, Gd K mg "class_of" s_class_of ["kind"] f fd
  ir : ∃ f fd, Gd K mg "is_reference" s_is_reference ["kind"] f fd
theorem nonTy {K : PySem.W.Frag} {H : Hp} : ∃ t : String, TyX K H .non (.type t) ∧ PySem.W.kitOne K (.type t) (.type "tuple") = some false := ⟨"NoneType", .base .non, kit_ty (by decide +kernel)⟩
section
variable {P : Program} {w : World} {K : PySem.W.Frag} {mg : Str → Option Value} {base : Heap} {C : Addr}
/-- what isinstance(kind, tuple) says, and the words of a tuple -/
theorem kdCases {H : Hp} {v : V} {k : Option Kd} (h : Dv H v (optK k)) : (∃ t : String, TyX K H v (.type t) ∧ PySem.W.kitOne K (.type t) (.type "tuple") = some false ∧ (∀ n, k ≠ some (.of n)) ∧ ∀ j, k ≠ some (.row j)) ∨
    (∃ a n, v = .ref a ∧ k = some (.of n) ∧ H a = some (.tup [.str "of", .str n])) ∨ ∃ a u j, v = .ref a ∧ k = some (.row j) ∧ H a = some (.tup [.str "row", u]) ∧ Dv H u j.py := by
  cases k with
  | none =>
    cases h
    obtain ⟨t, t1, t2⟩ := nonTy (K := K) (H := H)
    exact .inl ⟨t, t1, t2, (fun n e => nomatch e), (fun j e => nomatch e)⟩
  | some k =>
    cases k with
    | of n =>
      obtain ⟨a, xs, rfl, ha, _, r1⟩ := Dv.tupE h
      obtain ⟨u0, us, rfl, h0, r2⟩ := r1.consE
      obtain ⟨u1, us, rfl, h1, r3⟩ := r2.consE
      obtain rfl := r3.nilE
      obtain ⟨rfl, _⟩ := h0.strE
      obtain ⟨rfl, _⟩ := h1.strE
      exact .inr (.inl ⟨a, n, rfl, rfl, ha⟩)
    | row j =>
      obtain ⟨a, xs, rfl, ha, _, r1⟩ := Dv.tupE h
      obtain ⟨u0, us, rfl, h0, r2⟩ := r1.consE
      obtain ⟨u1, us, rfl, h1, r3⟩ := r2.consE
      obtain rfl := r3.nilE
      obtain ⟨rfl, _⟩ := h0.strE
      exact .inr (.inr ⟨a, u1, j, rfl, rfl, ha, h1⟩)
    | int => obtain ⟨rfl, _⟩ := Dv.strE h; obtain ⟨t, t1, t2, _⟩ := strTy (K := K) (H := H) (z := "int"); exact .inl ⟨t, t1, t2, (fun n e => nomatch e), (fun j e => nomatch e)⟩
    | truth => obtain ⟨rfl, _⟩ := Dv.strE h; obtain ⟨t, t1, t2, _⟩ := strTy (K := K) (H := H) (z := "truth"); exact .inl ⟨t, t1, t2, (fun n e => nomatch e), (fun j e => nomatch e)⟩
    | text => obtain ⟨rfl, _⟩ := Dv.strE h; obtain ⟨t, t1, t2, _⟩ := strTy (K := K) (H := H) (z := "text"); exact .inl ⟨t, t1, t2, (fun n e => nomatch e), (fun j e => nomatch e)⟩
    | nil => obtain ⟨rfl, _⟩ := Dv.strE h; obtain ⟨t, t1, t2, _⟩ := strTy (K := K) (H := H) (z := "nil"); exact .inl ⟨t, t1, t2, (fun n e => nomatch e), (fun j e => nomatch e)⟩
def spClsOf : Sp := fun vs H Q _ => ∃ (v : V) (k : Option Kd), vs = [v] ∧ Dv H v (optK k) ∧ Q (clsV k) H
theorem ok_clsOf {f : Addr} {fd : FuncData} (F : Fun K "class_of" "class_of" s_class_of f fd) (b : Bt mg) : FnOk P w K mg base CX0 1 f fd ["kind"] spClsOf := by
  refine F.ok sc_class_of (fun vs H Q E h => ?_) (fun cdv A outer s H vs Q E hr h => ?_)
  · obtain ⟨v, k, rfl, _⟩ := h
    rfl
  · obtain ⟨v, k, rfl, hv, q⟩ := h
    refine ⟨_, pss_cons (ps_if (PW.pt (pw_and (pt_val (pe_callB call_isi (by rfl) b.isi (by decide +kernel) (pa_cons (pv 0) (pa_cons (pe_bltn (by rfl) b.tuple (v := .ty "tuple") (by decide +kernel) rfl) pa_nil)))) (pw_and1 (pt_cmpR op_eq (pe_ix ix_tup (pv 0) pe_int (fun _ _ => rfl)) pe_str (nomark _)))))
        (pss_one (ps_ret (pe_ix ix_tup (pv 0) pe_int (fun _ _ => rfl)))) pss_nil)
      (pss_one (ps_ret pe_non)), ?_⟩
    rcases kdCases (K := K) hv with ⟨t, t1, t2, n1, n2⟩ | ⟨a, n, rfl, rfl, ha⟩ | ⟨a, u, j, rfl, rfl, ha, hu⟩
    · refine ⟨_, rfl, _, _, _, _, _, rfl, .ty _, t1, t2, false, rfl, iteF ?_⟩
      have e : clsV k = .non := by
        cases k with
        | none => rfl
        | some k => cases k <;> first | rfl | exact absurd rfl (n1 _)
      rw [e] at q
      exact q
    · obtain ⟨t, t1, t2, _⟩ := tupTy (K := K) ha
      refine ⟨_, rfl, _, _, _, _, _, rfl, .ty _, t1, t2, true, rfl, iteT ?_⟩
      refine ⟨_, rfl, a, _, 0, .str "of", rfl, rfl, SqT.of ha, rfl, rfl, _, rfl, iteT ?_⟩
      exact ⟨_, rfl, a, _, 1, .str n, rfl, rfl, SqT.of ha, rfl, q⟩
    · obtain ⟨t, t1, t2, _⟩ := tupTy (K := K) ha
      refine ⟨_, rfl, _, _, _, _, _, rfl, .ty _, t1, t2, true, rfl, iteT ?_⟩
      refine ⟨_, rfl, a, _, 0, .str "row", rfl, rfl, SqT.of ha, rfl, rfl, _, rfl, iteF ?_⟩
      exact q
def spEntOf : Sp := fun vs H Q _ => ∃ (v : V) (k : Option Kd), vs = [v] ∧ Dv H v (optK k) ∧ (∀ j u, k = some (.row j) → Dv H u j.py → Q u H) ∧ ((∀ j, k ≠ some (.row j)) → Q .non H)
theorem ok_entOf {f : Addr} {fd : FuncData} (F : Fun K "entry_of" "entry_of" s_entry_of f fd) (b : Bt mg) : FnOk P w K mg base CX0 1 f fd ["kind"] spEntOf := by
  refine F.ok sc_entry_of (fun vs H Q E h => ?_) (fun cdv A outer s H vs Q E hr h => ?_)
  · obtain ⟨v, k, rfl, _⟩ := h
    rfl
  · obtain ⟨v, k, rfl, hv, q1, q2⟩ := h
    refine ⟨_, pss_cons (ps_if (PW.pt (pw_and (pt_val (pe_callB call_isi (by rfl) b.isi (by decide +kernel) (pa_cons (pv 0) (pa_cons (pe_bltn (by rfl) b.tuple (v := .ty "tuple") (by decide +kernel) rfl) pa_nil)))) (pw_and1 (pt_cmpR op_eq (pe_ix ix_tup (pv 0) pe_int (fun _ _ => rfl)) pe_str (nomark _)))))
        (pss_one (ps_ret (pe_ix ix_tup (pv 0) pe_int (fun _ _ => rfl)))) pss_nil)
      (pss_one (ps_ret pe_non)), ?_⟩
    rcases kdCases (K := K) hv with ⟨t, t1, t2, n1, n2⟩ | ⟨a, n, rfl, rfl, ha⟩ | ⟨a, u, j, rfl, rfl, ha, hu⟩
    · refine ⟨_, rfl, _, _, _, _, _, rfl, .ty _, t1, t2, false, rfl, iteF ?_⟩
      exact q2 n2
    · obtain ⟨t, t1, t2, _⟩ := tupTy (K := K) ha
      refine ⟨_, rfl, _, _, _, _, _, rfl, .ty _, t1, t2, true, rfl, iteT ?_⟩
      refine ⟨_, rfl, a, _, 0, .str "of", rfl, rfl, SqT.of ha, rfl, rfl, _, rfl, iteF ?_⟩
      exact q2 (fun j e => nomatch e)
    · obtain ⟨t, t1, t2, _⟩ := tupTy (K := K) ha
      refine ⟨_, rfl, _, _, _, _, _, rfl, .ty _, t1, t2, true, rfl, iteT ?_⟩
      refine ⟨_, rfl, a, _, 0, .str "row", rfl, rfl, SqT.of ha, rfl, rfl, _, rfl, iteT ?_⟩
      exact ⟨_, rfl, a, _, 1, u, rfl, rfl, SqT.of ha, rfl, q1 j u rfl hu⟩
end
end FM

namespace FM
open PySem PySem.Spec PyProof.Rows L2 PV PF T ET PB
theorem findC_take (cs : List Cl) (i : Nat) (h : i < cs.length) (n : Str) : findC (cs.take (i + 1)) n = (findC (cs.take i) n).or (if cs[i].name = n then some cs[i] else none) := by
  unfold findC
  rw [List.take_add_one, List.getElem?_eq_getElem h, List.find?_append]
  simp only [Option.toList, List.find?_cons, List.find?_nil]
  by_cases e : cs[i].name = n <;> simp [e]
/-- the dict kvs holds the classes by name -/
def Holds (H : Hp) (kvs : List (Key × V)) (cs : List Cl) : Prop := ∀ n : Str, match findC cs n with
  | some c => ∃ v, valV kvs (Sum.inr n : Key) = some v ∧ Dv H v c.py
  | none => valV kvs (Sum.inr n : Key) = none
theorem Holds.same {H H' : Hp} {kvs : List (Key × V)} {cs : List Cl} (h : Holds H kvs cs) (s : TupSame H H') : Holds H' kvs cs := fun n => by
  have := h n
  cases e : findC cs n with
  | none => rw [e] at this; exact this
  | some c =>
    rw [e] at this
    obtain ⟨v, h4, h5⟩ := this
    exact ⟨v, h4, h5.same s⟩
theorem Holds.step {H : Hp} {kvs : List (Key × V)} {cs : List Cl} {i : Nat} (h : Holds H kvs (cs.take i)) (hi : i < cs.length) {v : V} (hv : Dv H v cs[i].py) :
    (∀ u, valV kvs (Sum.inr cs[i].name : Key) = some u → Holds H kvs (cs.take (i + 1))) ∧ (valV kvs (Sum.inr cs[i].name : Key) = none → Holds H (putK kvs (Sum.inr cs[i].name : Key) v) (cs.take (i + 1))) := by
  constructor
  · intro u hu n
    rw [findC_take cs i hi n]
    have hn := h n
    cases e : findC (cs.take i) n with
    | some c => rw [e] at hn; exact hn
    | none =>
      rw [e] at hn
      have hne : ¬ cs[i].name = n := fun e2 => by rw [e2, hn] at hu; cases hu
      simp only [Option.none_or, if_neg hne]
      exact hn
  · intro hnone n
    rw [findC_take cs i hi n]
    have hn := h n
    cases e : findC (cs.take i) n with
    | some c =>
      rw [e] at hn
      obtain ⟨u, h4, h5⟩ := hn
      have hne : ¬ (Sum.inr n : Key) = Sum.inr cs[i].name := fun e2 => by rw [e2, hnone] at h4; cases h4
      exact ⟨u, by rw [valV_put, if_neg hne]; exact h4, h5⟩
    | none =>
      rw [e] at hn
      by_cases e2 : cs[i].name = n
      · simp only [Option.none_or, if_pos e2]
        exact ⟨v, by rw [valV_put, if_pos (by rw [e2])], hv⟩
      · simp only [Option.none_or, if_neg e2]
        show valV _ _ = none
        rw [valV_put, if_neg (fun z => e2 (by injection z with z; exact z.symm))]
        exact hn
theorem putK_len (kvs : List (Key × V)) (k : Key) (v : V) : (putK kvs k v).length ≤ kvs.length + 1 := by
  unfold putK
  split
  · rw [List.length_map]; omega
  · simp
section
variable {P : Program} {w : World} {K : PySem.W.Frag} {mg : Str → Option Value} {base : Heap} {C : Addr}
def spInitF (C : Addr) : Sp := fun vs H Q _ => ∃ (p dx : Addr) (v : V) (cs : List Cl), vs = [.ref p, v] ∧ H p = some (.ins C dx []) ∧ Dv H v (.tuple (cs.map Cl.py)) ∧ cs.length ≤ 12 ∧
  ∀ H', FamAt C H' p cs → (∀ b o, H b = some o → b ≠ p → H' b = some o) → Q .non H'
theorem putB (d : Addr) : putF "by_name" (.ref d) ([] : List (Str × V)) = [(("by_name" : Str), V.ref d)] := rfl
theorem ok_initF {f : Addr} {fd : FuncData} (F : Fun K "__init__" "Family.__init__" s_Family_init f fd) (T0 : FmC K mg C) : FnOk P w K mg base CX0 1 f fd ["self", "classes"] (spInitF C) := by
  refine F.ok sc_Family_init (fun vs H Q E h => ?_) (fun cdv A outer s H vs Q E hr h => ?_)
  · obtain ⟨p, dx, v, cs, rfl, _⟩ := h
    rfl
  · obtain ⟨p, dx, v, cs, rfl, hp, hv, hl, q⟩ := h
    refine ⟨_, pss_cons (ps_fld (pv 0) pe_dnewK rfl)
      (pss_one (ps_for PassesOwn.never rfl (pi_tup (pv 1)) (pg_name (i := 2) sc_Family_init.nd rfl (Or.inl rfl)) (pss_one (ps_expr (pe_dsetd (pe_fld (pv 0) rfl) (pe_ix ix_tup (pv 2) pe_int (fun _ _ => rfl)) (pv 2) ⟨by rfl, by rfl, by rfl, by rfl⟩))))), ?_⟩
    obtain ⟨a, xs, rfl, ha, hx, r1⟩ := hv.tupE
    have hxl : xs.length = cs.length := by rw [r1.len, List.length_map]
    have hap : a ≠ p := ne_of ha hp (by intro z; cases z)
    intro d hd
    have hdp : d ≠ p := fun z => by rw [z, hp] at hd; cases hd
    refine ⟨_, rfl, p, C, dx, [], rfl, (by rw [upd_ne hdp.symm]; exact hp), T0.cl, T0.nB, (by show 0 < 1000; decide), ?_⟩
    have k0 : ∀ b o, H b = some o → b ≠ p → (upd (upd H d (.dK [])) p (.ins C dx (putF "by_name" (.ref d) []))) b = some o := fun b o e hb => by rw [upd_ne hb, upd_ne (ne_of_none e hd)]; exact e
    have hp0 : (upd (upd H d (.dK [])) p (.ins C dx (putF "by_name" (.ref d) []))) p = some (.ins C dx [(("by_name" : Str), V.ref d)]) := upd_same
    have hd0 : (upd (upd H d (.dK [])) p (.ins C dx (putF "by_name" (.ref d) []))) d = some (.dK []) := by rw [upd_ne hdp, upd_same]
    generalize (upd (upd H d (.dK [])) p (.ins C dx (putF "by_name" (.ref d) []))) = H0 at k0 hp0 hd0
    refine ⟨_, rfl, a, rfl, ⟨xs, SqT.of (k0 a _ ha hap)⟩, ?_⟩
    refine for_tup (xs := xs) (fun i σ H' => (∃ s2, σ = [some (.ref p), some (.ref a), s2]) ∧ H' p = some (.ins C dx [(("by_name" : Str), V.ref d)]) ∧ (∃ kvs, H' d = some (.dK kvs) ∧ kvs.length ≤ i ∧ Holds H' kvs (cs.take i)) ∧ ∀ b o, H b = some o → b ≠ p → H' b = some o)
      ⟨⟨_, rfl⟩, hp0, ⟨[], hd0, Nat.le_refl _, fun n => rfl⟩, k0⟩ (fun i σ H' _ h2 => SqT.of (h2.2.2.2 a _ ha hap)) ?_ ?_
    · rintro i x σ H1 hxi ⟨⟨s2, rfl⟩, hp1, ⟨kvs, hd1, hk1, ho1⟩, k1⟩
      have hi : i < cs.length := by
        have := (List.getElem?_eq_some_iff.mp hxi).1
        omega
      obtain ⟨v2, hv2, dv⟩ := r1.get (i := i) (d := cs[i].py) (by rw [List.getElem?_map, List.getElem?_eq_getElem hi]; rfl)
      obtain rfl : x = v2 := by
        rw [hxi] at hv2
        exact Option.some.inj hv2
      have s1 : TupSame H H1 := fun b ys e => k1 b _ e (ne_of e hp (by intro z; cases z))
      have dv1 := dv.same s1
      obtain ⟨b0, ws, rfl, hb0, _, q1⟩ := id dv1.tupE
      obtain ⟨w0, us, rfl, g0, q2⟩ := q1.consE
      obtain ⟨rfl, _⟩ := g0.strE
      obtain ⟨st1, st2⟩ := ho1.step hi dv1
      refine ⟨_, rfl, p, C, dx, _, _, rfl, hp1, T0.cl, T0.nB, rfl, d, rfl, .inl ⟨kvs, .inl hd1⟩, ?_⟩
      refine ⟨_, rfl, b0, _, 0, .str cs[i].name, rfl, rfl, SqT.of hb0, atI_nat (j := 0) rfl, _, rfl, ?_⟩
      refine ⟨kvs, Sum.inr cs[i].name, hd1, rfl, Nat.lt_of_le_of_lt (by omega : kvs.length ≤ 12) (by decide), fun u hu => ?_, fun hn => ?_⟩
      · exact ⟨⟨_, rfl⟩, hp1, ⟨kvs, hd1, by omega, st1 u hu⟩, k1⟩
      · have t2 : TupSame H1 (upd H1 d (.dK (putK kvs (Sum.inr cs[i].name) (.ref b0)))) := fun b ys e => by rw [upd_ne (ne_of e hd1 (by intro z; cases z))]; exact e
        refine ⟨⟨_, rfl⟩, by rw [upd_ne hdp.symm]; exact hp1, ⟨_, upd_same, by have := putK_len kvs (Sum.inr cs[i].name) (.ref b0); omega, (st2 hn).same t2⟩, fun b o e hb => ?_⟩
        rw [upd_ne (ne_of_none e hd)]
        exact k1 b o e hb
    · rintro σ H1 ⟨_, hp1, ⟨kvs, hd1, hk1, ho1⟩, k1⟩
      rw [hxl, List.take_length] at ho1
      exact q _ ⟨dx, d, kvs, hp1, hd1, ho1⟩ k1
end
end FM

namespace FM
open PySem PySem.Spec PyProof.Rows L2 PV PF T ET PB
theorem findC_name {cs : List Cl} {n : Str} {c : Cl} (h : findC cs n = some c) : c.name = n ∧ c ∈ cs := by
  unfold findC at h
  exact ⟨by have := List.find?_some h; simpa using this, List.mem_of_find?_eq_some h⟩
def leftC (cs : List Cl) (seen : List Str) : Nat := cs.countP fun c => decide (c.name ∉ seen)
theorem leftC_lt {cs : List Cl} {seen : List Str} {n : Str} {c : Cl} (h : findC cs n = some c) (hs : n ∉ seen) : leftC cs (n :: seen) < leftC cs seen := by
  obtain ⟨h1, h2⟩ := findC_name h
  clear h
  unfold leftC
  induction cs with
  | nil => cases h2
  | cons d r ih =>
    have mono : ∀ l : List Cl, l.countP (fun c => decide (c.name ∉ n :: seen)) ≤ l.countP fun c => decide (c.name ∉ seen) := fun l => List.countP_mono_left fun x _ hx => by
      simp only [decide_eq_true_eq, List.mem_cons, not_or] at hx ⊢
      exact hx.2
    rw [List.countP_cons, List.countP_cons]
    rcases List.mem_cons.mp h2 with rfl | h2
    · have e1 : decide (c.name ∉ n :: seen) = false := by rw [h1]; simp
      have e2 : decide (c.name ∉ seen) = true := by rw [h1]; simpa using hs
      rw [e1, e2]
      have := mono r
      rw [if_neg (by decide), if_pos rfl]
      omega
    · have a := ih h2
      by_cases e1 : d.name ∉ n :: seen
      · have e2 : d.name ∉ seen := fun z => e1 (List.mem_cons_of_mem _ z)
        simp only [e1, e2, not_false_eq_true, decide_true, if_true]
        omega
      · simp only [e1, decide_false, Bool.false_eq_true, if_false]
        omega
/-- a class and those above it, as far as they are there and not told before -/
def lineOf (cs : List Cl) (seen : List Str) : Option Str → List Cl
  | none => []
  | some n => match h : findC cs n with
    | none => []
    | some c => if hs : n ∈ seen then [] else c :: lineOf cs (n :: seen) c.above
termination_by leftC cs seen
decreasing_by exact leftC_lt h hs
theorem lineOf_some {cs : List Cl} {seen : List Str} {n : Str} {c : Cl} (h : findC cs n = some c) (hs : n ∉ seen) : lineOf cs seen (some n) = c :: lineOf cs (n :: seen) c.above := by
  rw [lineOf]
  split
  · rename_i e; rw [h] at e; cases e
  · rename_i c' e
    rw [h] at e
    cases e
    rw [dif_neg hs]
theorem lineOf_end {cs : List Cl} {seen : List Str} {n : Str} (h : findC cs n = none ∨ n ∈ seen) : lineOf cs seen (some n) = [] := by
  rw [lineOf]
  split
  · rfl
  · rename_i c e
    rcases h with h | h
    · rw [h] at e; cases e
    · rw [dif_pos h]
theorem lineOf_none {cs : List Cl} {seen : List Str} : lineOf cs seen none = [] := by rw [lineOf]
def rows : Kd → Nat
  | .row k => rows k + 1
  | _ => 0
def rowsO : Option Kd → Nat
  | none => 0
  | some k => rows k
section
variable {P : Program} {w : World} {K : PySem.W.Frag} {mg : Str → Option Value} {base : Heap} {C : Addr}
def spHas (C : Addr) : Sp := fun vs H Q _ => ∃ (p : Addr) (n : Str) (cs : List Cl), vs = [.ref p, .str n] ∧ FamAt C H p cs ∧ Q (.bl (hasC cs n)) H
theorem has_eq {H : Hp} {kvs : List (Key × V)} {cs : List Cl} (h : Holds H kvs cs) (n : Str) : (valV kvs (Sum.inr n : Key)).isSome = hasC cs n := by
  have := h n
  unfold hasC
  cases e : findC cs n with
  | none =>
    rw [e] at this
    rw [show valV kvs (Sum.inr n : Key) = none from this] <;> rfl
  | some c =>
    rw [e] at this
    obtain ⟨v, h1, _⟩ := this
    rw [h1] <;> rfl
theorem ok_has {f : Addr} {fd : FuncData} (F : Fun K "has" "Family.has" s_Family_has f fd) (T0 : FmC K mg C) : FnOk P w K mg base CX0 1 f fd ["self", "name"] (spHas C) := by
  refine F.ok sc_Family_has (fun vs H Q E h => ?_) (fun cdv A outer s H vs Q E hr h => ?_)
  · obtain ⟨p, n, cs, rfl, _⟩ := h
    rfl
  · obtain ⟨p, n, cs, rfl, ⟨dx, d, kvs, h1, h2, h3⟩, q⟩ := h
    have hu := hu_of hr
    refine ⟨_, pss_one (ps_ret (pe_cmp (pc_din hu (pv 1) (pe_fld (pv 0) rfl)) rfl)), ?_⟩
    refine ⟨_, rfl, _, rfl, p, C, dx, _, _, rfl, h1, T0.cl, T0.nB, rfl, d, _, rfl, DGet.k (k := Sum.inr n) h2, ?_⟩
    rw [has_eq h3 n]
    exact q
def spKnows (C : Addr) (D : Nat) : Sp := fun vs H Q _ => ∃ (p : Addr) (v : V) (k : Option Kd) (cs : List Cl), vs = [.ref p, v] ∧ FamAt C H p cs ∧ Dv H v (optK k) ∧ rowsO k < D ∧ Q (.bl (knowsO cs k)) H
theorem ok_knows {f fH : Addr} {fd dH : FuncData} (M : Md K C "knows" "Family.knows" s_Family_knows ["self", "kind"] f fd) (MH : Md K C "has" "Family.has" s_Family_has ["self", "name"] fH dH) (T0 : FmC K mg C) :
    ∀ D, FnOk P w K mg base CX0 (D + 2) f fd ["self", "kind"] (spKnows C D) := by
  intro D
  induction D with
  | zero =>
    refine M.F.ok sc_Family_knows (fun vs H Q E h => ?_) (fun cdv A outer s H vs Q E hr h => ?_)
    · obtain ⟨p, v, k, cs, rfl, _⟩ := h
      rfl
    · obtain ⟨p, v, k, cs, rfl, _, _, h, _⟩ := h
      omega
  | succ D ih =>
    obtain ⟨fE, dE, gE⟩ := T0.eo
    obtain ⟨fO, dO, gO⟩ := T0.co
    have GE : FnOk P w K mg base CX0 1 fE dE ["kind"] spEntOf := ok_entOf gE.F T0.b
    have GO : FnOk P w K mg base CX0 1 fO dO ["kind"] spClsOf := ok_clsOf gO.F T0.b
    have GH : FnOk P w K mg base CX0 1 fH dH ["self", "name"] (spHas C) := ok_has MH.F T0
    refine M.F.ok sc_Family_knows (fun vs H Q E h => ?_) (fun cdv A outer s H vs Q E hr h => ?_)
    · obtain ⟨p, v, k, cs, rfl, _⟩ := h
      rfl
    · obtain ⟨p, v, k, cs, rfl, hf, hv, hD, q⟩ := h
      refine ⟨_, pss_cons (ps_set (i := 2) sc_Family_knows.nd rfl (Or.inl rfl) (pe_call GE (hr.mono (by omega)) (by rfl) gE.g gE.F.kp gE.b .nil pass0 (pa_cons (pv 1) pa_nil)))
        (pss_cons (ps_if (pt_cmpR op_notN (pv 2) pe_non (nomark _)) (pss_one (ps_ret (pe_meth (pv 0) T0.cl M.m ih hr M.b .nil pass0 (pa_cons (pv 2) pa_nil)))) pss_nil)
        (pss_cons (ps_set (i := 3) sc_Family_knows.nd rfl (Or.inl rfl) (pe_call GO (hr.mono (by omega)) (by rfl) gO.g gO.F.kp gO.b .nil pass0 (pa_cons (pv 1) pa_nil)))
        (pss_one (ps_ret (pe_or (pe_cmpR op_isN (pv 3) pe_non (nomark _)) (pe_one (pe_meth (pv 0) T0.cl MH.m GH (hr.mono (by omega)) MH.b .nil pass0 (pa_cons (pv 3) pa_nil)))))))), ?_⟩
      obtain ⟨dx, d, kvs, h1, h2, h3⟩ := id hf
      refine ⟨_, rfl, v, k, rfl, hv, fun j u e hu => ?_, fun hn => ?_⟩
      · subst e
        have hne : u ≠ .non := fun z => by
          rw [z] at hu
          cases j <;> cases hu
        refine ⟨_, rfl, rfl, true, (by rw [decide_eq_false hne]; rfl), iteT ?_⟩
        refine ⟨_, rfl, p, dx, _, rfl, h1, rfl, _, rfl, ?_⟩
        exact ⟨p, u, some j, cs, rfl, hf, hu, by have : rows j + 1 < D + 1 := hD; show rows j < D; omega, q⟩
      · refine ⟨_, rfl, rfl, false, rfl, iteF ?_⟩
        refine ⟨_, rfl, v, k, rfl, hv, ?_⟩
        have other : (∀ n, k ≠ some (.of n)) → knowsO cs k = true ∧ clsV k = .non := fun h => by
          cases k with
          | none => exact ⟨rfl, rfl⟩
          | some k => cases k <;> first | exact ⟨rfl, rfl⟩ | exact absurd rfl (h _) | exact absurd rfl (hn _)
        by_cases ho : ∃ n, k = some (.of n)
        · obtain ⟨n, rfl⟩ := ho
          refine ⟨_, rfl, rfl, false, rfl, iteF ?_⟩
          refine ⟨_, rfl, p, dx, _, rfl, h1, rfl, _, rfl, ?_⟩
          exact ⟨p, n, cs, rfl, hf, q⟩
        · obtain ⟨e1, e2⟩ := other fun n e => ho ⟨n, e⟩
          rw [e2]
          refine ⟨_, rfl, rfl, true, rfl, iteT ?_⟩
          rw [e1] at q
          exact q
end
end FM

namespace FM
open PySem PySem.Spec PyProof.Rows L2 PV PF T ET PB
def nameV : Option Str → V
  | none => .non
  | some n => .str n
theorem putK_new {kvs : List (Key × V)} {k : Key} {v : V} (h : valV kvs k = none) : putK kvs k v = kvs ++ [(k, v)] := by
  have a : ¬ (kvs.any fun kv => decide (kv.1 = k)) = true := by
    rw [valV_any, h]
    decide
  unfold putK
  rw [if_neg a]
theorem above_at {c : Cl} {H : Hp} {v : V} (h : Dv H v c.py) : ∃ a ws, v = .ref a ∧ H a = some (.tup ws) ∧ ws[0]? = some (.str c.name) ∧ ws[1]? = some (nameV c.above) := by
  obtain ⟨a, xs, rfl, ha, _, r1⟩ := h.tupE
  obtain ⟨u0, us, rfl, h0, r2⟩ := r1.consE
  obtain ⟨u1, us, rfl, h1, r3⟩ := r2.consE
  obtain ⟨rfl, _⟩ := h0.strE
  refine ⟨a, _, rfl, ha, rfl, ?_⟩
  cases e : c.above with
  | none => rw [e] at h1; cases h1; rfl
  | some z => rw [e] at h1; obtain ⟨rfl, _⟩ := h1.strE; rfl
section
variable {P : Program} {w : World} {K : PySem.W.Frag} {mg : Str → Option Value} {base : Heap} {C : Addr}
def spLine (C : Addr) : Sp := fun vs H Q _ => ∃ (p : Addr) (nm : Option Str) (cs : List Cl), vs = [.ref p, nameV nm] ∧ FamAt C H p cs ∧ cs.length ≤ 12 ∧
  ∀ l us H', Same H H' → H l = none → H' l = some (.lst us) → DvAll H' us ((lineOf cs [] nm).map Cl.py) → us.length ≤ 12 → Q (.ref l) H'
theorem ok_line {f : Addr} {fd : FuncData} (F : Fun K "line" "Family.line" s_Family_line f fd) (T0 : FmC K mg C) : FnOk P w K mg base CX0 1 f fd ["self", "name"] (spLine C) := by
  refine F.ok sc_Family_line (fun vs H Q E h => ?_) (fun cdv A outer s H vs Q E hr h => ?_)
  · obtain ⟨p, n, cs, rfl, _⟩ := h
    rfl
  · obtain ⟨p, nm0, cs, rfl, hf, hcs, q⟩ := h
    have hu := hu_of hr
    refine ⟨_, pss_cons (ps_set (i := 2) sc_Family_line.nd rfl (Or.inl rfl) pe_dnewK)
      (pss_cons (ps_while PassesOwn.never (PW.pt (pw_and (pt_cmp (pc_dinN hu (pv 1) (pe_fld (pv 0) rfl))) (pw_and1 (pt_cmp (pc_dnotin hu (pv 1) (pv 2))))))
        (pss_cons (ps_dput hu (pv 2) (pv 1) (pe_dget hu (pe_fld (pv 0) rfl) (pv 1) (fun _ _ => rfl)) rfl)
        (pss_one (ps_set (i := 1) sc_Family_line.nd rfl (Or.inl rfl) (pe_ix ix_tup (pe_dget hu (pv 2) (pv 1) (fun _ _ => rfl)) pe_int (fun _ _ => rfl))))))
      (pss_one (ps_ret (pe_listVals rfl (by rfl) T0.list (pv 2))))), ?_⟩
    obtain ⟨dx, d, kv0, h1, h2, h3⟩ := hf
    intro g hg
    have hgd : d ≠ g := ne_of_none h2 hg
    have hgp : p ≠ g := ne_of_none h1 hg
    refine ⟨fun m σ H2 => ∃ (nm : Option Str) (kvs : List (Key × V)) (seen : List Str) (acc : List Cl), σ = [some (.ref p), some (nameV nm), some (.ref g)] ∧ H2 g = some (.dK kvs) ∧ Same H H2 ∧
        (∀ n, valV kvs (Sum.inr n : Key) = none ↔ n ∉ seen) ∧ DvAll H2 (kvs.map (·.2)) (acc.map Cl.py) ∧ acc ++ lineOf cs seen nm = lineOf cs [] nm0 ∧ kvs.length + leftC cs seen ≤ 12 ∧ leftC cs seen = m, ⟨leftC cs [], nm0, [], [], [], rfl, upd_same, fun b o e => by rw [upd_ne (ne_of_none e hg)]; exact e, fun n => ⟨fun _ => by simp, fun _ => rfl⟩, .nil, rfl, ?_, rfl⟩, ?_⟩
    · have : leftC cs [] ≤ cs.length := List.countP_le_length
      show 0 + leftC cs [] ≤ 12
      omega
    rintro m σ H2 ⟨nm, kvs, seen, acc, rfl, hg2, s2, hk, hd, hl, hm, rfl⟩
    have h12 := s2 _ _ h1
    have h22 := s2 _ _ h2
    have h32 : Holds H2 kv0 cs := Holds.same h3 (TupSame.of s2)
    -- the end
    have fin : lineOf cs seen nm = [] → tListVals (tVar 2) [some (.ref p), some (nameV nm), some (.ref g)] H2 Q := fun e => by
      rw [e, List.append_nil] at hl
      refine ⟨_, rfl, g, kvs, rfl, hg2, fun l nl => ?_⟩
      have s3 : Same H2 (upd H2 l (.lst (kvs.map (·.2)))) := fun b o e => by rw [upd_ne (ne_of_none e nl)]; exact e
      refine q l _ _ (s2.trans s3) (s2.free nl) upd_same ?_ (by rw [List.length_map]; omega)
      rw [← hl]
      exact hd.same (TupSame.of s3)
    cases nm with
    | none =>
      refine ⟨_, rfl, _, rfl, p, C, dx, _, _, rfl, h12, T0.cl, T0.nB, rfl, .inr ⟨d, kv0, rfl, rfl, Rd.of h22, false, rfl, iteF ?_⟩⟩
      exact fin lineOf_none
    | some n =>
      refine ⟨_, rfl, _, rfl, p, C, dx, _, _, rfl, h12, T0.cl, T0.nB, rfl, .inl ⟨d, _, rfl, DGet.k (k := Sum.inr n) h22, (valV kv0 (Sum.inr n : Key)).isSome, rfl, ?_⟩⟩
      rw [has_eq h32 n]
      have hn := h32 n
      cases e : findC cs n with
      | none =>
        have e0 : hasC cs n = false := by unfold hasC; rw [e]; rfl
        rw [e0]
        exact iteF (fin (lineOf_end (.inl e)))
      | some c =>
        rw [e] at hn
        obtain ⟨v, hv, dv⟩ := hn
        have e0 : hasC cs n = true := by unfold hasC; rw [e]; rfl
        rw [e0]
        refine iteT ?_
        refine ⟨_, rfl, _, rfl, g, _, rfl, DGet.k (k := Sum.inr n) hg2, !(valV kvs (Sum.inr n : Key)).isSome, rfl, ?_⟩
        by_cases hs : n ∈ seen
        · have e1 : (valV kvs (Sum.inr n : Key)).isSome = true := by
            cases e2 : valV kvs (Sum.inr n : Key) with
            | none => exact absurd hs ((hk n).mp e2)
            | some _ => rfl
          rw [e1]
          exact iteF (fin (lineOf_end (.inr hs)))
        · have e1 : valV kvs (Sum.inr n : Key) = none := (hk n).mpr hs
          rw [e1]
          refine iteT ?_
          obtain ⟨b0, ws, rfl, hb0, _, w1⟩ := above_at dv
          have g1 : DGet H2 d (.str n) (some (.ref b0)) := by
            have z := DGet.k (k := Sum.inr n) h22
            rw [hv] at z
            exact z
          have hb0g : b0 ≠ g := ne_of hb0 hg2 (by intro z; cases z)
          have s4 : Same H2 (upd H2 g (.dK (putK kvs (Sum.inr n) (.ref b0)))) → True := fun _ => trivial
          have t4 : TupSame H2 (upd H2 g (.dK (putK kvs (Sum.inr n) (.ref b0)))) := fun b ys e => by rw [upd_ne (ne_of e hg2 (by intro z; cases z))]; exact e
          have hg3 : (upd H2 g (.dK (putK kvs (Sum.inr n) (.ref b0)))) g = some (.dK (putK kvs (Sum.inr n) (.ref b0))) := upd_same
          have g2 : DGet (upd H2 g (.dK (putK kvs (Sum.inr n) (.ref b0)))) g (.str n) (some (.ref b0)) := by
            have z := DGet.k (k := Sum.inr n) hg3
            rw [valV_put, if_pos rfl] at z
            exact z
          have lt := leftC_lt e hs
          refine ⟨fun σ' H' => ∃ (nm : Option Str) (kvs : List (Key × V)) (seen' : List Str) (acc : List Cl), σ' = [some (.ref p), some (nameV nm), some (.ref g)] ∧ H' g = some (.dK kvs) ∧ Same H H' ∧
            (∀ n, valV kvs (Sum.inr n : Key) = none ↔ n ∉ seen') ∧ DvAll H' (kvs.map (·.2)) (acc.map Cl.py) ∧ acc ++ lineOf cs seen' nm = lineOf cs [] nm0 ∧ kvs.length + leftC cs seen' ≤ 12 ∧ leftC cs seen' < leftC cs seen, ?_, ?_⟩
          · rintro σ' H' ⟨nm', kvs', seen', acc', a1, a2, a3, a4, a5, a6, a7, a8⟩
            exact ⟨_, a8, nm', kvs', seen', acc', a1, a2, a3, a4, a5, a6, a7, rfl⟩
          refine ⟨_, rfl, p, C, dx, _, _, rfl, h12, T0.cl, T0.nB, rfl, _, rfl, d, _, rfl, g1, _, rfl, _, rfl, g, _, rfl, DPut.k (k := Sum.inr n) hg2 (Nat.lt_of_le_of_lt (by omega : kvs.length ≤ 12) (by decide)), ?_⟩
          refine ⟨_, rfl, _, rfl, g, _, rfl, g2, b0, ws, 1, nameV c.above, rfl, rfl, SqT.of (t4 _ _ hb0), atI_nat (j := 1) w1, ?_⟩
          refine ⟨c.above, putK kvs (Sum.inr n) (.ref b0), n :: seen, acc ++ [c], rfl, upd_same, fun b o e => by rw [upd_ne (ne_of_none e hg)]; exact s2 b o e, fun j => ?_, ?_, ?_, ?_, lt⟩
          · rw [valV_put]
            by_cases hj : j = n
            · subst hj
              rw [if_pos rfl]
              simp
            · rw [if_neg (fun z => hj (by injection z)), hk j]
              simp [hj]
          · have e5 : (putK kvs (Sum.inr n) (V.ref b0)).map (·.2) = kvs.map (·.2) ++ [V.ref b0] := by rw [putK_new e1, List.map_append]; rfl
            rw [e5, List.map_append]
            have ap : ∀ {vs us : List V} {ds es : List PyData} {H : Hp}, DvAll H vs ds → DvAll H us es → DvAll H (vs ++ us) (ds ++ es) := by
              intro vs us ds es H a b
              induction vs generalizing ds with
              | nil => cases a; exact b
              | cons v vs ih => cases a with | cons h r => exact .cons h (ih r)
            exact ap (hd.same t4) (.cons (dv.same t4) .nil)
          · rw [List.append_assoc, ← hl, lineOf_some e hs]
            rfl
          · rw [putK_new e1, List.length_append]
            show kvs.length + 1 + leftC cs (n :: seen) ≤ 12
            omega
end
end FM

namespace FM
open PySem PySem.Spec PyProof.Rows L2 PV PF T ET PB
theorem findSome_at {α β : Type} {l : List α} {g : α → Option β} {i : Nat} {b : β} (h : i < l.length) (hn : (l.take i).findSome? g = none) (hv : g l[i] = some b) : l.findSome? g = some b := by
  have e : l = l.take i ++ l[i] :: l.drop (i + 1) := by
    rw [← List.drop_eq_getElem_cons h, List.take_append_drop]
  rw [e, List.findSome?_append, hn, Option.none_or, List.findSome?_cons, hv]
theorem find_at {α : Type} {l : List α} {g : α → Bool} {i : Nat} (h : i < l.length) (hn : (l.take i).find? g = none) (hv : g l[i] = true) : l.find? g = some l[i] := by
  have e : l = l.take i ++ l[i] :: l.drop (i + 1) := by
    rw [← List.drop_eq_getElem_cons h, List.take_append_drop]
  have e2 : (l.take i ++ l[i] :: l.drop (i + 1)).find? g = some l[i] := by
    rw [List.find?_append, hn, Option.none_or, List.find?_cons, hv]
  rw [← e] at e2
  exact e2
def belowB (cs : List Cl) (n o : Str) : Bool := decide (o ∈ (lineOf cs [] (some n)).map Cl.name)
def fieldK (cs : List Cl) (nm : Option Str) (f : Str) : Option Kd := (lineOf cs [] nm).findSome? fun c => (c.fields.find? fun p => decide (p.1 = f)).map (·.2)
section
variable {P : Program} {w : World} {K : PySem.W.Frag} {mg : Str → Option Value} {base : Heap} {C : Addr}
def spBelow (C : Addr) : Sp := fun vs H Q _ => ∃ (p : Addr) (n o : Str) (cs : List Cl), vs = [.ref p, .str n, .str o] ∧ FamAt C H p cs ∧ cs.length ≤ 12 ∧ ∀ H', Same H H' → Q (.bl (belowB cs n o)) H'
theorem ok_below {f fL : Addr} {fd dL : FuncData} (F : Fun K "is_below" "Family.is_below" s_Family_is_below f fd) (ML : Md K C "line" "Family.line" s_Family_line ["self", "name"] fL dL) (T0 : FmC K mg C) : FnOk P w K mg base CX0 2 f fd ["self", "name", "other"] (spBelow C) := by
  have GL : FnOk P w K mg base CX0 1 fL dL ["self", "name"] (spLine C) := ok_line ML.F T0
  refine F.ok sc_Family_is_below (fun vs H Q E h => ?_) (fun cdv A outer s H vs Q E hr h => ?_)
  · obtain ⟨p, n, o, cs, rfl, _⟩ := h
    rfl
  · obtain ⟨p, n, o, cs, rfl, hf, hl, q⟩ := h
    refine ⟨_, pss_one (ps_ret (pe_cmpR op_in_seq (pv 2) (pe_lc (own := [("each", 3)]) (g := gName 3) (tt := tYes) (te := tOp (rIxT K) (tVar 3) (tC (.int 0))) rfl sc_Family_is_below.nd
      (pi_list (pe_meth (pv 0) T0.cl ML.m GL hr ML.b .nil pass0 (pa_cons (pv 1) pa_nil))) (blkOk_by (N := ["self", "name", "other", "each"]) (sc := defScope s_Family_is_below) (by decide +kernel)) (fun _ _ _ _ _ => pg_name (i := 3) sc_Family_is_below.nd rfl (Or.inl rfl)) (fun _ _ _ _ _ => pts_nil)
      (fun _ _ _ _ _ => pe_ix ix_tup (pv 3) pe_int (fun _ _ => rfl))) (by rfl))), ?_⟩
    obtain ⟨dx, d, kvs, h1, h2, h3⟩ := id hf
    refine ⟨_, rfl, _, rfl, p, dx, _, rfl, h1, rfl, _, rfl, p, some n, cs, rfl, hf, hl, fun l us H1 s1 nl hl1 hd hul => ?_⟩
    refine ⟨l, rfl, ⟨us, SqL.of hl1⟩, fun D nD => ?_⟩
    have hlD : l ≠ D := ne_of_none hl1 nD
    have hlen : us.length = (lineOf cs [] (some n)).length := by rw [hd.len, List.length_map]
    refine lc_list (K := K) (a := l) (xs := us) (fun i H2 => H2 D = some (.lst (((lineOf cs [] (some n)).take i).map fun c => V.str c.name)) ∧ Same H1 H2) ⟨upd_same, fun b u e => by rw [upd_ne (ne_of_none e nD)]; exact e⟩ (fun i H2 _ h => SqL.of (h.2 _ _ hl1)) ?_ ?_
    · rintro i x H2 hx ⟨hD, s2⟩
      have hi : i < (lineOf cs [] (some n)).length := by
        have := (List.getElem?_eq_some_iff.mp hx).1
        omega
      obtain ⟨v2, hv2, dv⟩ := hd.get (i := i) (d := ((lineOf cs [] (some n))[i]).py) (by rw [List.getElem?_map, List.getElem?_eq_getElem hi]; rfl)
      obtain rfl : x = v2 := by
        rw [hx] at hv2
        exact Option.some.inj hv2
      obtain ⟨b0, ws, rfl, hb0, w0, w1⟩ := above_at (dv.same (TupSame.of s2))
      refine ⟨rfl, iteT (B := H2 D = some (HO.lst (((lineOf cs [] (some n)).take (i + 1)).map fun c => V.str c.name)) ∧ Same H1 H2) ?_⟩
      refine ⟨_, rfl, b0, ws, 0, .str ((lineOf cs [] (some n))[i]).name, rfl, rfl, SqT.of hb0, atI_nat (j := 0) w0, ?_⟩
      refine ⟨_, hD, Nat.lt_of_le_of_lt (by rw [List.length_map, List.length_take]; omega : _ ≤ 12) (by decide), ?_, fun b u e => by rw [upd_ne (ne_of_none e nD)]; exact s2 b u e⟩
      rw [upd_same, List.take_add_one, List.getElem?_eq_getElem hi, List.map_append]
      rfl
    · rintro H2 ⟨hD, s2⟩
      rw [hlen, List.take_length] at hD
      refine ⟨D, _, rfl, .inl (SqL.of hD), rfl, ?_, ?_⟩
      · rw [List.all_map, List.all_eq_true]
        intro x _
        rfl
      · have e : inV (.str o) ((lineOf cs [] (some n)).map fun c => V.str c.name) = belowB cs n o := by
          have := inW o ((lineOf cs [] (some n)).map Cl.name)
          rw [List.map_map] at this
          exact this
        show Q (.bl (inV (.str o) ((lineOf cs [] (some n)).map fun c => V.str c.name))) H2
        rw [e]
        exact q _ (s1.trans s2)
def spFieldK (C : Addr) : Sp := fun vs H Q _ => ∃ (p : Addr) (nm : Option Str) (f : Str) (cs : List Cl), vs = [.ref p, nameV nm, .str f] ∧ FamAt C H p cs ∧ cs.length ≤ 12 ∧ ∀ u H', Same H H' → Dv H' u (optK (fieldK cs nm f)) → Q u H'
theorem ok_fieldK {f fL : Addr} {fd dL : FuncData} (F : Fun K "field_kind" "Family.field_kind" s_Family_field_kind f fd) (ML : Md K C "line" "Family.line" s_Family_line ["self", "name"] fL dL) (T0 : FmC K mg C) : FnOk P w K mg base CX0 2 f fd ["self", "name", "field"] (spFieldK C) := by
  have GL : FnOk P w K mg base CX0 1 fL dL ["self", "name"] (spLine C) := ok_line ML.F T0
  refine F.ok sc_Family_field_kind (fun vs H Q E h => ?_) (fun cdv A outer s H vs Q E hr h => ?_)
  · obtain ⟨p, n, o, cs, rfl, _⟩ := h
    rfl
  · obtain ⟨p, nm, o, cs, rfl, hf, hl, q⟩ := h
    refine ⟨_, pss_cons (ps_for PassesOwn.never rfl (pi_list (pe_meth (pv 0) T0.cl ML.m GL hr ML.b .nil pass0 (pa_cons (pv 1) pa_nil))) (pg_name (i := 3) sc_Family_field_kind.nd rfl (Or.inl rfl))
        (pss_one (ps_for PassesOwn.never rfl (pi_tup (pe_ix ix_tup (pv 3) pe_int (fun _ _ => rfl))) (pg_tup rfl (pgs_cons (pg_name (i := 4) sc_Family_field_kind.nd rfl (Or.inl rfl)) (pgs_cons (pg_name (i := 5) sc_Family_field_kind.nd rfl (Or.inl rfl)) pgs_nil)))
          (pss_one (ps_if (pt_cmpR op_eq (pv 4) (pv 2) (nomark _)) (pss_one (ps_ret (pv 5))) pss_nil)))))
      (pss_one (ps_ret pe_non)), ?_⟩
    obtain ⟨dx, d, kvs, h1, h2, h3⟩ := id hf
    refine ⟨_, rfl, p, dx, _, rfl, h1, rfl, _, rfl, p, nm, cs, rfl, hf, hl, fun l us H1 s1 nl hl1 hd hul => ?_⟩
    refine ⟨l, rfl, ⟨us, SqL.of hl1⟩, ?_⟩
    have hlen : us.length = (lineOf cs [] nm).length := by rw [hd.len, List.length_map]
    let look : Cl → Option Kd := fun c => (c.fields.find? fun p => decide (p.1 = o)).map (·.2)
    refine for_list (K := K) (a := l) (xs := us) (fun i σ H2 => (∃ s3 s4 s5, σ = [some (.ref p), some (nameV nm), some (.str o), s3, s4, s5]) ∧ H2 = H1 ∧ ((lineOf cs [] nm).take i).findSome? look = none) ⟨⟨_, _, _, rfl⟩, rfl, rfl⟩ (fun i σ H2 _ h => by rw [h.2.1]; exact SqL.of hl1) ?_ ?_
    · rintro i x σ H2 hx ⟨⟨s3, s4, s5, rfl⟩, rfl, hn⟩
      have hi : i < (lineOf cs [] nm).length := by
        have := (List.getElem?_eq_some_iff.mp hx).1
        omega
      obtain ⟨v2, hv2, dv⟩ := hd.get (i := i) (d := ((lineOf cs [] nm)[i]).py) (by rw [List.getElem?_map, List.getElem?_eq_getElem hi]; rfl)
      obtain rfl : x = v2 := by
        rw [hx] at hv2
        exact Option.some.inj hv2
      obtain ⟨b0, ws, rfl, hb0, _, r1⟩ := dv.tupE
      obtain ⟨u0, us', rfl, g0, r2⟩ := r1.consE
      obtain ⟨u1, us', rfl, g1, r2⟩ := r2.consE
      obtain ⟨u2, us', rfl, g2, r2⟩ := r2.consE
      obtain ⟨b2, ys, rfl, hb2, _, r3⟩ := g2.tupE
      have hyl : ys.length = ((lineOf cs [] nm)[i]).fields.length := by rw [r3.len, List.length_map]
      refine ⟨_, rfl, b0, _, 2, .ref b2, rfl, rfl, SqT.of hb0, atI_nat (j := 2) rfl, b2, rfl, ⟨ys, SqT.of hb2⟩, ?_⟩
      refine for_tup (xs := ys) (fun j σ H3 => (∃ s3 s4 s5, σ = [some (.ref p), some (nameV nm), some (.str o), s3, s4, s5]) ∧ H3 = H2 ∧ (((lineOf cs [] nm)[i]).fields.take j).find? (fun p => decide (p.1 = o)) = none) ⟨⟨_, _, _, rfl⟩, rfl, rfl⟩ (fun j σ H3 _ h => by rw [h.2.1]; exact SqT.of hb2) ?_ ?_
      · rintro j y σ H3 hy ⟨⟨t3, t4, t5, rfl⟩, rfl, hm⟩
        have hj : j < ((lineOf cs [] nm)[i]).fields.length := by
          have := (List.getElem?_eq_some_iff.mp hy).1
          omega
        obtain ⟨v3, hv3, dv3⟩ := r3.get (i := j) (d := pair (((lineOf cs [] nm)[i]).fields[j])) (by rw [List.getElem?_map, List.getElem?_eq_getElem hj]; rfl)
        obtain rfl : y = v3 := by
          rw [hy] at hv3
          exact Option.some.inj hv3
        obtain ⟨c0, zs, rfl, hc0, _, r4⟩ := dv3.tupE
        obtain ⟨e0, us2, rfl, k0, r5⟩ := r4.consE
        obtain ⟨e1, us2, rfl, k1, r5⟩ := r5.consE
        obtain rfl := r5.nilE
        obtain ⟨rfl, _⟩ := k0.strE
        refine ⟨c0, _, rfl, SqT.of hc0, rfl, _, _, rfl, _, _, rfl, rfl, ?_⟩
        refine ⟨_, rfl, _, rfl, rfl, _, rfl, ?_⟩
        by_cases he : (((lineOf cs [] nm)[i]).fields[j]).1 = o
        · rw [decide_eq_true (by rw [he])]
          refine iteT ⟨_, rfl, ?_⟩
          refine q _ _ s1 ?_
          have e2 : fieldK cs nm o = some (((lineOf cs [] nm)[i]).fields[j]).2 := by
            refine findSome_at (g := look) hi hn ?_
            show ((((lineOf cs [] nm)[i]).fields.find? fun p => decide (p.1 = o)).map (·.2)) = _
            rw [find_at hj hm (decide_eq_true he)]
            rfl
          rw [e2]
          exact k1
        · rw [decide_eq_false (fun z => he (by injection z))]
          refine iteF ?_
          refine ⟨⟨_, _, _, rfl⟩, rfl, ?_⟩
          rw [List.take_add_one, List.getElem?_eq_getElem hj, List.find?_append, hm]
          simp [he]
      · rintro σ H3 ⟨⟨t3, t4, t5, rfl⟩, rfl, hm⟩
        rw [hyl, List.take_length] at hm
        refine ⟨⟨_, _, _, rfl⟩, rfl, ?_⟩
        rw [List.take_add_one, List.getElem?_eq_getElem hi, List.findSome?_append, hn]
        simp [look, hm]
    · rintro σ H2 ⟨_, rfl, hn⟩
      rw [hlen, List.take_length] at hn
      refine q _ _ s1 ?_
      have e2 : fieldK cs nm o = none := hn
      rw [e2]
      exact .non
def methF (cs : List Cl) (nm : Option Str) (m : Str) : Option Fn := (lineOf cs [] nm).findSome? fun c => c.methods.find? fun f => decide (f.name = m)
def optF : Option Fn → PyData
  | none => .none
  | some f => f.py
def spMethod (C : Addr) : Sp := fun vs H Q _ => ∃ (p : Addr) (nm : Option Str) (f : Str) (cs : List Cl), vs = [.ref p, nameV nm, .str f] ∧ FamAt C H p cs ∧ cs.length ≤ 12 ∧ ∀ u H', Same H H' → Dv H' u (optF (methF cs nm f)) → Q u H'
theorem ok_method {f fL : Addr} {fd dL : FuncData} (F : Fun K "method" "Family.method" s_Family_method f fd) (ML : Md K C "line" "Family.line" s_Family_line ["self", "name"] fL dL) (T0 : FmC K mg C) : FnOk P w K mg base CX0 2 f fd ["self", "name", "method"] (spMethod C) := by
  have GL : FnOk P w K mg base CX0 1 fL dL ["self", "name"] (spLine C) := ok_line ML.F T0
  refine F.ok sc_Family_method (fun vs H Q E h => ?_) (fun cdv A outer s H vs Q E hr h => ?_)
  · obtain ⟨p, n, o, cs, rfl, _⟩ := h
    rfl
  · obtain ⟨p, nm, o, cs, rfl, hf, hl, q⟩ := h
    refine ⟨_, pss_cons (ps_for PassesOwn.never rfl (pi_list (pe_meth (pv 0) T0.cl ML.m GL hr ML.b .nil pass0 (pa_cons (pv 1) pa_nil))) (pg_name (i := 3) sc_Family_method.nd rfl (Or.inl rfl))
        (pss_one (ps_for PassesOwn.never rfl (pi_tup (pe_ix ix_tup (pv 3) pe_int (fun _ _ => rfl))) (pg_name (i := 4) sc_Family_method.nd rfl (Or.inl rfl))
          (pss_one (ps_if (pt_cmpR op_eq (pe_ix ix_tup (pv 4) pe_int (fun _ _ => rfl)) (pv 2) (nomark _)) (pss_one (ps_ret (pv 4))) pss_nil)))))
      (pss_one (ps_ret pe_non)), ?_⟩
    obtain ⟨dx, d, kvs, h1, h2, h3⟩ := id hf
    refine ⟨_, rfl, p, dx, _, rfl, h1, rfl, _, rfl, p, nm, cs, rfl, hf, hl, fun l us H1 s1 nl hl1 hd hul => ?_⟩
    refine ⟨l, rfl, ⟨us, SqL.of hl1⟩, ?_⟩
    have hlen : us.length = (lineOf cs [] nm).length := by rw [hd.len, List.length_map]
    let look : Cl → Option Fn := fun c => c.methods.find? fun f => decide (f.name = o)
    refine for_list (K := K) (a := l) (xs := us) (fun i σ H2 => (∃ s3 s4, σ = [some (.ref p), some (nameV nm), some (.str o), s3, s4]) ∧ H2 = H1 ∧ ((lineOf cs [] nm).take i).findSome? look = none) ⟨⟨_, _, rfl⟩, rfl, rfl⟩ (fun i σ H2 _ h => by rw [h.2.1]; exact SqL.of hl1) ?_ ?_
    · rintro i x σ H2 hx ⟨⟨s3, s4, rfl⟩, rfl, hn⟩
      have hi : i < (lineOf cs [] nm).length := by
        have := (List.getElem?_eq_some_iff.mp hx).1
        omega
      obtain ⟨v2, hv2, dv⟩ := hd.get (i := i) (d := ((lineOf cs [] nm)[i]).py) (by rw [List.getElem?_map, List.getElem?_eq_getElem hi]; rfl)
      obtain rfl : x = v2 := by
        rw [hx] at hv2
        exact Option.some.inj hv2
      obtain ⟨b0, ws, rfl, hb0, _, r1⟩ := dv.tupE
      obtain ⟨u0, us', rfl, g0, r2⟩ := r1.consE
      obtain ⟨u1, us', rfl, g1, r2⟩ := r2.consE
      obtain ⟨u2, us', rfl, g2, r2⟩ := r2.consE
      obtain ⟨u3, us', rfl, g3, r2⟩ := r2.consE
      obtain ⟨b2, ys, rfl, hb2, _, r3⟩ := g3.tupE
      have hyl : ys.length = ((lineOf cs [] nm)[i]).methods.length := by rw [r3.len, List.length_map]
      refine ⟨_, rfl, b0, _, 3, .ref b2, rfl, rfl, SqT.of hb0, atI_nat (j := 3) rfl, b2, rfl, ⟨ys, SqT.of hb2⟩, ?_⟩
      refine for_tup (xs := ys) (fun j σ H3 => (∃ s3 s4, σ = [some (.ref p), some (nameV nm), some (.str o), s3, s4]) ∧ H3 = H2 ∧ (((lineOf cs [] nm)[i]).methods.take j).find? (fun f => decide (f.name = o)) = none) ⟨⟨_, _, rfl⟩, rfl, rfl⟩ (fun j σ H3 _ h => by rw [h.2.1]; exact SqT.of hb2) ?_ ?_
      · rintro j y σ H3 hy ⟨⟨t3, t4, rfl⟩, rfl, hm⟩
        have hj : j < ((lineOf cs [] nm)[i]).methods.length := by
          have := (List.getElem?_eq_some_iff.mp hy).1
          omega
        obtain ⟨v3, hv3, dv3⟩ := r3.get (i := j) (d := (((lineOf cs [] nm)[i]).methods[j]).py) (by rw [List.getElem?_map, List.getElem?_eq_getElem hj]; rfl)
        obtain rfl : y = v3 := by
          rw [hy] at hv3
          exact Option.some.inj hv3
        obtain ⟨c0, zs, rfl, hc0, _, r4⟩ := id dv3.tupE
        obtain ⟨e0, us2, rfl, k0, r5⟩ := r4.consE
        obtain ⟨rfl, _⟩ := k0.strE
        refine ⟨_, rfl, c0, _, 0, .str (((lineOf cs [] nm)[i]).methods[j]).name, rfl, rfl, SqT.of hc0, atI_nat (j := 0) rfl, _, rfl, rfl, _, rfl, ?_⟩
        by_cases he : (((lineOf cs [] nm)[i]).methods[j]).name = o
        · rw [decide_eq_true (by rw [he])]
          refine iteT ⟨_, rfl, ?_⟩
          refine q _ _ s1 ?_
          have e2 : methF cs nm o = some (((lineOf cs [] nm)[i]).methods[j]) := by
            refine findSome_at (g := look) hi hn ?_
            show (((lineOf cs [] nm)[i]).methods.find? fun f => decide (f.name = o)) = _
            rw [find_at hj hm (decide_eq_true he)]
          rw [e2]
          exact dv3
        · rw [decide_eq_false (fun z => he (by injection z))]
          refine iteF ?_
          refine ⟨⟨_, _, rfl⟩, rfl, ?_⟩
          rw [List.take_add_one, List.getElem?_eq_getElem hj, List.find?_append, hm]
          simp [he]
      · rintro σ H3 ⟨⟨t3, t4, rfl⟩, rfl, hm⟩
        rw [hyl, List.take_length] at hm
        refine ⟨⟨_, _, rfl⟩, rfl, ?_⟩
        rw [List.take_add_one, List.getElem?_eq_getElem hi, List.findSome?_append, hn]
        simp [look, hm]
    · rintro σ H2 ⟨_, rfl, hn⟩
      rw [hlen, List.take_length] at hn
      refine q _ _ s1 ?_
      have e2 : methF cs nm o = none := hn
      rw [e2]
      exact .non
end
end FM

namespace FM
open PySem PySem.Spec PyProof.Rows L2 PV PF T ET PB
theorem kd_eqv : ∀ a b : Kd, PyData.eqv a.py b.py = decide (a = b) := by
  intro a
  induction a with
  | row k ih =>
    intro b
    cases b with
    | row j =>
      show ((("row" : Str) == "row") && (PyData.eqv k.py j.py && true)) = _
      rw [ih, Bool.and_true, show (("row" : Str) == "row") = true by decide +kernel, Bool.true_and]
      by_cases h : k = j <;> simp [h]
    | _ => rfl
  | of n =>
    intro b
    cases b with
    | of m =>
      show ((("of" : Str) == "of") && ((n == m) && true)) = _
      rw [Bool.and_true, show (("of" : Str) == "of") = true by decide +kernel, Bool.true_and, Bool.eq_iff_iff]
      simp
    | _ => rfl
  | _ =>
    intro b
    cases b <;> rfl
theorem ko_eqv (a b : Option Kd) : PyData.eqv (optK a) (optK b) = decide (a = b) := by
  cases a with
  | none =>
    cases b with
    | none => rfl
    | some b => cases b <;> rfl
  | some a =>
    cases b with
    | none => cases a <;> rfl
    | some b =>
      show PyData.eqv a.py b.py = _
      rw [kd_eqv]
      by_cases h : a = b <;> simp [h]
/-- its names are texts that may be laid -/
def so : Kd → Bool
  | .of n => PyData.strOk n
  | .row k => so k
  | _ => true
def soO : Option Kd → Bool
  | none => true
  | some k => so k
theorem kd_lay : ∀ k : Kd, so k = true → k.py.canLay0 = true ∧ k.py.depth ≤ rows k + 2 := by
  have c : ∀ z : Str, PyData.strOk z = true → (PyData.str z).canLay0 = true := fun z h => by simpa [PyData.canLay0] using h
  intro k
  induction k with
  | row k ih =>
    intro h
    obtain ⟨i1, i2⟩ := ih h
    have r0 : PyData.strOk ("row" : Str) = true := by decide +kernel
    constructor
    · show ((PyData.str "row").canLay0 && (k.py.canLay0 && true)) = true
      rw [c _ r0, i1]
      rfl
    · have e : (Kd.row k).py.depth = max 0 (max k.py.depth 0) + 1 := rfl
      rw [e]
      show _ ≤ rows k + 1 + 2
      omega
  | of n =>
    intro h
    have r0 : PyData.strOk ("of" : Str) = true := by decide +kernel
    constructor
    · show ((PyData.str "of").canLay0 && ((PyData.str n).canLay0 && true)) = true
      rw [c _ r0, c _ h]
      rfl
    · exact Nat.le_of_lt (by show 1 < 0 + 2; decide)
  | _ =>
    intro _
    exact ⟨c _ (by decide +kernel), Nat.zero_le _⟩
theorem ko_shaped (k : Option Kd) (h : rowsO k ≤ 60) (hs : soO k = true) : SeqAt.shaped (optK k) = true := by
  cases k with
  | none => decide +kernel
  | some k =>
    obtain ⟨h1, h2⟩ := kd_lay k hs
    have h3 : rows k ≤ 60 := h
    unfold SeqAt.shaped
    show (k.py.canLay0 && decide (k.py.depth ≤ 64)) = true
    rw [h1, decide_eq_true (by omega)]
    rfl
def isRefO : Option Kd → Bool
  | none => false
  | some k => isRef k
def clsO : Option Kd → Option Str
  | some (.of n) => some n
  | _ => none
theorem clsV_O (k : Option Kd) : clsV k = nameV (clsO k) := by
  cases k with
  | none => rfl
  | some k => cases k <;> rfl
def kbelow (cs : List Cl) (a b : Option Kd) : Bool := match clsO a, clsO b with
  | some n, some o => belowB cs n o
  | _, _ => false
def fitsB (cs : List Cl) (a b : Option Kd) : Bool := if a = b then true else if a = some .nil then isRefO b else kbelow cs a b
def sameB (cs : List Cl) (a b : Option Kd) : Bool := fitsB cs a b || fitsB cs b a
def ofB (cs : List Cl) (a : Option Kd) (n : Str) : Bool := decide (a = some .nil) || (kbelow cs a (some (.of n)) || kbelow cs (some (.of n)) a)
section
variable {P : Program} {w : World} {K : PySem.W.Frag} {mg : Str → Option Value} {base : Heap} {C : Addr}
def spIsRef : Sp := fun vs H Q _ => ∃ (v : V) (k : Option Kd), vs = [v] ∧ Dv H v (optK k) ∧ rowsO k ≤ 60 ∧ soO k = true ∧ Q (.bl (isRefO k)) H
theorem ok_isRef {f : Addr} {fd : FuncData} (F : Fun K "is_reference" "is_reference" s_is_reference f fd) (T0 : FmC K mg C) : FnOk P w K mg base CX0 1 f fd ["kind"] spIsRef := by
  refine F.ok sc_is_reference (fun vs H Q E h => ?_) (fun cdv A outer s H vs Q E hr h => ?_)
  · obtain ⟨v, k, rfl, _⟩ := h
    rfl
  · obtain ⟨v, k, rfl, hv, hd, hso, q⟩ := h
    have b := T0.b
    obtain ⟨_, mn⟩ := T0.nil
    refine ⟨_, pss_one (ps_ret (pe_or (pe_cmpR (op_eqD hr.units) (pv 0) pe_str (nomark _)) (pe_or (pe_cmpR (op_eqD hr.units) (pv 0) (pe_glob (v := .str "nil") (by rfl) mn ⟨_, rfl⟩) (nomark _))
      (pe_one (pe_callB call_isi (by rfl) b.isi (by decide +kernel) (pa_cons (pv 0) (pa_cons (pe_bltn (by rfl) b.tuple (v := .ty "tuple") (by decide +kernel) rfl) pa_nil))))))), ?_⟩
    have e1 : PyData.eqv (optK k) (.str "text") = decide (k = some .text) := ko_eqv k (some .text)
    have e2 : PyData.eqv (optK k) (.str "nil") = decide (k = some .nil) := ko_eqv k (some .nil)
    refine ⟨_, rfl, optK k, .str "text", hv.dp K, .str _, ko_shaped k hd hso, by decide +kernel, ?_⟩
    rw [e1]
    refine ⟨_, rfl, ?_⟩
    by_cases h1 : k = some .text
    · rw [decide_eq_true h1]
      refine iteT ?_
      subst h1
      exact q
    · rw [decide_eq_false h1]
      refine iteF ?_
      refine ⟨_, rfl, optK k, .str "nil", hv.dp K, .str _, ko_shaped k hd hso, by decide +kernel, ?_⟩
      rw [e2]
      refine ⟨_, rfl, ?_⟩
      by_cases h2 : k = some .nil
      · rw [decide_eq_true h2]
        refine iteT ?_
        subst h2
        exact q
      · rw [decide_eq_false h2]
        refine iteF ?_
        rcases kdCases (K := K) hv with ⟨t, t1, t2, n1, n2⟩ | ⟨a, n, rfl, rfl, ha⟩ | ⟨a, u, j, rfl, rfl, ha, hu⟩
        · refine ⟨_, rfl, _, _, _, _, _, rfl, .ty _, t1, t2, ?_⟩
          have e : isRefO k = false := by
            cases k with
            | none => rfl
            | some k => cases k <;> first | rfl | exact absurd rfl (n1 _) | exact absurd rfl (n2 _) | exact absurd rfl h1 | exact absurd rfl h2
          rw [e] at q
          exact q
        · obtain ⟨t, t1, t2, _⟩ := tupTy (K := K) ha
          exact ⟨_, rfl, _, _, _, _, _, rfl, .ty _, t1, t2, q⟩
        · obtain ⟨t, t1, t2, _⟩ := tupTy (K := K) ha
          exact ⟨_, rfl, _, _, _, _, _, rfl, .ty _, t1, t2, q⟩
def spKb (C : Addr) : Sp := fun vs H Q _ => ∃ (p : Addr) (v u : V) (a b : Option Kd) (cs : List Cl), vs = [.ref p, v, u] ∧ FamAt C H p cs ∧ cs.length ≤ 12 ∧ Dv H v (optK a) ∧ Dv H u (optK b) ∧ ∀ H', Same H H' → Q (.bl (kbelow cs a b)) H'
theorem ok_kb {f fL fB : Addr} {fd dL dB : FuncData} (F : Fun K "is_kind_below" "Family.is_kind_below" s_Family_is_kind_below f fd) (MB : Md K C "is_below" "Family.is_below" s_Family_is_below ["self", "name", "other"] fB dB) (ML : Md K C "line" "Family.line" s_Family_line ["self", "name"] fL dL) (T0 : FmC K mg C) :
    FnOk P w K mg base CX0 3 f fd ["self", "kind", "other"] (spKb C) := by
  obtain ⟨fO, dO, gO⟩ := T0.co
  have GO : FnOk P w K mg base CX0 1 fO dO ["kind"] spClsOf := ok_clsOf gO.F T0.b
  have GB : FnOk P w K mg base CX0 2 fB dB ["self", "name", "other"] (spBelow C) := ok_below MB.F ML T0
  refine F.ok sc_Family_is_kind_below (fun vs H Q E h => ?_) (fun cdv A outer s H vs Q E hr h => ?_)
  · obtain ⟨p, v, u, a, b, cs, rfl, _⟩ := h
    rfl
  · obtain ⟨p, v, u, a, b, cs, rfl, hf, hl, hv, hu, q⟩ := h
    refine ⟨_, pss_cons (ps_set (i := 3) sc_Family_is_kind_below.nd rfl (Or.inl rfl) (pe_call GO (hr.mono (by decide)) (by rfl) gO.g gO.F.kp gO.b .nil pass0 (pa_cons (pv 1) pa_nil)))
      (pss_cons (ps_set (i := 4) sc_Family_is_kind_below.nd rfl (Or.inl rfl) (pe_call GO (hr.mono (by decide)) (by rfl) gO.g gO.F.kp gO.b .nil pass0 (pa_cons (pv 2) pa_nil)))
      (pss_one (ps_ret (pe_and (pe_cmpR op_notN (pv 3) pe_non (nomark _)) (pe_and (pe_cmpR op_notN (pv 4) pe_non (nomark _)) (pe_one (pe_meth (pv 0) T0.cl MB.m GB hr MB.b .nil pass0 (pa_cons (pv 3) (pa_cons (pv 4) pa_nil))))))))), ?_⟩
    obtain ⟨dx, d, kvs, h1, h2, h3⟩ := id hf
    refine ⟨_, rfl, v, a, rfl, hv, ?_⟩
    refine ⟨_, rfl, u, b, rfl, hu, ?_⟩
    have s0 : Same H H := fun _ _ e => e
    cases ea : clsO a with
    | none =>
      have e : kbelow cs a b = false := by unfold kbelow; rw [ea]
      rw [clsV_O a, ea]
      refine ⟨_, rfl, rfl, false, rfl, iteF ?_⟩
      have := q H s0
      rw [e] at this
      exact this
    | some n =>
      rw [clsV_O a, ea]
      refine ⟨_, rfl, rfl, true, rfl, iteT ?_⟩
      cases eb : clsO b with
      | none =>
        have e : kbelow cs a b = false := by unfold kbelow; rw [ea, eb]
        rw [clsV_O b, eb]
        refine ⟨_, rfl, rfl, false, rfl, iteF ?_⟩
        have := q H s0
        rw [e] at this
        exact this
      | some o =>
        have e : kbelow cs a b = belowB cs n o := by unfold kbelow; rw [ea, eb]
        rw [clsV_O b, eb]
        refine ⟨_, rfl, rfl, true, rfl, iteT ?_⟩
        refine ⟨_, rfl, p, dx, _, rfl, h1, rfl, _, rfl, _, rfl, ?_⟩
        exact ⟨p, n, o, cs, rfl, hf, hl, fun H' s => by have := q H' s; rw [e] at this; exact this⟩
end
end FM

namespace FM
open PySem PySem.Spec PyProof.Rows L2 PV PF T ET PB
/-- a kind that may be compared -/
def KdOk (k : Option Kd) : Prop := rowsO k ≤ 60 ∧ soO k = true
theorem KdOk.sh {k : Option Kd} (h : KdOk k) : SeqAt.shaped (optK k) = true := ko_shaped k h.1 h.2
section
variable {P : Program} {w : World} {K : PySem.W.Frag} {mg : Str → Option Value} {base : Heap} {C : Addr}
/-- the methods that ask whether kinds fit -/
structure Fits (K : PySem.W.Frag) (C : Addr) (fL fB fK fF fS : Addr) (dL dB dK dF dS : FuncData) : Prop where
  l : Md K C "line" "Family.line" s_Family_line ["self", "name"] fL dL
  b : Md K C "is_below" "Family.is_below" s_Family_is_below ["self", "name", "other"] fB dB
  k : Md K C "is_kind_below" "Family.is_kind_below" s_Family_is_kind_below ["self", "kind", "other"] fK dK
  f : Md K C "fits" "Family.fits" s_Family_fits ["self", "kind", "other"] fF dF
  s : Md K C "may_be_same" "Family.may_be_same" s_Family_may_be_same ["self", "kind", "other"] fS dS
def spTwo (C : Addr) (g : List Cl → Option Kd → Option Kd → Bool) : Sp := fun vs H Q _ => ∃ (p : Addr) (v u : V) (a b : Option Kd) (cs : List Cl), vs = [.ref p, v, u] ∧ FamAt C H p cs ∧ cs.length ≤ 12 ∧ Dv H v (optK a) ∧ Dv H u (optK b) ∧ KdOk a ∧ KdOk b ∧ ∀ H', Same H H' → Q (.bl (g cs a b)) H'
theorem ok_fits {fL fB fK fF fS : Addr} {dL dB dK dF dS : FuncData} (X : Fits K C fL fB fK fF fS dL dB dK dF dS) (T0 : FmC K mg C) : FnOk P w K mg base CX0 4 fF dF ["self", "kind", "other"] (spTwo C fitsB) := by
  obtain ⟨fR, dR, gR⟩ := T0.ir
  have GR : FnOk P w K mg base CX0 1 fR dR ["kind"] spIsRef := ok_isRef gR.F T0
  have GK : FnOk P w K mg base CX0 3 fK dK ["self", "kind", "other"] (spKb C) := ok_kb X.k.F X.b X.l T0
  obtain ⟨_, mn⟩ := T0.nil
  refine X.f.F.ok sc_Family_fits (fun vs H Q E h => ?_) (fun cdv A outer s H vs Q E hr h => ?_)
  · obtain ⟨p, v, u, a, b, cs, rfl, _⟩ := h
    rfl
  · obtain ⟨p, v, u, a, b, cs, rfl, hf, hl, hv, hu, ka, kb, q⟩ := h
    refine ⟨_, pss_cons (ps_if (pt_cmpR (op_eqD hr.units) (pv 1) (pv 2) (nomark _)) (pss_one (ps_ret pe_bl)) pss_nil)
      (pss_cons (ps_if (pt_cmpR (op_eqD hr.units) (pv 1) (pe_glob (v := .str "nil") (by rfl) mn ⟨_, rfl⟩) (nomark _)) (pss_one (ps_ret (pe_call GR (hr.mono (by decide)) (by rfl) gR.g gR.F.kp gR.b .nil pass0 (pa_cons (pv 2) pa_nil)))) pss_nil)
      (pss_one (ps_ret (pe_meth (pv 0) T0.cl X.k.m GK hr X.k.b .nil pass0 (pa_cons (pv 1) (pa_cons (pv 2) pa_nil)))))), ?_⟩
    obtain ⟨dx, d, kvs, h1, h2, h3⟩ := id hf
    have s0 : Same H H := fun _ _ e => e
    refine ⟨_, rfl, _, rfl, optK a, optK b, hv.dp K, hu.dp K, ka.sh, kb.sh, ?_⟩
    rw [ko_eqv a b]
    refine ⟨_, rfl, ?_⟩
    by_cases hab : a = b
    · rw [decide_eq_true hab]
      refine iteT ?_
      have := q H s0
      unfold fitsB at this
      rw [if_pos hab] at this
      exact this
    · rw [decide_eq_false hab]
      refine iteF ?_
      have e2 : PyData.eqv (optK a) (.str "nil") = decide (a = some .nil) := ko_eqv a (some .nil)
      refine ⟨_, rfl, optK a, .str "nil", hv.dp K, .str _, ka.sh, by decide +kernel, ?_⟩
      rw [e2]
      refine ⟨_, rfl, ?_⟩
      by_cases hn : a = some .nil
      · rw [decide_eq_true hn]
        refine iteT ?_
        refine ⟨_, rfl, u, b, rfl, hu, kb.1, kb.2, ?_⟩
        have := q H s0
        unfold fitsB at this
        rw [if_neg hab, if_pos hn] at this
        exact this
      · rw [decide_eq_false hn]
        refine iteF ?_
        refine ⟨_, rfl, p, dx, _, rfl, h1, rfl, _, rfl, _, rfl, ?_⟩
        refine ⟨p, v, u, a, b, cs, rfl, hf, hl, hv, hu, fun H' s => ?_⟩
        have := q H' s
        unfold fitsB at this
        rw [if_neg hab, if_neg hn] at this
        exact this
theorem ok_same {fL fB fK fF fS : Addr} {dL dB dK dF dS : FuncData} (X : Fits K C fL fB fK fF fS dL dB dK dF dS) (T0 : FmC K mg C) : FnOk P w K mg base CX0 5 fS dS ["self", "kind", "other"] (spTwo C sameB) := by
  have GF : FnOk P w K mg base CX0 4 fF dF ["self", "kind", "other"] (spTwo C fitsB) := ok_fits X T0
  refine X.s.F.ok sc_Family_may_be_same (fun vs H Q E h => ?_) (fun cdv A outer s H vs Q E hr h => ?_)
  · obtain ⟨p, v, u, a, b, cs, rfl, _⟩ := h
    rfl
  · obtain ⟨p, v, u, a, b, cs, rfl, hf, hl, hv, hu, ka, kb, q⟩ := h
    refine ⟨_, pss_one (ps_ret (pe_or (pe_meth (pv 0) T0.cl X.f.m GF hr X.f.b .nil pass0 (pa_cons (pv 1) (pa_cons (pv 2) pa_nil))) (pe_one (pe_meth (pv 0) T0.cl X.f.m GF hr X.f.b .nil pass0 (pa_cons (pv 2) (pa_cons (pv 1) pa_nil)))))), ?_⟩
    obtain ⟨dx, d, kvs, h1, h2, h3⟩ := id hf
    refine ⟨_, rfl, p, dx, _, rfl, h1, rfl, _, rfl, _, rfl, ?_⟩
    refine ⟨p, v, u, a, b, cs, rfl, hf, hl, hv, hu, ka, kb, fun H1 s1 => ⟨_, rfl, ?_⟩⟩
    by_cases e : fitsB cs a b = true
    · rw [e]
      refine iteT ?_
      have := q H1 s1
      unfold sameB at this
      rw [e] at this
      exact this
    · have e : fitsB cs a b = false := by simpa using e
      rw [e]
      refine iteF ?_
      have t := TupSame.of s1
      have hf1 := hf.still (Still.of s1)
      obtain ⟨dx1, d1, kvs1, g1, _, _⟩ := id hf1
      refine ⟨_, rfl, p, dx1, _, rfl, g1, rfl, _, rfl, _, rfl, ?_⟩
      refine ⟨p, u, v, b, a, cs, rfl, hf1, hl, hu.same t, hv.same t, kb, ka, fun H2 s2 => ?_⟩
      have := q H2 (s1.trans s2)
      unfold sameB at this
      rw [e] at this
      exact this
def spOfB (C : Addr) : Sp := fun vs H Q _ => ∃ (p : Addr) (v : V) (a : Option Kd) (n : Str) (cs : List Cl), vs = [.ref p, v, .str n] ∧ FamAt C H p cs ∧ cs.length ≤ 12 ∧ Dv H v (optK a) ∧ KdOk a ∧ n.length ≤ 1000 ∧ ∀ H', Same H H' → Q (.bl (ofB cs a n)) H'
theorem ok_ofB {f fL fB fK fF fS : Addr} {fd dL dB dK dF dS : FuncData} (F : Fun K "may_be_of" "Family.may_be_of" s_Family_may_be_of f fd) (X : Fits K C fL fB fK fF fS dL dB dK dF dS) (T0 : FmC K mg C) : FnOk P w K mg base CX0 4 f fd ["self", "kind", "name"] (spOfB C) := by
  have GK : FnOk P w K mg base CX0 3 fK dK ["self", "kind", "other"] (spKb C) := ok_kb X.k.F X.b X.l T0
  obtain ⟨_, mn⟩ := T0.nil
  refine F.ok sc_Family_may_be_of (fun vs H Q E h => ?_) (fun cdv A outer s H vs Q E hr h => ?_)
  · obtain ⟨p, v, a, n, cs, rfl, _⟩ := h
    rfl
  · obtain ⟨p, v, a, n, cs, rfl, hf, hl, hv, ka, hz, q⟩ := h
    refine ⟨_, pss_cons (ps_set (i := 3) sc_Family_may_be_of.nd rfl (Or.inl rfl) (pe_tup (pa_cons pe_str (pa_cons (pv 2) pa_nil))))
      (pss_one (ps_ret (pe_or (pe_cmpR (op_eqD hr.units) (pv 1) (pe_glob (v := .str "nil") (by rfl) mn ⟨_, rfl⟩) (nomark _)) (pe_or (pe_meth (pv 0) T0.cl X.k.m GK hr X.k.b .nil pass0 (pa_cons (pv 1) (pa_cons (pv 3) pa_nil)))
        (pe_one (pe_meth (pv 0) T0.cl X.k.m GK hr X.k.b .nil pass0 (pa_cons (pv 3) (pa_cons (pv 1) pa_nil)))))))), ?_⟩
    refine ⟨_, rfl, (by show 2 ≤ sizeLine; decide), fun t nt => ?_⟩
    have s1 : Same H (upd H t (.tup [.str "of", .str n])) := fun b o e => by rw [upd_ne (ne_of_none e nt)]; exact e
    have ht : (upd H t (.tup [.str "of", .str n])) t = some (.tup [.str "of", .str n]) := upd_same
    generalize upd H t (.tup [.str "of", .str n]) = H1 at s1 ht
    have hv1 := hv.same (TupSame.of s1)
    have hf1 := hf.still (Still.of s1)
    have ha : Dv H1 (.ref t) (optK (some (.of n))) := .tup ht (by show 2 ≤ 1000; decide) (.cons (.str _ (by decide +kernel)) (.cons (.str n hz) .nil))
    have e2 : PyData.eqv (optK a) (.str "nil") = decide (a = some .nil) := ko_eqv a (some .nil)
    refine ⟨_, rfl, optK a, .str "nil", hv1.dp K, .str _, ka.sh, by decide +kernel, ?_⟩
    rw [e2]
    refine ⟨_, rfl, ?_⟩
    by_cases hn : a = some .nil
    · rw [decide_eq_true hn]
      refine iteT ?_
      have := q H1 s1
      unfold ofB at this
      rw [decide_eq_true hn] at this
      exact this
    · rw [decide_eq_false hn]
      refine iteF ?_
      obtain ⟨dx1, d1, kvs1, g1, _, _⟩ := id hf1
      refine ⟨_, rfl, p, dx1, _, rfl, g1, rfl, _, rfl, _, rfl, ?_⟩
      refine ⟨p, v, .ref t, a, some (.of n), cs, rfl, hf1, hl, hv1, ha, fun H2 s2 => ⟨_, rfl, ?_⟩⟩
      by_cases e : kbelow cs a (some (.of n)) = true
      · rw [e]
        refine iteT ?_
        have := q H2 (s1.trans s2)
        unfold ofB at this
        rw [decide_eq_false hn, e] at this
        exact this
      · have e : kbelow cs a (some (.of n)) = false := by simpa using e
        rw [e]
        refine iteF ?_
        have t2 := TupSame.of s2
        have hf2 := hf1.still (Still.of s2)
        obtain ⟨dx2, d2, kvs2, g2, _, _⟩ := id hf2
        refine ⟨_, rfl, p, dx2, _, rfl, g2, rfl, _, rfl, _, rfl, ?_⟩
        refine ⟨p, .ref t, v, some (.of n), a, cs, rfl, hf2, hl, ha.same t2, hv1.same t2, fun H3 s3 => ?_⟩
        have := q H3 ((s1.trans s2).trans s3)
        unfold ofB at this
        rw [decide_eq_false hn, e] at this
        exact this
end
end FM

/-! NotLetBy made and raised. -/
namespace KR
open PySem PySem.Spec PyProof.Rows L2 KE0 T
def okDat : Hp → List V → Prop := fun H vs => ∃ (a : Addr) (n : Nat), vs = [.ref a] ∧ Dat H (n + 1) (.ref a) ∧ n ≤ 2
def f1 (x : Str) : List V → List (Str × V) := fun vs => match vs with | [v] => [(x, v)] | _ => []
section
variable {P : Program} {w : World} {K : PySem.W.Frag} {mg : Str → Option Value} {C f cda cc : Addr}
theorem init_let (T : KC.ErrC P K mg C f cda cc "NotLetBy.__init__" (defArgs s_NotLetBy_init) (defBody s_NotLetBy_init) (defScope s_NotLetBy_init)) (no : PySem.W.findIn K (.ref C) "what" = some none) : InitOk P w K mg C f okDat (f1 "what") := by
  intro A R s x t0 vs us H X hlim hg hb hx hnx hroom hun hok rv ⟨a, n, ev, hd, hn⟩ hq
  subst ev
  cases rv with
  | cons r rr =>
    cases rr
    cases (show _ = Value.ref a from r)
    refine KC.init_one (fld := "what") (prm := "what") T X hlim hg hb hx hnx hroom no (fun _ _ _ _ => .of_eq rfl) rfl rfl (by decide +kernel) rfl rfl rfl rfl rfl (by decide +kernel) rfl rfl (by decide) (fun L h1 tk E' k1 ⟨m, ns, hm⟩ Q hQ => ?_)
      (fun h' tk dx t1 M => hq h' tk dx t1 _ M (relO_put (fs := []) (y := .ref a) rfl fun _ => True.intro)) (fun _ => rfl) (fun _ => rfl) (fun _ => rfl) (fun _ => rfl) (fun _ => rfl)
    exact fstr2 (field_tup hok hd hn) k1 (by show A.units + 3 + 12 < cLine; omega) rfl rfl ns hm (by decide) (by decide) fun z u tk => hQ z u tk
end
section
variable {X : Cx}
/-- C(e, ..) behind raise, C an own error with its own __init__ -/
theorem pmk_err {x : Str} {C f cda cc : Addr} {qual : Str} {params : Arguments} {body : List Stmt} {scope : Scope} {ok : Hp → List V → Prop} {fs : List V → List (Str × V)} {e : Expr} {es : List Expr} {ta : TA} {p pos : Pos} {k : Nat}
    (T : KC.ErrC X.prog X.K X.mg C f cda cc qual params body scope) (IK : InitOk X.prog X.w X.K X.mg C f ok fs) (exC : PySem.W.subIn X.K (.ref C) (.type "BaseException") = some true) (tyC : PySem.W.typeIn X.K (.ref C) = some (.type "type"))
    (hr : Room (k + 1) X.A) (hg : Gl X x) (hm : X.mg x = some (.ref C)) (ha : PA X (e :: es) ta)
    (hdb : (x == ("__debug__" : Str)) = false := by decide) (he : starEach (e :: es) X.env = (false, eval e X.env) :: starEach es X.env := by rfl) (hpl : (backTo pos (starEach es X.env)).any (·.1) = false := by rfl) :
    PMk X (.Call (.Name x p) (e :: es) [] pos) (fun σ H Q => ta σ H fun vs H1 => vs.length ≤ 1000 ∧ ok H1 vs ∧ ∀ d, H1 d = none → Q (.ref C) (some d) (upd H1 d (.xd (fs vs)))) := by
  intro pins s σ H Q I h
  obtain ⟨nm, q, N, bs, bm, sn, sub, ab, col, dd, k0, k1, k2, k3, k5, hC, hbm⟩ := T.cls
  refine wpAny_Call_Name_kw (ld_glob I hg hm ?_ hdb)
  refine PySem.W.callWith_K (h₀ := X.base) I.ok.mod.kin T.kC (thn (ha.run pos pins s σ H _ I h) fun us s1 ⟨vs, H1, I1, r1, hz, hok, q1⟩ => ⟨I1.kIn, ?_⟩) he hpl
  show wpAny _ _ (call (.ref C) us) _ _ _
  have hlim := I1.nolimit
  have hglob := I1.mod.glob.keeps I1.bk
  obtain ⟨mb, hb1, hb2⟩ := I1.mod.blt
  have hb1' := hb1.keeps I1.bk
  obtain ⟨hp, g, dr, tk, os⟩ := s1
  have hsz : hp.objs.size ≤ hp.objs.size + 1 := Nat.le_succ _
  have hn : H1 (hp.objs.size + 1) = none := I1.hok.fresh hsz
  have kk : ∀ b o, hp.get? b = some o → ((hp.push (PySem.W.kdv_tup us)).push (PySem.HandSPX.excO C hp.objs.size)).get? b = some o := fun b o e => Heap.get?_push_of_some _ (Heap.get?_push_of_some _ e)
  have hget : ((hp.push (PySem.W.kdv_tup us)).push (PySem.HandSPX.excO C hp.objs.size)).get? (hp.objs.size + 1) = some (PySem.HandSPX.excO C hp.objs.size) := by heap_get
  have hus : us.length ≤ sizeLine := by
    rw [← Paired.length r1, sizeLine_eq]
    omega
  have hnx : X.K.lookup (hp.objs.size + 1) = none := by
    cases e : X.K.lookup (hp.objs.size + 1) with
    | none => rfl
    | some o =>
      have z : hp.get? (hp.objs.size + 1) = some o := I1.kIn _ _ e
      exact absurd (Nat.lt_of_succ_lt (Heap.lt_size z)) (Nat.lt_irrefl _)
  refine wpAny_call (PySem.HandSPX.call_own F.excBase_ValueError (fun Y => PySem.HandSPX.refsVE_contains Y bm hbm) (I1.kIn _ _ hC) (PySem.W.looks_findIn I1.kIn T.ic) (fun self => PySem.W.bind_fn I1.kIn self T.tf) hus ?_)
  refine IK _ _ ⟨(hp.push (PySem.W.kdv_tup us)).push (PySem.HandSPX.excO C hp.objs.size), g, dr, tk, os⟩ (hp.objs.size + 1) hp.objs.size vs us H1 (I1.kIn.keeps kk) (hlim.keeps kk) (hglob.keeps kk) ⟨mb, hb1'.keeps kk, hb2⟩ hget hnx ?_ ?_ (I1.hok.kept kk) r1 hok fun h' tk' dx t1 mA M hrel => ?_
  · have z := (hr.make C us []).dp
    omega
  · have z := (hr.make C us []).un
    omega
  have hda : dx ≠ hp.objs.size + 1 := M.ne
  have hdn : hp.objs.size ≤ dx := by
    have := M.big
    have e2 : ((hp.push (PySem.W.kdv_tup us)).push (PySem.HandSPX.excO C hp.objs.size)).objs.size = hp.objs.size + 1 + 1 := by rw [Heap.size_push, Heap.size_push]
    have e3 : ((hp.push (PySem.W.kdv_tup us)).push (PySem.HandSPX.excO C hp.objs.size)).objs.size ≤ dx := this
    omega
  obtain ⟨G, g1, g2⟩ := restrict h' fun b => decide (b ≠ hp.objs.size + 1)
  have gk : ∀ b, b ≠ hp.objs.size + 1 → G.get? b = h'.get? b := fun b hb => g1 b (decide_eq_true hb)
  have ge : G.get? (hp.objs.size + 1) = none := g2 _ (by simp)
  have nha : ∀ {b : Addr} {o : Obj}, hp.get? b = some o → b ≠ hp.objs.size + 1 := fun {b o} z => Nat.ne_of_lt (Nat.lt_of_lt_of_le (Heap.lt_size z) hsz)
  have old : ∀ b o, hp.get? b = some o → G.get? b = some o := fun b o z => (gk b (nha z)).trans (M.keep b o (nha z) (kk b o z))
  have nsG : G.Ns1 dx mA := M.ns.at fun o q => (gk dx hda).trans q
  have J : Inv X pins σ (upd H1 dx (.xd (fs vs))) ⟨G, g, dr, tk', os⟩ := I1.laid (t' := tk') old hdn (show ObjOk X.prog X.w _ G dx (.xd (fs vs)) from ⟨mA, nsG, hrel⟩)
  refine ⟨rfl, hp.objs.size + 1, _, _, ⟨G, g, dr, tk', os⟩, _, .ref C, some dx, rfl, J, fun b o z => ?_, ge, M.obj, ⟨rfl, rfl⟩, rfl, rfl, ?_, rfl, I1.bare, raises_own exC tyC, q1 dx (I1.hok.fresh hdn)⟩
  · have hb : b ≠ hp.objs.size + 1 := fun e => by
      have z' : G.get? b = some o := z
      rw [e, ge] at z'
      cases z'
    exact (gk b hb).symm.trans z
  · rw [upd_ne (Ne.symm hda)]
    exact hn
end
end KR

/-! What check tells, raised; look_for_main. -/
namespace WR
open PySem PySem.Spec PyProof.Rows L2 PV PF T ET PB FM KE0 KR
structure Wrong where
  word : Str
  owner : Option Str
  name : Option Str
  at_ : Option Nat
def optI : Option Nat → PyData
  | none => .none
  | some i => .int i
def Wrong.where_ (w : Wrong) : PyData := .tuple [optS w.owner, optS w.name, optI w.at_]
def Wrong.py (w : Wrong) : PyData := .tuple [.str w.word, w.where_]
/-- names as short as they are -/
def Wrong.fine (w : Wrong) : Prop := w.word.length ≤ 60 ∧ (∀ c ∈ w.word.cps.toList, c < 16 ^ 8) ∧ (∀ z, w.owner = some z ∨ w.name = some z → z.length ≤ 60 ∧ ∀ c ∈ z.cps.toList, c < 16 ^ 8) ∧ ∀ i, w.at_ = some i → i < 10 ^ 60
theorem optS_dat {H : Hp} {v : V} {o : Option Str} {n : Nat} (h : Dv H v (optS o)) (hs : ∀ z, o = some z → z.length ≤ 60 ∧ ∀ c ∈ z.cps.toList, c < 16 ^ 8) : Dat H n v := by
  cases o with
  | none => cases h; exact .non
  | some z => obtain ⟨rfl, _⟩ := Dv.strE h; exact .str z (hs z rfl).1 (hs z rfl).2
theorem optI_dat {H : Hp} {v : V} {o : Option Nat} {n : Nat} (h : Dv H v (optI o)) (hs : ∀ i, o = some i → i < 10 ^ 60) : Dat H n v := by
  cases o with
  | none => cases h; exact .non
  | some i => cases h; exact .int _ (hs i rfl)
theorem where_dat {H : Hp} {v : V} {w : Wrong} (h : Dv H v w.where_) (hf : w.fine) : Dat H 1 v := by
  obtain ⟨h1, h2, h3, h4⟩ := hf
  obtain ⟨a, xs, rfl, ha, hl, r1⟩ := h.tupE
  obtain ⟨u0, us, rfl, g0, r2⟩ := r1.consE
  obtain ⟨u1, us, rfl, g1, r2⟩ := r2.consE
  obtain ⟨u2, us, rfl, g2, r2⟩ := r2.consE
  obtain rfl := r2.nilE
  refine .tup a _ ha (by show 3 ≤ 10; decide) fun x hx => ?_
  rcases (by simpa using hx : x = u0 ∨ x = u1 ∨ x = u2) with rfl | rfl | rfl
  · exact optS_dat g0 fun z e => h3 z (.inl e)
  · exact optS_dat g1 fun z e => h3 z (.inr e)
  · exact optI_dat g2 h4
/-- the error tells w -/
def Tells (CN : Addr) (H : Hp) (d : Option Addr) (w : Wrong) : Prop := ∃ dd v, d = some dd ∧ H dd = some (.xd [(("what" : Str), v)]) ∧ Dv H v w.py
/-- all right: none; else the error that tells it -/
def Out (CN : Addr) (H : Hp) (r : Option Wrong) (Q : VK) (E : XK) : Prop := match r with
  | none => ∀ H', Same H H' → Q .non H'
  | some w => ∀ d H', Same H H' → Tells CN H' d w → E (.ref CN) d H'
/-- the class NotLetBy -/
structure Nl (P : Program) (K : PySem.W.Frag) (mg : Str → Option Value) (CN : Addr) : Prop where
  ex : ∃ f cda cc, KC.ErrC P K mg CN f cda cc "NotLetBy.__init__" (defArgs s_NotLetBy_init) (defBody s_NotLetBy_init) (defScope s_NotLetBy_init)
  no : PySem.W.findIn K (.ref CN) "what" = some none
  exC : PySem.W.subIn K (.ref CN) (.type "BaseException") = some true
  tyC : PySem.W.typeIn K (.ref CN) = some (.type "type")
  gC : mg "NotLetBy" = some (.ref CN)
/-- what raising with v asks -/
def Ref (H1 : Hp) (v : V) (G : Option Addr → Hp → Prop) : Prop := [v].length ≤ 1000 ∧ okDat H1 [v] ∧ ∀ d, H1 d = none → G (some d) (upd H1 d (.xd (f1 "what" [v])))
/-- raise NotLetBy(e) -/
def tRefuse (CN : Addr) (W : WX) (ta : TA) : TS := fun _ σ H => ta σ H fun vs H1 => vs.length ≤ 1000 ∧ okDat H1 vs ∧ ∀ d, H1 d = none → W (.ref CN) (some d) σ (upd H1 d (.xd (f1 "what" vs)))
theorem what_dat {H : Hp} {v : V} {w : Wrong} (h : Dv H v w.py) (hf : w.fine) : okDat H [v] := by
  obtain ⟨a, xs, rfl, ha, hl, r1⟩ := h.tupE
  obtain ⟨u0, us, rfl, g0, r2⟩ := r1.consE
  obtain ⟨u1, us, rfl, g1, r2⟩ := r2.consE
  obtain rfl := r2.nilE
  obtain ⟨rfl, _⟩ := g0.strE
  refine ⟨a, 1, rfl, .tup a _ ha (by show 2 ≤ 10; decide) fun x hx => ?_, by decide⟩
  rcases (by simpa using hx : x = .str w.word ∨ x = u1) with rfl | rfl
  · exact .str _ hf.1 hf.2.1
  · exact where_dat g1 hf
theorem ref_ok {CN : Addr} {H1 : Hp} {v : V} {w : Wrong} {G : Option Addr → Hp → Prop} (h : Dv H1 v w.py) (hf : w.fine) (q : ∀ d H', Same H1 H' → Tells CN H' d w → G d H') : Ref H1 v G := by
  refine ⟨by show 1 ≤ 1000; decide, what_dat h hf, fun d hd => ?_⟩
  have s : Same H1 (upd H1 d (.xd (f1 "what" [v]))) := fun b o e => by rw [upd_ne (ne_of_none e hd)]; exact e
  exact q (some d) _ s ⟨d, v, rfl, upd_same, h.same (TupSame.of s)⟩
theorem ps_refuse {X : Cx} {CN : Addr} {W : WX} {e : Expr} {ta : TA} {p pos pos2 : Pos} {k : Nat} (hc : X.calm = true) (N : Nl X.prog X.K X.mg CN) (hr : Room (k + 1) X.A) (tk : Takes X W) (ha : PA X [e] ta) (hg : Gl X "NotLetBy" := by rfl)
    (hs : starEach (e :: []) X.env = (false, eval e X.env) :: starEach [] X.env := by rfl) (hpl : (backTo pos (starEach [] X.env)).any (·.1) = false := by rfl) :
    PS X (.Raise (some (.Call (.Name "NotLetBy" p) [e] [] pos)) none pos2) (tRefuse CN W ta) := by
  obtain ⟨f, cda, cc, T⟩ := N.ex
  exact ps_raise hc tk (pmk_err (k := k) T (init_let T N.no) N.exC N.tyC hr hg N.gC ha (by decide) hs hpl)
def isMain (f : Fn) : Bool := decide (f.name = "main") && (f.params.isEmpty && f.result.isNone)
def mainW (fs : List Fn) : Option Wrong := if fs.any isMain then none else some ⟨"main", none, none, none⟩
theorem main_fine : (⟨"main", none, none, none⟩ : Wrong).fine := ⟨by decide +kernel, by decide +kernel, (fun z h => h.elim (fun e => nomatch e) (fun e => nomatch e)), (fun i h => nomatch h)⟩
/-- params that may be compared -/
def parSo (ps : List (Str × Kd)) : Bool := ps.all fun p => PyData.strOk p.1 && (so p.2 && decide (rows p.2 ≤ 50))
theorem par_shaped {ps : List (Str × Kd)} (h : parSo ps = true) : SeqAt.shaped (.tuple (ps.map pair)) = true := by
  have gen : ∀ l : List (Str × Kd), parSo l = true → PyData.canLayAll0 (l.map pair) = true ∧ PyData.depthAll (l.map pair) ≤ 54 := by
    intro l
    induction l with
    | nil => intro _; exact ⟨rfl, Nat.zero_le _⟩
    | cons p r ih =>
      intro h
      unfold parSo at h
      rw [List.all_cons, Bool.and_eq_true, Bool.and_eq_true, Bool.and_eq_true] at h
      obtain ⟨⟨h1, h2, h3⟩, h4⟩ := h
      obtain ⟨i1, i2⟩ := ih h4
      obtain ⟨k1, k2⟩ := kd_lay p.2 h2
      have h3 : rows p.2 ≤ 50 := of_decide_eq_true h3
      constructor
      · show (((PyData.str p.1).canLay0 && (p.2.py.canLay0 && true)) && PyData.canLayAll0 (r.map pair)) = true
        rw [k1, i1, show (PyData.str p.1).canLay0 = true by simpa [PyData.canLay0] using h1]
        rfl
      · have e : PyData.depthAll ((p :: r).map pair) = max (max 0 (max p.2.py.depth 0) + 1) (PyData.depthAll (r.map pair)) := rfl
        rw [e]
        omega
  obtain ⟨g1, g2⟩ := gen ps h
  unfold SeqAt.shaped
  show (PyData.canLayAll0 (ps.map pair) && decide (PyData.depthAll (ps.map pair) + 1 ≤ 64)) = true
  rw [g1, decide_eq_true (by omega)]
  rfl
theorem par_eqv (ps : List (Str × Kd)) : PyData.eqv (.tuple (ps.map pair)) (.tuple []) = ps.isEmpty := by
  cases ps with
  | nil => rfl
  | cons p r => rfl
section
variable {P : Program} {w : World} {K : PySem.W.Frag} {mg : Str → Option Value} {base : Heap} {CN : Addr}
def spMain (CN : Addr) : Sp := fun vs H Q E => ∃ (v : V) (fs : List Fn), vs = [v] ∧ Dv H v (.tuple (fs.map Fn.py)) ∧ (∀ f ∈ fs, parSo f.params = true) ∧ Out CN H (mainW fs) Q E
theorem ok_main {f : Addr} {fd : FuncData} (F : Fun K "look_for_main" "look_for_main" s_look_for_main f fd) (N : Nl P K mg CN) : FnOk P w K mg base (L2.CX P w) 3 f fd ["functions"] (spMain CN) := by
  refine F.okX sc_look_for_main (fun vs H Q E h => ?_) (fun cdv A outer s H vs Q E hr h => ?_)
  · obtain ⟨v, fs, rfl, _⟩ := h
    rfl
  · obtain ⟨v, fs, rfl, hv, hso, q⟩ := h
    refine ⟨_, pss_cons (ps_for (passes_of rfl) rfl (pi_tup (pv 0)) (pg_tup rfl (pgs_cons (pg_name (i := 1) sc_look_for_main.nd rfl (Or.inl rfl)) (pgs_cons (pg_name (i := 2) sc_look_for_main.nd rfl (Or.inl rfl)) (pgs_cons (pg_name (i := 3) sc_look_for_main.nd rfl (Or.inl rfl)) (pgs_cons (pg_name (i := 4) sc_look_for_main.nd rfl (Or.inl rfl)) pgs_nil)))))
        (pss_one (ps_if (PW.pt (pw_and (pt_cmpR op_eq (pv 1) pe_str (nomark _)) (pw_and (pt_cmpR (op_eqD hr.units) (pv 2) (pe_tup pa_nil) (nomark _)) (pw_and1 (pt_cmpR op_isN (pv 3) pe_non (nomark _)))))) (pss_one ps_retN) pss_nil)))
      (pss_one (ps_refuse (k := 1) rfl N hr (takes_of rfl rfl rfl rfl) (by exact (pa_cons (pe_tup (pa_cons pe_str (pa_cons (pe_tup (pa_cons pe_non (pa_cons pe_non (pa_cons pe_non pa_nil)))) pa_nil))) pa_nil)))), ?_⟩
    obtain ⟨a, xs, rfl, ha, hx, r1⟩ := hv.tupE
    have hxl : xs.length = fs.length := by rw [r1.len, List.length_map]
    refine ⟨_, rfl, a, rfl, ⟨xs, SqT.of ha⟩, ?_⟩
    refine for_tup (xs := xs) (fun i σ H' => (∃ s1 s2 s3 s4, σ = [some (.ref a), s1, s2, s3, s4]) ∧ Same H H' ∧ (fs.take i).any isMain = false) ⟨⟨_, _, _, _, rfl⟩, fun _ _ e => e, rfl⟩ (fun i σ H' _ h2 => SqT.of (h2.2.1 _ _ ha)) ?_ ?_
    · rintro i x σ H1 hxi ⟨⟨s1, s2, s3, s4, rfl⟩, k1, hn⟩
      have hi : i < fs.length := by
        have := (List.getElem?_eq_some_iff.mp hxi).1
        omega
      obtain ⟨v2, hv2, dv⟩ := r1.get (i := i) (d := fs[i].py) (by rw [List.getElem?_map, List.getElem?_eq_getElem hi]; rfl)
      obtain rfl : x = v2 := by
        rw [hxi] at hv2
        exact Option.some.inj hv2
      have dv1 := dv.same (TupSame.of k1)
      obtain ⟨b0, ws, rfl, hb0, _, q1⟩ := dv1.tupE
      obtain ⟨u0, us, rfl, g0, q2⟩ := q1.consE
      obtain ⟨u1, us, rfl, g1, q2⟩ := q2.consE
      obtain ⟨u2, us, rfl, g2, q2⟩ := q2.consE
      obtain ⟨u3, us, rfl, g3, q2⟩ := q2.consE
      obtain rfl := q2.nilE
      obtain ⟨rfl, _⟩ := g0.strE
      have next : isMain fs[i] = false → (fs.take (i + 1)).any isMain = false := fun e => by
        rw [List.take_add_one, List.getElem?_eq_getElem hi, List.any_append, hn]
        simp [e]
      refine ⟨b0, _, rfl, SqT.of hb0, rfl, _, _, rfl, _, _, rfl, _, _, rfl, _, _, rfl, rfl, ?_⟩
      refine ⟨_, rfl, rfl, _, rfl, ?_⟩
      by_cases e1 : fs[i].name = "main"
      · rw [decide_eq_true (by rw [e1])]
        refine iteT ?_
        refine ⟨_, rfl, Nat.zero_le _, fun t nt => ?_⟩
        have k2 : Same H1 (upd H1 t (.tup [])) := fun b o e => by rw [upd_ne (ne_of_none e nt)]; exact e
        refine ⟨.tuple (fs[i].params.map pair), .tuple [], (g1.same (TupSame.of k2)).dp K, .tup (SqT.of upd_same) .nil, par_shaped (hso _ (List.getElem_mem hi)), by decide +kernel, ?_⟩
        rw [par_eqv]
        refine ⟨_, rfl, ?_⟩
        by_cases e2 : fs[i].params.isEmpty = true
        · rw [e2]
          refine iteT ?_
          refine ⟨_, rfl, rfl, _, rfl, ?_⟩
          cases e3 : fs[i].result with
          | none =>
            rw [e3] at g2
            cases g2
            refine iteT ?_
            have em : fs.any isMain = true := List.any_eq_true.mpr ⟨fs[i], List.getElem_mem hi, by unfold isMain; rw [e1, e2, e3]; decide +kernel⟩
            have := q
            unfold Out mainW at this
            rw [if_pos em] at this
            exact this _ (k1.trans k2)
          | some k =>
            rw [e3] at g2
            have hne : u2 ≠ .non := fun z => by
              rw [z] at g2
              cases k <;> cases g2
            rw [decide_eq_false hne]
            exact iteF ⟨⟨_, _, _, _, rfl⟩, k1.trans k2, next (by unfold isMain; rw [e3]; simp)⟩
        · have e2 : fs[i].params.isEmpty = false := by simpa using e2
          rw [e2]
          exact iteF ⟨⟨_, _, _, _, rfl⟩, k1.trans k2, next (by unfold isMain; rw [e2]; simp)⟩
      · rw [decide_eq_false (fun z => e1 (by injection z))]
        exact iteF ⟨⟨_, _, _, _, rfl⟩, k1, next (by unfold isMain; simp [e1])⟩
    · rintro σ H1 ⟨_, k1, hn⟩
      rw [hxl, List.take_length] at hn
      have := q
      unfold Out mainW at this
      rw [if_neg (by rw [hn]; decide)] at this
      refine ⟨by show 3 ≤ sizeLine; decide, fun t1 n1 => ⟨by show 2 ≤ sizeLine; decide, fun t2 n2 => ?_⟩⟩
      have s1 : Same H1 (upd H1 t1 (.tup [.non, .non, .non])) := fun b o e => by rw [upd_ne (ne_of_none e n1)]; exact e
      have h1 : (upd H1 t1 (.tup [.non, .non, .non])) t1 = some (.tup [.non, .non, .non]) := upd_same
      generalize upd H1 t1 (.tup [.non, .non, .non]) = H2 at s1 h1 n2
      have s2 : Same H2 (upd H2 t2 (.tup [.str "main", .ref t1])) := fun b o e => by rw [upd_ne (ne_of_none e n2)]; exact e
      have d1 : Dv (upd H2 t2 (.tup [.str "main", .ref t1])) (.ref t2) (⟨"main", none, none, none⟩ : Wrong).py :=
        .tup upd_same (by show 2 ≤ 1000; decide) (.cons (.str _ (by decide +kernel)) (.cons (.tup (s2 _ _ h1) (by show 3 ≤ 1000; decide) (.cons .non (.cons .non (.cons .non .nil)))) .nil))
      have z := ref_ok (CN := CN) (G := fun d H' => E (.ref CN) d H') d1 main_fine fun d H' s t => this d H' (((k1.trans s1).trans s2).trans s) t
      exact z
end
end WR

/-! look_at_head. -/
namespace WR
open PySem PySem.Spec PyProof.Rows L2 PV PF T ET PB FM KE0 KR
theorem name_fine {z : Str} (h : nameB z = true) : z.length ≤ 60 ∧ ∀ c ∈ z.cps.toList, c < 16 ^ 8 := by
  unfold nameB at h
  simp only [Bool.and_eq_true, decide_eq_true_eq] at h
  obtain ⟨h1, h2, h3, h4, h5⟩ := h
  refine ⟨by omega, fun c hc => ?_⟩
  have := (List.all_eq_true.mp h5) c hc
  have l1 : ∀ c ∈ letters.cps.toList, c < 16 ^ 8 := by decide +kernel
  have l2 : ∀ c ∈ digits.cps.toList, c < 16 ^ 8 := by decide +kernel
  unfold signOk at this
  simp only [Bool.or_eq_true, decide_eq_true_eq] at this
  rcases this with h | h
  · exact l1 c h
  · exact l2 c h
def parW (cs : List Cl) (told : List Str) : List (Str × Kd) → Option Str
  | [] => none
  | p :: r => if p.1 ∈ told then some "double" else if knows cs p.2 = true then parW cs (told ++ [p.1]) r else some "class"
def headWord (cs : List Cl) (ahead : List Str) (f : Fn) : Option Str := if f.name ∈ ahead then some "double" else match parW cs [] f.params with
  | some w => some w
  | none => if knowsO cs f.result = true then none else some "class"
def headW (cs : List Cl) (owner : Option Str) (ahead : List Str) (f : Fn) : Option Wrong := (headWord cs ahead f).map fun w => ⟨w, owner, some f.name, none⟩
theorem parW_step {cs : List Cl} {ps : List (Str × Kd)} {i : Nat} (h : i < ps.length) (hn : parW cs [] (ps.take i) = none) : parW cs [] ps = parW cs ((ps.take i).map (·.1)) (ps.drop i) := by
  have gen : ∀ (l : List (Str × Kd)) (t : List Str) (i : Nat), parW cs t (l.take i) = none → parW cs t l = parW cs (t ++ (l.take i).map (·.1)) (l.drop i) := by
    intro l
    induction l with
    | nil => intro t i _; simp [parW]
    | cons p r ih =>
      intro t i hh
      cases i with
      | zero => simp
      | succ i =>
        have eq : ∀ (t : List Str) (p : Str × Kd) (r : List (Str × Kd)), parW cs t (p :: r) = (if p.1 ∈ t then some ("double" : Str) else if knows cs p.2 = true then parW cs (t ++ [p.1]) r else some ("class" : Str)) := fun _ _ _ => rfl
        rw [List.take_succ_cons, eq] at hh
        rw [eq t p r]
        by_cases e1 : p.1 ∈ t
        · rw [if_pos e1] at hh; cases hh
        · rw [if_neg e1] at hh ⊢
          by_cases e2 : knows cs p.2 = true
          · rw [if_pos e2] at hh ⊢
            rw [ih _ i hh, List.take_succ_cons, List.map_cons, List.drop_succ_cons, List.append_assoc, List.singleton_append]
          · rw [if_neg e2] at hh; cases hh
  exact gen ps [] i hn
section
variable {P : Program} {w : World} {K : PySem.W.Frag} {mg : Str → Option Value} {base : Heap} {CN C : Addr}
theorem inStr (z : Str) (l : List Str) (Q : VK) (H : Hp) (q : Q (.bl (decide (z ∈ l))) H) : Q (.bl (inV (.str z) (l.map V.str))) H := by
  rw [inW]
  exact q
/-- an error that tells what is wrong with a head -/
def spHead (CN C : Addr) : Sp := fun vs H Q E => ∃ (pf la : Addr) (ov v : V) (owner : Option Str) (ahead : List Str) (f : Fn) (cs : List Cl), vs = [.ref pf, ov, .ref la, v] ∧ FamAt C H pf cs ∧ Dv H ov (optS owner) ∧ H la = some (.lst (ahead.map V.str)) ∧ Dv H v f.py ∧
  (∀ z, owner = some z → nameB z = true) ∧ nameB f.name = true ∧ f.params.length ≤ 6 ∧ (∀ p ∈ f.params, rows p.2 < 5) ∧ rowsO f.result < 5 ∧ Out CN H (headW cs owner ahead f) Q E
theorem head_fine {owner : Option Str} {f : Fn} (ho : ∀ z, owner = some z → nameB z = true) (hn : nameB f.name = true) {wd : Str} (hw : wd = "double" ∨ wd = "class" ∨ wd = "override") : (⟨wd, owner, some f.name, none⟩ : Wrong).fine := by
  refine ⟨?_, ?_, fun z h => ?_, fun i h => by cases h⟩
  · show wd.length ≤ 60
    rcases hw with rfl | rfl | rfl <;> decide +kernel
  · show ∀ c ∈ wd.cps.toList, c < 16 ^ 8
    rcases hw with rfl | rfl | rfl <;> decide +kernel
  · rcases h with h | h
    · exact name_fine (ho z h)
    · exact name_fine (by cases h; exact hn)
theorem ok_head {f fK fH : Addr} {fd dK dH : FuncData} (F : Fun K "look_at_head" "look_at_head" s_look_at_head f fd) (N : Nl P K mg CN) (MK : Md K C "knows" "Family.knows" s_Family_knows ["self", "kind"] fK dK) (MH : Md K C "has" "Family.has" s_Family_has ["self", "name"] fH dH) (T0 : FmC K mg C) :
    FnOk P w K mg base (L2.CX P w) 9 f fd ["family", "owner", "ahead", "function"] (spHead CN C) := by
  have GK : FnOk P w K mg base CX0 7 fK dK ["self", "kind"] (spKnows C 5) := ok_knows MK MH T0 5
  refine F.okX sc_look_at_head (fun vs H Q E h => ?_) (fun cdv A outer s H vs Q E hr h => ?_)
  · obtain ⟨pf, la, ov, v, owner, ahead, f, cs, rfl, _⟩ := h
    rfl
  · obtain ⟨pf, la, ov, v, owner, ahead, f, cs, rfl, hf, hov, hla, hv, hon, hnm, hpl, hrows, hres, q⟩ := h
    have hr2 := hr.mono (show 2 ≤ 8 by decide)
    refine ⟨_, pss_cons (ps_asg (pv 3) (pg_tup rfl (pgs_cons (pg_name (i := 4) sc_look_at_head.nd rfl (Or.inl rfl)) (pgs_cons (pg_name (i := 5) sc_look_at_head.nd rfl (Or.inl rfl)) (pgs_cons (pg_name (i := 6) sc_look_at_head.nd rfl (Or.inl rfl)) (pgs_cons (pg_name (i := 7) sc_look_at_head.nd rfl (Or.inl rfl)) pgs_nil))))))
      (pss_cons (ps_set (i := 8) sc_look_at_head.nd rfl (Or.inl rfl) (pe_tup (pa_cons (pv 1) (pa_cons (pv 4) (pa_cons pe_non pa_nil)))))
      (pss_cons (ps_if (pt_cmpR op_in_seq (pv 4) (pv 2) (by rfl)) (pss_one (ps_refuse (k := 1) rfl N hr2 (takes_of rfl rfl rfl rfl) (by exact (pa_cons (pe_tup (pa_cons pe_str (pa_cons (pv 8) pa_nil))) pa_nil)))) pss_nil)
      (pss_cons (ps_set (i := 9) sc_look_at_head.nd rfl (Or.inl rfl) (pe_lst pa_nil))
      (pss_cons (ps_for (passes_of rfl) rfl (pi_tup (pv 5)) (pg_tup rfl (pgs_cons (pg_name (i := 10) sc_look_at_head.nd rfl (Or.inl rfl)) (pgs_cons (pg_name (i := 11) sc_look_at_head.nd rfl (Or.inl rfl)) pgs_nil)))
        (pss_cons (ps_if (pt_cmpR op_in_seq (pv 10) (pv 9) (by rfl)) (pss_one (ps_refuse (k := 1) rfl N hr2 (takes_of rfl rfl rfl rfl) (by exact (pa_cons (pe_tup (pa_cons pe_str (pa_cons (pv 8) pa_nil))) pa_nil)))) pss_nil)
        (pss_cons (ps_if (pt_not (pt_val (pe_meth (pv 0) T0.cl MK.m GK (hr.mono (by decide)) MK.b .nil pass0 (pa_cons (pv 11) pa_nil)))) (pss_one (ps_refuse (k := 1) rfl N hr2 (takes_of rfl rfl rfl rfl) (by exact (pa_cons (pe_tup (pa_cons pe_str (pa_cons (pv 8) pa_nil))) pa_nil)))) pss_nil)
        (pss_one (ps_expr (pe_bm PySem.F.plainAttrs_list PySem.F.slot_list_append PySem.F.type_list_append mt_append (pv 9) (pa_cons (pv 10) pa_nil)))))))
      (pss_one (ps_if (pt_not (pt_val (pe_meth (pv 0) T0.cl MK.m GK (hr.mono (by decide)) MK.b .nil pass0 (pa_cons (pv 6) pa_nil)))) (pss_one (ps_refuse (k := 1) rfl N hr2 (takes_of rfl rfl rfl rfl) (by exact (pa_cons (pe_tup (pa_cons pe_str (pa_cons (pv 8) pa_nil))) pa_nil)))) pss_nil)))))), ?_⟩
    obtain ⟨b0, ws, rfl, hb0, _, q1⟩ := hv.tupE
    obtain ⟨u0, us, rfl, g0, q2⟩ := q1.consE
    obtain ⟨u1, us, rfl, g1, q2⟩ := q2.consE
    obtain ⟨u2, us, rfl, g2, q2⟩ := q2.consE
    obtain ⟨u3, us, rfl, g3, q2⟩ := q2.consE
    obtain rfl := q2.nilE
    obtain ⟨rfl, hnl⟩ := g0.strE
    obtain ⟨a1, ys, rfl, ha1, _, r1⟩ := g1.tupE
    have hyl : ys.length = f.params.length := by rw [r1.len, List.length_map]
    refine ⟨_, rfl, b0, _, rfl, SqT.of hb0, rfl, _, _, rfl, _, _, rfl, _, _, rfl, _, _, rfl, rfl, ?_⟩
    refine ⟨_, rfl, _, rfl, by show 3 ≤ sizeLine; decide, fun tw nw => ?_⟩
    have s1 : Same H (upd H tw (.tup [ov, .str f.name, .non])) := fun b o e => by rw [upd_ne (ne_of_none e nw)]; exact e
    have htw : (upd H tw (.tup [ov, .str f.name, .non])) tw = some (.tup [ov, .str f.name, .non]) := upd_same
    generalize upd H tw (.tup [ov, .str f.name, .non]) = H1 at s1 htw
    -- to refuse with a word
    have refuse : ∀ (wd : Str) (H2 : Hp), Same H1 H2 → (wd = "double" ∨ wd = "class" ∨ wd = "override") → headWord cs ahead f = some wd → ∀ t, H2 t = none → Ref (upd H2 t (.tup [.str wd, .ref tw])) (.ref t) fun d H' => E (.ref CN) d H' := fun wd H2 s2 hw hh t nt => by
      have s3 : Same H2 (upd H2 t (.tup [.str wd, .ref tw])) := fun b o e => by rw [upd_ne (ne_of_none e nt)]; exact e
      have s13 := (s1.trans s2).trans s3
      have hq : ∀ d H', Same H H' → Tells CN H' d ⟨wd, owner, some f.name, none⟩ → E (.ref CN) d H' := by
        have := q
        unfold Out headW at this
        rw [hh] at this
        exact this
      have fi : (⟨wd, owner, some f.name, none⟩ : Wrong).fine := head_fine hon hnm hw
      refine ref_ok (CN := CN) (w := ⟨wd, owner, some f.name, none⟩) ?_ fi fun d H' s t => hq d H' (s13.trans s) t
      exact .tup upd_same (by show 2 ≤ 1000; decide) (.cons (.str _ (Nat.le_trans fi.1 (by decide))) (.cons (.tup (s3 _ _ (s2 _ _ htw)) (by show 3 ≤ 1000; decide) (.cons (hov.same (TupSame.of s13)) (.cons (.str _ hnl) (.cons .non .nil)))) .nil))
    refine ⟨_, rfl, _, rfl, la, _, rfl, .inl (SqL.of (s1 _ _ hla)), rfl, flatW _, _, rfl, ?_⟩
    refine ite2 (fun e4 => ?_) (fun e4 => ?_)
    · have e5 : inV (V.str f.name) (ahead.map V.str) = true := e4
      rw [inW] at e5
      have hin : f.name ∈ ahead := of_decide_eq_true e5
      exact ⟨_, rfl, by show 2 ≤ sizeLine; decide, fun t nt => refuse "double" H1 (fun _ _ e => e) (.inl rfl) (by unfold headWord; rw [if_pos hin]) t nt⟩
    have hnin : f.name ∉ ahead := fun hin => e4 (by show inV (V.str f.name) (ahead.map V.str) = true; rw [inW, decide_eq_true hin])
    refine ⟨Nat.zero_le _, fun lt nlt => ?_⟩
    have s2 : Same H1 (upd H1 lt (.lst [])) := fun b o e => by rw [upd_ne (ne_of_none e nlt)]; exact e
    have hlt : (upd H1 lt (.lst [])) lt = some (.lst []) := upd_same
    generalize upd H1 lt (.lst []) = H2 at s2 hlt
    have ha2 := s2 _ _ (s1 _ _ ha1)
    refine ⟨_, rfl, a1, rfl, ⟨ys, SqT.of ha2⟩, ?_⟩
    refine for_tup (xs := ys) (fun i σ H3 => (∃ s10 s11, σ = [some (.ref pf), some ov, some (.ref la), some (.ref b0), some (.str f.name), some (.ref a1), some u2, some u3, some (.ref tw), some (.ref lt), s10, s11]) ∧
      H3 lt = some (.lst (((f.params.take i).map (·.1)).map V.str)) ∧ Same H1 H3 ∧ parW cs [] (f.params.take i) = none) ⟨⟨_, _, rfl⟩, hlt, s2, rfl⟩ (fun i σ H3 _ h => SqT.of (h.2.2.1 _ _ (s1 _ _ ha1))) ?_ ?_
    · rintro i x σ H3 hxi ⟨⟨s10, s11, rfl⟩, hl3, s3, hp3⟩
      have hi : i < f.params.length := by
        have := (List.getElem?_eq_some_iff.mp hxi).1
        omega
      obtain ⟨v2, hv2, dv⟩ := r1.get (i := i) (d := pair f.params[i]) (by rw [List.getElem?_map, List.getElem?_eq_getElem hi]; rfl)
      obtain rfl : x = v2 := by
        rw [hxi] at hv2
        exact Option.some.inj hv2
      obtain ⟨c0, zs, rfl, hc0, _, r4⟩ := (dv.same (TupSame.of (s1.trans s3))).tupE
      obtain ⟨e0, us2, rfl, k0, r5⟩ := r4.consE
      obtain ⟨e1, us2, rfl, k1, r5⟩ := r5.consE
      obtain rfl := r5.nilE
      obtain ⟨rfl, _⟩ := k0.strE
      have hpar : parW cs [] f.params = (if f.params[i].1 ∈ (f.params.take i).map (·.1) then some ("double" : Str) else if knows cs f.params[i].2 = true then parW cs ((f.params.take i).map (·.1) ++ [f.params[i].1]) (f.params.drop (i + 1)) else some ("class" : Str)) := by
        rw [parW_step hi hp3, List.drop_eq_getElem_cons hi]
        rfl
      have hpar2 : parW cs [] (f.params.take (i + 1)) = (if f.params[i].1 ∈ (f.params.take i).map (·.1) then some ("double" : Str) else if knows cs f.params[i].2 = true then none else some ("class" : Str)) := by
        have hi2 : i < (f.params.take (i + 1)).length := by rw [List.length_take]; omega
        have e2 : (f.params.take (i + 1)).take i = f.params.take i := by rw [List.take_take]; congr 1; omega
        have e3 : (f.params.take (i + 1))[i] = f.params[i] := List.getElem_take
        have e4 : (f.params.take (i + 1)).drop (i + 1) = [] := List.drop_eq_nil_of_le (by rw [List.length_take]; omega)
        rw [parW_step hi2 (by rw [e2]; exact hp3), List.drop_eq_getElem_cons hi2, e2, e3, e4]
        rfl
      refine ⟨c0, _, rfl, SqT.of hc0, rfl, _, _, rfl, _, _, rfl, rfl, ?_⟩
      refine ⟨_, rfl, _, rfl, lt, _, rfl, .inl (SqL.of hl3), rfl, flatW _, _, rfl, ?_⟩
      refine ite2 (fun e4 => ?_) (fun e4 => ?_)
      · have e5 : inV (V.str f.params[i].1) (((f.params.take i).map (·.1)).map V.str) = true := e4
        rw [inW] at e5
        have hin := of_decide_eq_true e5
        exact ⟨_, rfl, by show 2 ≤ sizeLine; decide, fun t nt => refuse "double" H3 s3 (.inl rfl) (by unfold headWord; rw [if_neg hnin, hpar, if_pos hin]) t nt⟩
      have hin : f.params[i].1 ∉ (f.params.take i).map (·.1) := fun hin => e4 (by show inV (V.str f.params[i].1) (((f.params.take i).map (·.1)).map V.str) = true; rw [inW, decide_eq_true hin])
      have hf3 := hf.still (Still.of (s1.trans s3))
      obtain ⟨dx, d, kvs, h1, _, _⟩ := id hf3
      refine ⟨_, rfl, pf, dx, _, rfl, h1, rfl, _, rfl, ?_⟩
      refine ⟨pf, e1, some f.params[i].2, cs, rfl, hf3, k1, hrows _ (List.getElem_mem hi), _, rfl, ?_⟩
      by_cases hk : knows cs f.params[i].2 = true
      · have hk' : knowsO cs (some f.params[i].2) = true := hk
        rw [hk']
        refine iteF ?_
        refine ⟨_, rfl, .inl ⟨rfl, _, SqL.of hl3⟩, _, rfl, lt, _, _, rfl, rfl, hl3, ?_, ?_⟩
        · rw [List.length_map, List.length_map, List.length_take]
          exact Nat.lt_of_le_of_lt (by omega : _ ≤ 12) (by decide)
        · refine ⟨⟨_, _, rfl⟩, ?_, fun b o e => by rw [upd_ne (ne_of_none e nlt)]; exact s3 b o e, by rw [hpar2, if_neg hin, if_pos hk]⟩
          rw [upd_same, List.take_add_one, List.getElem?_eq_getElem hi, List.map_append, List.map_append]
          rfl
      · have hk' : knowsO cs (some f.params[i].2) = false := by
          show knows cs f.params[i].2 = false
          simpa using hk
        rw [hk']
        refine iteT ?_
        exact ⟨_, rfl, by show 2 ≤ sizeLine; decide, fun t nt => refuse "class" H3 s3 (.inr (.inl rfl)) (by unfold headWord; rw [if_neg hnin, hpar, if_neg hin, if_neg hk]) t nt⟩
    · rintro σ H3 ⟨⟨s10, s11, rfl⟩, hl3, s3, hp3⟩
      rw [hyl, List.take_length] at hp3
      have hf3 := hf.still (Still.of (s1.trans s3))
      obtain ⟨dx, d, kvs, h1, _, _⟩ := id hf3
      refine ⟨_, rfl, pf, dx, _, rfl, h1, rfl, _, rfl, ?_⟩
      refine ⟨pf, u2, f.result, cs, rfl, hf3, g2.same (TupSame.of (s1.trans s3)), hres, _, rfl, ?_⟩
      by_cases hk : knowsO cs f.result = true
      · rw [hk]
        refine iteF ?_
        have hw : headWord cs ahead f = none := by unfold headWord; rw [if_neg hnin, hp3]; simp [hk]
        have := q
        unfold Out headW at this
        rw [hw] at this
        exact this _ (s1.trans s3)
      · have hk' : knowsO cs f.result = false := by simpa using hk
        rw [hk']
        refine iteT ?_
        exact ⟨_, rfl, by show 2 ≤ sizeLine; decide, fun t nt => refuse "class" H3 s3 (.inr (.inl rfl)) (by unfold headWord; rw [if_neg hnin, hp3]; simp [hk']) t nt⟩
end
end WR

/-! look_at_functions. -/
namespace WR
open PySem PySem.Spec PyProof.Rows L2 PV PF T ET PB FM KE0 KR
def headsW (cs : List Cl) (owner : Option Str) : List Str → List Fn → Option Wrong
  | _, [] => none
  | ahead, f :: r => match headW cs owner ahead f with
    | some w => some w
    | none => headsW cs owner (ahead ++ [f.name]) r
theorem headsW_step {cs : List Cl} {owner : Option Str} {fs : List Fn} {i : Nat} (hn : headsW cs owner [] (fs.take i) = none) : headsW cs owner [] fs = headsW cs owner ((fs.take i).map Fn.name) (fs.drop i) := by
  have gen : ∀ (l : List Fn) (t : List Str) (i : Nat), headsW cs owner t (l.take i) = none → headsW cs owner t l = headsW cs owner (t ++ (l.take i).map Fn.name) (l.drop i) := by
    intro l
    induction l with
    | nil => intro t i _; simp [headsW]
    | cons f r ih =>
      intro t i hh
      cases i with
      | zero => simp
      | succ i =>
        have eq : ∀ (t : List Str) (r : List Fn), headsW cs owner t (f :: r) = (match headW cs owner t f with | some w => some w | none => headsW cs owner (t ++ [f.name]) r) := fun _ _ => rfl
        rw [List.take_succ_cons, eq] at hh
        rw [eq]
        cases e : headW cs owner t f with
        | some w => rw [e] at hh; cases hh
        | none =>
          rw [e] at hh
          show headsW cs owner (t ++ [f.name]) r = _
          rw [ih _ i hh, List.take_succ_cons, List.map_cons, List.drop_succ_cons, List.append_assoc, List.singleton_append]
  exact gen fs [] i hn
/-- a function whose head may be looked at -/
def hdOk (f : Fn) : Prop := nameB f.name = true ∧ f.params.length ≤ 6 ∧ (∀ p ∈ f.params, rows p.2 < 5) ∧ rowsO f.result < 5
section
variable {P : Program} {w : World} {K : PySem.W.Frag} {mg : Str → Option Value} {base : Heap} {CN C : Addr}
def spFuns (CN C : Addr) : Sp := fun vs H Q E => ∃ (pf : Addr) (v : V) (fs : List Fn) (cs : List Cl), vs = [v, .ref pf] ∧ FamAt C H pf cs ∧ Dv H v (.tuple (fs.map Fn.py)) ∧ (∀ f ∈ fs, hdOk f) ∧ fs.length ≤ 30 ∧ Out CN H (headsW cs none [] fs) Q E
theorem ok_funs {f fK fH fL : Addr} {fd dK dH dL : FuncData} (F : Fun K "look_at_functions" "look_at_functions" s_look_at_functions f fd) (L : Gd K mg "look_at_head" s_look_at_head ["family", "owner", "ahead", "function"] fL dL) (N : Nl P K mg CN) (MK : Md K C "knows" "Family.knows" s_Family_knows ["self", "kind"] fK dK) (MH : Md K C "has" "Family.has" s_Family_has ["self", "name"] fH dH) (T0 : FmC K mg C) :
    FnOk P w K mg base (L2.CX P w) 10 f fd ["functions", "family"] (spFuns CN C) := by
  have GL : FnOk P w K mg base (L2.CX P w) 9 fL dL ["family", "owner", "ahead", "function"] (spHead CN C) := ok_head L.F N MK MH T0
  refine F.okX sc_look_at_functions (fun vs H Q E h => ?_) (fun cdv A outer s H vs Q E hr h => ?_)
  · obtain ⟨pf, v, fs, cs, rfl, _⟩ := h
    rfl
  · obtain ⟨pf, v, fs, cs, rfl, hf, hv, hok, hl30, q⟩ := h
    refine ⟨_, pss_cons (ps_set (i := 2) sc_look_at_functions.nd rfl (Or.inl rfl) (pe_lst pa_nil))
      (pss_one (ps_for (passes_of rfl) rfl (pi_tup (pv 0)) (pg_name (i := 3) sc_look_at_functions.nd rfl (Or.inl rfl))
        (pss_cons (ps_expr (pe_callS GL hr (by rfl) L.g L.F.kp L.b (fun σ => passAt (takes_of rfl rfl rfl rfl) σ) (by exact (pa_cons (pv 1) (pa_cons pe_non (pa_cons (pv 2) (pa_cons (pv 3) pa_nil)))))))
        (pss_one (ps_expr (pe_bm PySem.F.plainAttrs_list PySem.F.slot_list_append PySem.F.type_list_append mt_append (pv 2) (pa_cons (pe_ix ix_tup (pv 3) pe_int (fun _ _ => rfl)) pa_nil))))))), ?_⟩
    obtain ⟨a, xs, rfl, ha, _, r1⟩ := hv.tupE
    have hxl : xs.length = fs.length := by rw [r1.len, List.length_map]
    refine ⟨Nat.zero_le _, fun lt nlt => ?_⟩
    have s1 : Same H (upd H lt (.lst [])) := fun b o e => by rw [upd_ne (ne_of_none e nlt)]; exact e
    have hlt : (upd H lt (.lst [])) lt = some (.lst []) := upd_same
    generalize upd H lt (.lst []) = H1 at s1 hlt
    refine ⟨_, rfl, a, rfl, ⟨xs, SqT.of (s1 _ _ ha)⟩, ?_⟩
    refine for_tup (xs := xs) (fun i σ H3 => (∃ s3, σ = [some (.ref a), some (.ref pf), some (.ref lt), s3]) ∧ H3 lt = some (.lst (((fs.take i).map Fn.name).map V.str)) ∧ Same H H3 ∧ headsW cs none [] (fs.take i) = none) ⟨⟨_, rfl⟩, hlt, s1, rfl⟩ (fun i σ H3 _ h => SqT.of (h.2.2.1 _ _ ha)) ?_ ?_
    · rintro i x σ H3 hxi ⟨⟨s3, rfl⟩, hl3, k3, hn⟩
      have hi : i < fs.length := by
        have := (List.getElem?_eq_some_iff.mp hxi).1
        omega
      obtain ⟨v2, hv2, dv⟩ := r1.get (i := i) (d := fs[i].py) (by rw [List.getElem?_map, List.getElem?_eq_getElem hi]; rfl)
      obtain rfl : x = v2 := by
        rw [hxi] at hv2
        exact Option.some.inj hv2
      obtain ⟨o1, o2, o3, o4⟩ := hok _ (List.getElem_mem hi)
      have hst : headsW cs none [] fs = (match headW cs none ((fs.take i).map Fn.name) fs[i] with | some w => some w | none => headsW cs none ((fs.take i).map Fn.name ++ [fs[i].name]) (fs.drop (i + 1))) := by
        rw [headsW_step hn, List.drop_eq_getElem_cons hi]
        rfl
      have hst2 : headsW cs none [] (fs.take (i + 1)) = headW cs none ((fs.take i).map Fn.name) fs[i] := by
        have hi2 : i < (fs.take (i + 1)).length := by rw [List.length_take]; omega
        have e2 : (fs.take (i + 1)).take i = fs.take i := by rw [List.take_take]; congr 1; omega
        have e3 : (fs.take (i + 1))[i] = fs[i] := List.getElem_take
        have e4 : (fs.take (i + 1)).drop (i + 1) = [] := List.drop_eq_nil_of_le (by rw [List.length_take]; omega)
        rw [headsW_step (i := i) (by rw [e2]; exact hn), List.drop_eq_getElem_cons hi2, e2, e3, e4]
        show (match headW cs none ((fs.take i).map Fn.name) fs[i] with | some w => some w | none => none) = _
        cases headW cs none ((fs.take i).map Fn.name) fs[i] <;> rfl
      refine ⟨_, rfl, _, rfl, _, rfl, ?_⟩
      refine ⟨pf, lt, .non, x, none, (fs.take i).map Fn.name, fs[i], cs, rfl, hf.still (Still.of k3), .non, hl3, dv.same (TupSame.of k3), (fun z e => nomatch e), o1, o2, o3, o4, ?_⟩
      unfold Out
      cases e : headW cs none ((fs.take i).map Fn.name) fs[i] with
      | some w =>
        intro d H' s t
        have := q
        unfold Out at this
        rw [hst, e] at this
        exact this d H' (k3.trans s) t
      | none =>
        intro H4 s4
        have k4 := k3.trans s4
        have hl4 := s4 _ _ hl3
        obtain ⟨b0, ws, rfl, hb0, _, q1⟩ := (dv.same (TupSame.of k4)).tupE
        obtain ⟨u0, us, rfl, g0, q2⟩ := q1.consE
        obtain ⟨rfl, _⟩ := g0.strE
        refine ⟨_, rfl, .inl ⟨rfl, _, SqL.of hl4⟩, _, rfl, b0, _, 0, .str fs[i].name, rfl, rfl, SqT.of hb0, atI_nat (j := 0) rfl, lt, _, _, rfl, rfl, hl4, ?_, ?_⟩
        · rw [List.length_map, List.length_map, List.length_take]
          exact Nat.lt_of_le_of_lt (by omega : _ ≤ 30) (by decide)
        · refine ⟨⟨_, rfl⟩, ?_, fun b o e => by rw [upd_ne (ne_of_none e nlt)]; exact k4 b o e, by rw [hst2]; exact e⟩
          rw [upd_same, List.take_add_one, List.getElem?_eq_getElem hi, List.map_append, List.map_append]
          rfl
    · rintro σ H3 ⟨_, hl3, k3, hn⟩
      rw [hxl, List.take_length] at hn
      have := q
      unfold Out at this
      rw [hn] at this
      exact this _ k3
end
end WR

/-! look_at_fields. -/
namespace WR
open PySem PySem.Spec PyProof.Rows L2 PV PF T ET PB FM KE0 KR
theorem optS_nameV {H : Hp} {v : V} {o : Option Str} (h : Dv H v (optS o)) : v = nameV o := by
  cases o with
  | none => cases h; rfl
  | some z => obtain ⟨rfl, _⟩ := Dv.strE h; rfl
theorem optK_non {H : Hp} {v : V} {k : Option Kd} (h : Dv H v (optK k)) : decide (v = V.non) = k.isNone := by
  cases k with
  | none => cases h; rfl
  | some k => cases k <;> (cases h; exact decide_eq_false (fun e => by cases e))
def fldWord (cs : List Cl) (above : Option Str) (ahead : List Str) : List (Str × Kd) → Option Str
  | [] => none
  | p :: r => if p.1 ∈ ahead ∨ (fieldK cs above p.1).isSome = true then some "double" else if knows cs p.2 = true then fldWord cs above (ahead ++ [p.1]) r else some "class"
def fldW (cs : List Cl) (name : Str) (above : Option Str) (fs : List (Str × Kd)) : Option Wrong := (fldWord cs above [] fs).map fun w => ⟨w, some name, none, none⟩
theorem fldWord_step {cs : List Cl} {above : Option Str} {ps : List (Str × Kd)} {i : Nat} (hn : fldWord cs above [] (ps.take i) = none) : fldWord cs above [] ps = fldWord cs above ((ps.take i).map (·.1)) (ps.drop i) := by
  have gen : ∀ (l : List (Str × Kd)) (t : List Str) (i : Nat), fldWord cs above t (l.take i) = none → fldWord cs above t l = fldWord cs above (t ++ (l.take i).map (·.1)) (l.drop i) := by
    intro l
    induction l with
    | nil => intro t i _; simp [fldWord]
    | cons p r ih =>
      intro t i hh
      cases i with
      | zero => simp
      | succ i =>
        have eq : ∀ (t : List Str) (r : List (Str × Kd)), fldWord cs above t (p :: r) = (if p.1 ∈ t ∨ (fieldK cs above p.1).isSome = true then some ("double" : Str) else if knows cs p.2 = true then fldWord cs above (t ++ [p.1]) r else some ("class" : Str)) := fun _ _ => rfl
        rw [List.take_succ_cons, eq] at hh
        rw [eq]
        by_cases e1 : p.1 ∈ t ∨ (fieldK cs above p.1).isSome = true
        · rw [if_pos e1] at hh; cases hh
        · rw [if_neg e1] at hh ⊢
          by_cases e2 : knows cs p.2 = true
          · rw [if_pos e2] at hh ⊢
            rw [ih _ i hh, List.take_succ_cons, List.map_cons, List.drop_succ_cons, List.append_assoc, List.singleton_append]
          · rw [if_neg e2] at hh; cases hh
  exact gen ps [] i hn
theorem cls_fine {name : Str} (hn : nameB name = true) {wd : Str} (hw : wd = "double" ∨ wd = "class") : (⟨wd, some name, none, none⟩ : Wrong).fine := by
  refine ⟨?_, ?_, fun z h => ?_, fun i h => by cases h⟩
  · show wd.length ≤ 60
    rcases hw with rfl | rfl <;> decide +kernel
  · show ∀ c ∈ wd.cps.toList, c < 16 ^ 8
    rcases hw with rfl | rfl <;> decide +kernel
  · rcases h with h | h
    · exact name_fine (by cases h; exact hn)
    · cases h
section
variable {P : Program} {w : World} {K : PySem.W.Frag} {mg : Str → Option Value} {base : Heap} {CN C : Addr}
def spFields (CN C : Addr) : Sp := fun vs H Q E => ∃ (pf : Addr) (av v : V) (name : Str) (above : Option Str) (fs : List (Str × Kd)) (cs : List Cl), vs = [.str name, av, v, .ref pf] ∧ FamAt C H pf cs ∧ cs.length ≤ 12 ∧ Dv H av (optS above) ∧ Dv H v (.tuple (fs.map pair)) ∧
  nameB name = true ∧ name.length ≤ 1000 ∧ fs.length ≤ 8 ∧ (∀ p ∈ fs, rows p.2 < 5) ∧ Out CN H (fldW cs name above fs) Q E
theorem ok_fields {f fK fH fF fL : Addr} {fd dK dH dF dL : FuncData} (F : Fun K "look_at_fields" "look_at_fields" s_look_at_fields f fd) (N : Nl P K mg CN) (MK : Md K C "knows" "Family.knows" s_Family_knows ["self", "kind"] fK dK) (MH : Md K C "has" "Family.has" s_Family_has ["self", "name"] fH dH)
    (MF : Md K C "field_kind" "Family.field_kind" s_Family_field_kind ["self", "name", "field"] fF dF) (ML : Md K C "line" "Family.line" s_Family_line ["self", "name"] fL dL) (T0 : FmC K mg C) :
    FnOk P w K mg base (L2.CX P w) 9 f fd ["name", "above", "fields", "family"] (spFields CN C) := by
  have GK : FnOk P w K mg base CX0 7 fK dK ["self", "kind"] (spKnows C 5) := ok_knows MK MH T0 5
  have GF : FnOk P w K mg base CX0 2 fF dF ["self", "name", "field"] (spFieldK C) := ok_fieldK MF.F ML T0
  refine F.okX sc_look_at_fields (fun vs H Q E h => ?_) (fun cdv A outer s H vs Q E hr h => ?_)
  · obtain ⟨pf, av, v, name, above, fs, cs, rfl, _⟩ := h
    rfl
  · obtain ⟨pf, av, v, name, above, fs, cs, rfl, hf, hcs, hav, hv, hnm, hnl, hpl, hrows, q⟩ := h
    have hr2 := hr.mono (show 2 ≤ 8 by decide)
    refine ⟨_, pss_cons (ps_set (i := 4) sc_look_at_fields.nd rfl (Or.inl rfl) (pe_lst pa_nil))
      (pss_one (ps_for (passes_of rfl) rfl (pi_tup (pv 2)) (pg_tup rfl (pgs_cons (pg_name (i := 5) sc_look_at_fields.nd rfl (Or.inl rfl)) (pgs_cons (pg_name (i := 6) sc_look_at_fields.nd rfl (Or.inl rfl)) pgs_nil)))
        (pss_cons (ps_if (PW.pt (pw_or (pt_cmpR op_in_seq (pv 5) (pv 4) (by rfl)) (pw_or1 (pt_cmpR op_notN (pe_meth (pv 3) T0.cl MF.m GF (hr.mono (by decide)) MF.b .nil pass0 (pa_cons (pv 1) (pa_cons (pv 5) pa_nil))) pe_non (nomark _)))))
          (pss_one (ps_refuse (k := 1) rfl N hr2 (takes_of rfl rfl rfl rfl) (by exact (pa_cons (pe_tup (pa_cons pe_str (pa_cons (pe_tup (pa_cons (pv 0) (pa_cons pe_non (pa_cons pe_non pa_nil)))) pa_nil))) pa_nil)))) pss_nil)
        (pss_cons (ps_if (pt_not (pt_val (pe_meth (pv 3) T0.cl MK.m GK (hr.mono (by decide)) MK.b .nil pass0 (pa_cons (pv 6) pa_nil)))) (pss_one (ps_refuse (k := 1) rfl N hr2 (takes_of rfl rfl rfl rfl) (by exact (pa_cons (pe_tup (pa_cons pe_str (pa_cons (pe_tup (pa_cons (pv 0) (pa_cons pe_non (pa_cons pe_non pa_nil)))) pa_nil))) pa_nil)))) pss_nil)
        (pss_one (ps_expr (pe_bm PySem.F.plainAttrs_list PySem.F.slot_list_append PySem.F.type_list_append mt_append (pv 4) (pa_cons (pv 5) pa_nil)))))))), ?_⟩
    obtain ⟨a1, ys, rfl, ha1, _, r1⟩ := hv.tupE
    have hyl : ys.length = fs.length := by rw [r1.len, List.length_map]
    obtain rfl := optS_nameV hav
    refine ⟨Nat.zero_le _, fun lt nlt => ?_⟩
    have s1 : Same H (upd H lt (.lst [])) := fun b o e => by rw [upd_ne (ne_of_none e nlt)]; exact e
    have hlt : (upd H lt (.lst [])) lt = some (.lst []) := upd_same
    generalize upd H lt (.lst []) = H1 at s1 hlt
    have refuse : ∀ (wd : Str) (H2 : Hp), Same H H2 → (wd = "double" ∨ wd = "class") → fldWord cs above [] fs = some wd → ∀ t1, H2 t1 = none → ∀ t, (upd H2 t1 (.tup [.str name, .non, .non])) t = none → Ref (upd (upd H2 t1 (.tup [.str name, .non, .non])) t (.tup [.str wd, .ref t1])) (.ref t) fun d H' => E (.ref CN) d H' := fun wd H2 s2 hw hh t1 n1 t nt => by
      have k1 : Same H2 (upd H2 t1 (.tup [.str name, .non, .non])) := fun b o e => by rw [upd_ne (ne_of_none e n1)]; exact e
      have h1 : (upd H2 t1 (.tup [.str name, .non, .non])) t1 = some (.tup [.str name, .non, .non]) := upd_same
      generalize upd H2 t1 (.tup [.str name, .non, .non]) = H3 at k1 h1 nt
      have s3 : Same H3 (upd H3 t (.tup [.str wd, .ref t1])) := fun b o e => by rw [upd_ne (ne_of_none e nt)]; exact e
      have hq : ∀ d H', Same H H' → Tells CN H' d ⟨wd, some name, none, none⟩ → E (.ref CN) d H' := by
        have := q
        unfold Out fldW at this
        rw [hh] at this
        exact this
      have fi : (⟨wd, some name, none, none⟩ : Wrong).fine := cls_fine hnm hw
      refine ref_ok (CN := CN) (w := ⟨wd, some name, none, none⟩) ?_ fi fun d H' s t => hq d H' (((s2.trans k1).trans s3).trans s) t
      exact .tup upd_same (by show 2 ≤ 1000; decide) (.cons (.str _ (Nat.le_trans fi.1 (by decide))) (.cons (.tup (s3 _ _ h1) (by show 3 ≤ 1000; decide) (.cons (.str _ hnl) (.cons .non (.cons .non .nil)))) .nil))
    refine ⟨_, rfl, a1, rfl, ⟨ys, SqT.of (s1 _ _ ha1)⟩, ?_⟩
    refine for_tup (xs := ys) (fun i σ H3 => (∃ s5 s6, σ = [some (.str name), some (nameV above), some (.ref a1), some (.ref pf), some (.ref lt), s5, s6]) ∧ H3 lt = some (.lst (((fs.take i).map (·.1)).map V.str)) ∧ Same H H3 ∧ fldWord cs above [] (fs.take i) = none) ⟨⟨_, _, rfl⟩, hlt, s1, rfl⟩ (fun i σ H3 _ h => SqT.of (h.2.2.1 _ _ ha1)) ?_ ?_
    · rintro i x σ H3 hxi ⟨⟨s5, s6, rfl⟩, hl3, s3, hp3⟩
      have hi : i < fs.length := by
        have := (List.getElem?_eq_some_iff.mp hxi).1
        omega
      obtain ⟨v2, hv2, dv⟩ := r1.get (i := i) (d := pair fs[i]) (by rw [List.getElem?_map, List.getElem?_eq_getElem hi]; rfl)
      obtain rfl : x = v2 := by
        rw [hxi] at hv2
        exact Option.some.inj hv2
      obtain ⟨c0, zs, rfl, hc0, _, r4⟩ := (dv.same (TupSame.of s3)).tupE
      obtain ⟨e0, us2, rfl, k0, r5⟩ := r4.consE
      obtain ⟨e1, us2, rfl, k1, r5⟩ := r5.consE
      obtain rfl := r5.nilE
      obtain ⟨rfl, _⟩ := k0.strE
      have hpar : fldWord cs above [] fs = (if fs[i].1 ∈ (fs.take i).map (·.1) ∨ (fieldK cs above fs[i].1).isSome = true then some ("double" : Str) else if knows cs fs[i].2 = true then fldWord cs above ((fs.take i).map (·.1) ++ [fs[i].1]) (fs.drop (i + 1)) else some ("class" : Str)) := by
        rw [fldWord_step hp3, List.drop_eq_getElem_cons hi]
        rfl
      have hpar2 : fldWord cs above [] (fs.take (i + 1)) = (if fs[i].1 ∈ (fs.take i).map (·.1) ∨ (fieldK cs above fs[i].1).isSome = true then some ("double" : Str) else if knows cs fs[i].2 = true then none else some ("class" : Str)) := by
        have hi2 : i < (fs.take (i + 1)).length := by rw [List.length_take]; omega
        have e2 : (fs.take (i + 1)).take i = fs.take i := by rw [List.take_take]; congr 1; omega
        have e3 : (fs.take (i + 1))[i] = fs[i] := List.getElem_take
        have e4 : (fs.take (i + 1)).drop (i + 1) = [] := List.drop_eq_nil_of_le (by rw [List.length_take]; omega)
        rw [fldWord_step (i := i) (by rw [e2]; exact hp3), List.drop_eq_getElem_cons hi2, e2, e3, e4]
        rfl
      refine ⟨c0, _, rfl, SqT.of hc0, rfl, _, _, rfl, _, _, rfl, rfl, ?_⟩
      refine ⟨_, rfl, _, rfl, lt, _, rfl, .inl (SqL.of hl3), rfl, flatW _, _, rfl, ?_⟩
      refine ite2 (fun e4 => ?_) (fun e4 => ?_)
      · have e5 : inV (V.str fs[i].1) (((fs.take i).map (·.1)).map V.str) = true := e4
        rw [inW] at e5
        have hin := of_decide_eq_true e5
        exact ⟨_, rfl, by show 3 ≤ sizeLine; decide, fun t1 n1 => ⟨by show 2 ≤ sizeLine; decide, fun t nt => refuse "double" H3 s3 (.inl rfl) (by rw [hpar, if_pos (.inl hin)]) t1 n1 t nt⟩⟩
      have hin : fs[i].1 ∉ (fs.take i).map (·.1) := fun hin => e4 (by show inV (V.str fs[i].1) (((fs.take i).map (·.1)).map V.str) = true; rw [inW, decide_eq_true hin])
      have hf3 := hf.still (Still.of s3)
      obtain ⟨dx, d, kvs, h1, _, _⟩ := id hf3
      refine ⟨_, rfl, pf, dx, _, rfl, h1, rfl, _, rfl, _, rfl, ?_⟩
      refine ⟨pf, above, fs[i].1, cs, rfl, hf3, hcs, fun u H4 s4 hu => ?_⟩
      refine ⟨rfl, _, rfl, ?_⟩
      rw [optK_non hu]
      have s34 := s3.trans s4
      have hl4 := s4 _ _ hl3
      cases hfk : fieldK cs above fs[i].1 with
      | some kk =>
        refine iteT ?_
        exact ⟨_, rfl, by show 3 ≤ sizeLine; decide, fun t1 n1 => ⟨by show 2 ≤ sizeLine; decide, fun t nt => refuse "double" H4 s34 (.inl rfl) (by rw [hpar, if_pos (.inr (by rw [hfk]; rfl))]) t1 n1 t nt⟩⟩
      | none =>
        refine iteF ?_
        have hno : ¬ (fs[i].1 ∈ (fs.take i).map (·.1) ∨ (fieldK cs above fs[i].1).isSome = true) := fun h => by
          rcases h with h | h
          · exact hin h
          · rw [hfk] at h; cases h
        have hf4 := hf3.still (Still.of s4)
        obtain ⟨dx4, d4, kvs4, h4, _, _⟩ := id hf4
        refine ⟨_, rfl, pf, dx4, _, rfl, h4, rfl, _, rfl, ?_⟩
        refine ⟨pf, e1, some fs[i].2, cs, rfl, hf4, k1.same (TupSame.of s4), hrows _ (List.getElem_mem hi), _, rfl, ?_⟩
        by_cases hk : knows cs fs[i].2 = true
        · have hk' : knowsO cs (some fs[i].2) = true := hk
          rw [hk']
          refine iteF ?_
          refine ⟨_, rfl, .inl ⟨rfl, _, SqL.of hl4⟩, _, rfl, lt, _, _, rfl, rfl, hl4, ?_, ?_⟩
          · rw [List.length_map, List.length_map, List.length_take]
            exact Nat.lt_of_le_of_lt (by omega : _ ≤ 12) (by decide)
          · refine ⟨⟨_, _, rfl⟩, ?_, fun b o e => by rw [upd_ne (ne_of_none e nlt)]; exact s34 b o e, by rw [hpar2, if_neg hno, if_pos hk]⟩
            rw [upd_same, List.take_add_one, List.getElem?_eq_getElem hi, List.map_append, List.map_append]
            rfl
        · have hk' : knowsO cs (some fs[i].2) = false := by
            show knows cs fs[i].2 = false
            simpa using hk
          rw [hk']
          refine iteT ?_
          exact ⟨_, rfl, by show 3 ≤ sizeLine; decide, fun t1 n1 => ⟨by show 2 ≤ sizeLine; decide, fun t nt => refuse "class" H4 s34 (.inr rfl) (by rw [hpar, if_neg hno, if_neg hk]) t1 n1 t nt⟩⟩
    · rintro σ H3 ⟨⟨s5, s6, rfl⟩, hl3, s3, hp3⟩
      rw [hyl, List.take_length] at hp3
      have := q
      unfold Out fldW at this
      rw [hp3] at this
      exact this _ s3
end
end WR

/-! look_at_classes. -/
namespace WR
open PySem PySem.Spec PyProof.Rows L2 PV PF T ET PB FM KE0 KR
def aboveBad (cs : List Cl) (name : Str) : Option Str → Bool
  | none => false
  | some a => !hasC cs a || belowB cs a name
def clsW1 (cs : List Cl) (ahead : List Str) (c : Cl) : Option Wrong := if c.name ∈ ahead then some ⟨"double", some c.name, none, none⟩ else if aboveBad cs c.name c.above = true then some ⟨"class", some c.name, none, none⟩ else fldW cs c.name c.above c.fields
def clsW (cs : List Cl) : List Str → List Cl → Option Wrong
  | _, [] => none
  | ahead, c :: r => match clsW1 cs ahead c with
    | some w => some w
    | none => clsW cs (ahead ++ [c.name]) r
theorem clsW_step {cs l : List Cl} {i : Nat} (hn : clsW cs [] (l.take i) = none) : clsW cs [] l = clsW cs ((l.take i).map Cl.name) (l.drop i) := by
  have gen : ∀ (l : List Cl) (t : List Str) (i : Nat), clsW cs t (l.take i) = none → clsW cs t l = clsW cs (t ++ (l.take i).map Cl.name) (l.drop i) := by
    intro l
    induction l with
    | nil => intro t i _; simp [clsW]
    | cons f r ih =>
      intro t i hh
      cases i with
      | zero => simp
      | succ i =>
        have eq : ∀ (t : List Str) (r : List Cl), clsW cs t (f :: r) = (match clsW1 cs t f with | some w => some w | none => clsW cs (t ++ [f.name]) r) := fun _ _ => rfl
        rw [List.take_succ_cons, eq] at hh
        rw [eq]
        cases e : clsW1 cs t f with
        | some w => rw [e] at hh; cases hh
        | none =>
          rw [e] at hh
          show clsW cs (t ++ [f.name]) r = _
          rw [ih _ i hh, List.take_succ_cons, List.map_cons, List.drop_succ_cons, List.append_assoc, List.singleton_append]
  exact gen l [] i hn
def clHdOk (c : Cl) : Prop := nameB c.name = true ∧ c.fields.length ≤ 8 ∧ ∀ p ∈ c.fields, rows p.2 < 5
section
variable {P : Program} {w : World} {K : PySem.W.Frag} {mg : Str → Option Value} {base : Heap} {CN C : Addr}
def spClasses (CN C : Addr) : Sp := fun vs H Q E => ∃ (pf : Addr) (v : V) (cs : List Cl), vs = [v, .ref pf] ∧ FamAt C H pf cs ∧ cs.length ≤ 12 ∧ Dv H v (.tuple (cs.map Cl.py)) ∧ (∀ c ∈ cs, clHdOk c) ∧ Out CN H (clsW cs [] cs) Q E
theorem ok_classes {f fK fH fF fL fB fX : Addr} {fd dK dH dF dL dB dX : FuncData} (F : Fun K "look_at_classes" "look_at_classes" s_look_at_classes f fd) (N : Nl P K mg CN) (MK : Md K C "knows" "Family.knows" s_Family_knows ["self", "kind"] fK dK) (MH : Md K C "has" "Family.has" s_Family_has ["self", "name"] fH dH)
    (MF : Md K C "field_kind" "Family.field_kind" s_Family_field_kind ["self", "name", "field"] fF dF) (ML : Md K C "line" "Family.line" s_Family_line ["self", "name"] fL dL) (MB : Md K C "is_below" "Family.is_below" s_Family_is_below ["self", "name", "other"] fB dB) (L : Gd K mg "look_at_fields" s_look_at_fields ["name", "above", "fields", "family"] fX dX) (T0 : FmC K mg C) :
    FnOk P w K mg base (L2.CX P w) 10 f fd ["classes", "family"] (spClasses CN C) := by
  have GX : FnOk P w K mg base (L2.CX P w) 9 fX dX ["name", "above", "fields", "family"] (spFields CN C) := ok_fields L.F N MK MH MF ML T0
  have GH : FnOk P w K mg base CX0 1 fH dH ["self", "name"] (spHas C) := ok_has MH.F T0
  have GB : FnOk P w K mg base CX0 2 fB dB ["self", "name", "other"] (spBelow C) := ok_below MB.F ML T0
  refine F.okX sc_look_at_classes (fun vs H Q E h => ?_) (fun cdv A outer s H vs Q E hr h => ?_)
  · obtain ⟨pf, v, cs, rfl, _⟩ := h
    rfl
  · obtain ⟨pf, v, cs, rfl, hf, hcs, hv, hok, q⟩ := h
    have hr2 := hr.mono (show 2 ≤ 9 by decide)
    refine ⟨_, pss_cons (ps_set (i := 2) sc_look_at_classes.nd rfl (Or.inl rfl) (pe_lst pa_nil))
      (pss_one (ps_for (passes_of rfl) rfl (pi_tup (pv 0)) (pg_tup rfl (pgs_cons (pg_name (i := 3) sc_look_at_classes.nd rfl (Or.inl rfl)) (pgs_cons (pg_name (i := 4) sc_look_at_classes.nd rfl (Or.inl rfl)) (pgs_cons (pg_name (i := 5) sc_look_at_classes.nd rfl (Or.inl rfl)) (pgs_cons (pg_name (i := 6) sc_look_at_classes.nd rfl (Or.inl rfl)) pgs_nil)))))
        (pss_cons (ps_if (pt_cmpR op_in_seq (pv 3) (pv 2) (by rfl)) (pss_one (ps_refuse (k := 1) rfl N hr2 (takes_of rfl rfl rfl rfl) (by exact (pa_cons (pe_tup (pa_cons pe_str (pa_cons (pe_tup (pa_cons (pv 3) (pa_cons pe_non (pa_cons pe_non pa_nil)))) pa_nil))) pa_nil)))) pss_nil)
        (pss_cons (ps_expr (pe_bm PySem.F.plainAttrs_list PySem.F.slot_list_append PySem.F.type_list_append mt_append (pv 2) (pa_cons (pv 3) pa_nil)))
        (pss_cons (ps_if (PW.pt (pw_and (pt_cmpR op_notN (pv 4) pe_non (nomark _)) (pw_and1 (PW.pt (pw_or (pt_not (pt_val (pe_meth (pv 1) T0.cl MH.m GH (hr.mono (by decide)) MH.b .nil pass0 (pa_cons (pv 4) pa_nil)))) (pw_or1 (pt_val (pe_meth (pv 1) T0.cl MB.m GB (hr.mono (by decide)) MB.b .nil pass0 (pa_cons (pv 4) (pa_cons (pv 3) pa_nil))))))))))
          (pss_one (ps_refuse (k := 1) rfl N hr2 (takes_of rfl rfl rfl rfl) (by exact (pa_cons (pe_tup (pa_cons pe_str (pa_cons (pe_tup (pa_cons (pv 3) (pa_cons pe_non (pa_cons pe_non pa_nil)))) pa_nil))) pa_nil)))) pss_nil)
        (pss_one (ps_expr (pe_callS GX hr (by rfl) L.g L.F.kp L.b (fun σ => passAt (takes_of rfl rfl rfl rfl) σ) (by exact (pa_cons (pv 3) (pa_cons (pv 4) (pa_cons (pv 5) (pa_cons (pv 1) pa_nil))))))))))))), ?_⟩
    obtain ⟨a1, ys, rfl, ha1, _, r1⟩ := hv.tupE
    have hyl : ys.length = cs.length := by rw [r1.len, List.length_map]
    refine ⟨Nat.zero_le _, fun lt nlt => ?_⟩
    have s1 : Same H (upd H lt (.lst [])) := fun b o e => by rw [upd_ne (ne_of_none e nlt)]; exact e
    have hlt : (upd H lt (.lst [])) lt = some (.lst []) := upd_same
    generalize upd H lt (.lst []) = H1 at s1 hlt
    refine ⟨_, rfl, a1, rfl, ⟨ys, SqT.of (s1 _ _ ha1)⟩, ?_⟩
    refine for_tup (xs := ys) (fun i σ H3 => (∃ s3 s4 s5 s6, σ = [some (.ref a1), some (.ref pf), some (.ref lt), s3, s4, s5, s6]) ∧ H3 lt = some (.lst (((cs.take i).map Cl.name).map V.str)) ∧ Same H H3 ∧ clsW cs [] (cs.take i) = none) ⟨⟨_, _, _, _, rfl⟩, hlt, s1, rfl⟩ (fun i σ H3 _ h => SqT.of (h.2.2.1 _ _ ha1)) ?_ ?_
    · rintro i x σ H3 hxi ⟨⟨t3, t4, t5, t6, rfl⟩, hl3, s3, hp3⟩
      have hi : i < cs.length := by
        have := (List.getElem?_eq_some_iff.mp hxi).1
        omega
      obtain ⟨v2, hv2, dv⟩ := r1.get (i := i) (d := cs[i].py) (by rw [List.getElem?_map, List.getElem?_eq_getElem hi]; rfl)
      obtain rfl : x = v2 := by
        rw [hxi] at hv2
        exact Option.some.inj hv2
      obtain ⟨o1, o2, o3⟩ := hok _ (List.getElem_mem hi)
      obtain ⟨c0, zs, rfl, hc0, _, r4⟩ := (dv.same (TupSame.of s3)).tupE
      obtain ⟨e0, us2, rfl, k0, r5⟩ := r4.consE
      obtain ⟨e1, us2, rfl, k1, r5⟩ := r5.consE
      obtain ⟨e2, us2, rfl, k2, r5⟩ := r5.consE
      obtain ⟨e3, us2, rfl, k3, r5⟩ := r5.consE
      obtain rfl := r5.nilE
      obtain ⟨rfl, hnl⟩ := k0.strE
      obtain rfl := optS_nameV k1
      have hpar : clsW cs [] cs = (match clsW1 cs ((cs.take i).map Cl.name) cs[i] with | some w => some w | none => clsW cs ((cs.take i).map Cl.name ++ [cs[i].name]) (cs.drop (i + 1))) := by
        rw [clsW_step hp3, List.drop_eq_getElem_cons hi]
        rfl
      have hpar2 : clsW cs [] (cs.take (i + 1)) = clsW1 cs ((cs.take i).map Cl.name) cs[i] := by
        have hi2 : i < (cs.take (i + 1)).length := by rw [List.length_take]; omega
        have x2 : (cs.take (i + 1)).take i = cs.take i := by rw [List.take_take]; congr 1; omega
        have x3 : (cs.take (i + 1))[i] = cs[i] := List.getElem_take
        have x4 : (cs.take (i + 1)).drop (i + 1) = [] := List.drop_eq_nil_of_le (by rw [List.length_take]; omega)
        rw [clsW_step (i := i) (by rw [x2]; exact hp3), List.drop_eq_getElem_cons hi2, x2, x3, x4]
        show (match clsW1 cs ((cs.take i).map Cl.name) cs[i] with | some w => some w | none => none) = _
        cases clsW1 cs ((cs.take i).map Cl.name) cs[i] <;> rfl
      have outw : ∀ wr, clsW1 cs ((cs.take i).map Cl.name) cs[i] = some wr → ∀ d H', Same H H' → Tells CN H' d wr → E (.ref CN) d H' := fun wr h => by
        have := q
        unfold Out at this
        rw [hpar, h] at this
        exact this
      have refuse : ∀ (wd : Str) (H2 : Hp), (∀ b o, H b = some o → H2 b = some o) → (wd = "double" ∨ wd = "class") → clsW1 cs ((cs.take i).map Cl.name) cs[i] = some ⟨wd, some cs[i].name, none, none⟩ → ∀ t1, H2 t1 = none → ∀ t, (upd H2 t1 (.tup [.str cs[i].name, .non, .non])) t = none →
          Ref (upd (upd H2 t1 (.tup [.str cs[i].name, .non, .non])) t (.tup [.str wd, .ref t1])) (.ref t) fun d H' => E (.ref CN) d H' := fun wd H2 s2 hw hh t1 n1 t nt => by
        have k1 : Same H2 (upd H2 t1 (.tup [.str cs[i].name, .non, .non])) := fun b o e => by rw [upd_ne (ne_of_none e n1)]; exact e
        have h1 : (upd H2 t1 (.tup [.str cs[i].name, .non, .non])) t1 = some (.tup [.str cs[i].name, .non, .non]) := upd_same
        generalize upd H2 t1 (.tup [.str cs[i].name, .non, .non]) = H4 at k1 h1 nt
        have s4 : Same H4 (upd H4 t (.tup [.str wd, .ref t1])) := fun b o e => by rw [upd_ne (ne_of_none e nt)]; exact e
        have fi : (⟨wd, some cs[i].name, none, none⟩ : Wrong).fine := cls_fine o1 hw
        refine ref_ok (CN := CN) (w := ⟨wd, some cs[i].name, none, none⟩) ?_ fi fun d H' s t => outw _ hh d H' (fun b o e => s b o (s4 b o (k1 b o (s2 b o e)))) t
        exact .tup upd_same (by show 2 ≤ 1000; decide) (.cons (.str _ (Nat.le_trans fi.1 (by decide))) (.cons (.tup (s4 _ _ h1) (by show 3 ≤ 1000; decide) (.cons (.str _ hnl) (.cons .non (.cons .non .nil)))) .nil))
      refine ⟨c0, _, rfl, SqT.of hc0, rfl, _, _, rfl, _, _, rfl, _, _, rfl, _, _, rfl, rfl, ?_⟩
      refine ⟨_, rfl, _, rfl, lt, _, rfl, .inl (SqL.of hl3), rfl, flatW _, _, rfl, ?_⟩
      refine ite2 (fun e4 => ?_) (fun e4 => ?_)
      · have e5 : inV (V.str cs[i].name) (((cs.take i).map Cl.name).map V.str) = true := e4
        rw [inW] at e5
        have hin := of_decide_eq_true e5
        exact ⟨_, rfl, by show 3 ≤ sizeLine; decide, fun t1 n1 => ⟨by show 2 ≤ sizeLine; decide, fun t nt => refuse "double" H3 s3 (.inl rfl) (by unfold clsW1; rw [if_pos hin]) t1 n1 t nt⟩⟩
      have hin : cs[i].name ∉ (cs.take i).map Cl.name := fun hin => e4 (by show inV (V.str cs[i].name) (((cs.take i).map Cl.name).map V.str) = true; rw [inW, decide_eq_true hin])
      refine ⟨_, rfl, .inl ⟨rfl, _, SqL.of hl3⟩, _, rfl, lt, _, _, rfl, rfl, hl3, ?_, ?_⟩
      · rw [List.length_map, List.length_map, List.length_take]
        exact Nat.lt_of_le_of_lt (by omega : _ ≤ 12) (by decide)
      have hl4 : (upd H3 lt (.lst ((((cs.take i).map Cl.name).map V.str) ++ [.str cs[i].name]))) lt = some (.lst (((cs.take (i + 1)).map Cl.name).map V.str)) := by
        rw [upd_same, List.take_add_one, List.getElem?_eq_getElem hi, List.map_append, List.map_append]
        rfl
      have s4 : ∀ b o, H b = some o → (upd H3 lt (.lst ((((cs.take i).map Cl.name).map V.str) ++ [.str cs[i].name]))) b = some o := fun b o e => by rw [upd_ne (ne_of_none e nlt)]; exact s3 b o e
      have t34 : TupSame H3 (upd H3 lt (.lst ((((cs.take i).map Cl.name).map V.str) ++ [.str cs[i].name]))) := fun b o e => by rw [upd_ne (ne_of e hl3 (by intro z; cases z))]; exact e
      have k2' := k2.same t34
      generalize (upd H3 lt (.lst ((((cs.take i).map Cl.name).map V.str) ++ [.str cs[i].name]))) = H4 at hl4 s4 k2'
      have hf4 : FamAt C H4 pf cs := hf.still (Still.of s4)
      obtain ⟨dx, d, kvs, h1, _, _⟩ := id hf4
      -- the fields, from any heap behind
      have fields : ∀ H5, Same H4 H5 → aboveBad cs cs[i].name cs[i].above = false → spFields CN C [.str cs[i].name, nameV cs[i].above, e2, .ref pf] H5 (fun _ H' => (∃ s3 s4 s5 s6, ([some (.ref a1), some (.ref pf), some (.ref lt), some (.str cs[i].name), some (nameV cs[i].above), some e2, some e3] : L2.St) = [some (.ref a1), some (.ref pf), some (.ref lt), s3, s4, s5, s6]) ∧ H' lt = some (.lst (((cs.take (i + 1)).map Cl.name).map V.str)) ∧ Same H H' ∧ clsW cs [] (cs.take (i + 1)) = none) (fun c d H' => E c d H') := fun H5 s5 hb => by
        have av : Dv H5 (nameV cs[i].above) (optS cs[i].above) := by
          have := dv.same (TupSame.of (show Same H H5 from fun b o e => s5 b o (s4 b o e)))
          obtain ⟨c0', zs', x1, _, _, r4'⟩ := this.tupE
          obtain ⟨y0, us3, x2, _, r6⟩ := r4'.consE
          obtain ⟨y1, us3, x3, kk, r6⟩ := r6.consE
          have := optS_nameV kk
          rw [this] at kk
          exact kk
        refine ⟨pf, nameV cs[i].above, e2, cs[i].name, cs[i].above, cs[i].fields, cs, rfl, hf4.still (Still.of s5), hcs, av, k2'.same (TupSame.of s5), o1, hnl, o2, o3, ?_⟩
        have e1 : clsW1 cs ((cs.take i).map Cl.name) cs[i] = fldW cs cs[i].name cs[i].above cs[i].fields := by
          unfold clsW1
          rw [if_neg hin, hb, if_neg (by decide)]
        unfold Out
        cases e : fldW cs cs[i].name cs[i].above cs[i].fields with
        | some wr => exact fun d H' s t => outw wr (by rw [e1, e]) d H' (fun b o z => s b o (s5 b o (s4 b o z))) t
        | none => exact fun H' s => ⟨⟨_, _, _, _, rfl⟩, s _ _ (s5 _ _ hl4), fun b o z => s b o (s5 b o (s4 b o z)), by rw [hpar2, e1, e]⟩
      have noC : ∀ H5, Same H4 H5 → aboveBad cs cs[i].name cs[i].above = true → ∀ t1, H5 t1 = none → ∀ t, (upd H5 t1 (.tup [.str cs[i].name, .non, .non])) t = none → Ref (upd (upd H5 t1 (.tup [.str cs[i].name, .non, .non])) t (.tup [.str "class", .ref t1])) (.ref t) fun d H' => E (.ref CN) d H' := fun H5 s5 hb =>
        refuse "class" H5 (fun b o e => s5 b o (s4 b o e)) (.inr rfl) (by unfold clsW1; rw [if_neg hin, if_pos hb])
      cases hab : cs[i].above with
      | none =>
        rw [hab] at fields
        refine ⟨_, rfl, rfl, false, rfl, iteF ?_⟩
        exact ⟨_, rfl, _, rfl, _, rfl, _, rfl, fields H4 (fun _ _ e => e) rfl⟩
      | some ab =>
        rw [hab] at fields noC
        refine ⟨_, rfl, rfl, true, rfl, iteT ?_⟩
        refine ⟨_, rfl, pf, dx, _, rfl, h1, rfl, _, rfl, pf, ab, cs, rfl, hf4, _, rfl, ?_⟩
        by_cases hh : hasC cs ab = true
        · rw [hh]
          refine iteF ?_
          refine ⟨_, rfl, pf, dx, _, rfl, h1, rfl, _, rfl, _, rfl, pf, ab, cs[i].name, cs, rfl, hf4, hcs, fun H5 s5 => ⟨_, rfl, ?_⟩⟩
          by_cases hbl : belowB cs ab cs[i].name = true
          · rw [hbl]
            refine iteT ?_
            exact ⟨_, rfl, by show 3 ≤ sizeLine; decide, fun t1 n1 => ⟨by show 2 ≤ sizeLine; decide, fun t nt => noC H5 s5 (by show (!hasC cs ab || belowB cs ab cs[i].name) = _; rw [hh, hbl]; rfl) t1 n1 t nt⟩⟩
          · have hbl : belowB cs ab cs[i].name = false := by simpa using hbl
            rw [hbl]
            refine iteF ?_
            exact ⟨_, rfl, _, rfl, _, rfl, _, rfl, fields H5 s5 (by show (!hasC cs ab || belowB cs ab cs[i].name) = _; rw [hh, hbl]; rfl)⟩
        · have hh : hasC cs ab = false := by simpa using hh
          rw [hh]
          refine iteT ?_
          exact ⟨_, rfl, by show 3 ≤ sizeLine; decide, fun t1 n1 => ⟨by show 2 ≤ sizeLine; decide, fun t nt => noC H4 (fun _ _ e => e) (by show (!hasC cs ab || belowB cs ab cs[i].name) = _; rw [hh]; rfl) t1 n1 t nt⟩⟩
    · rintro σ H3 ⟨_, hl3, s3, hp3⟩
      rw [hyl, List.take_length] at hp3
      have := q
      unfold Out at this
      rw [hp3] at this
      exact this _ s3
end
end WR

/-! head_kinds. -/
namespace WR
open PySem PySem.Spec PyProof.Rows L2 PV PF T ET PB FM KE0 KR
def ks (f : Fn) : List Kd := f.params.map (·.2)
def headD (f : Fn) : PyData := .tuple [.list ((ks f).map Kd.py), optK f.result]
/-- what head_kinds makes stands at t -/
def HeadAt (H : Hp) (t : Addr) (f : Fn) : Prop := ∃ l us u, H t = some (.tup [.ref l, u]) ∧ H l = some (.lst us) ∧ DvAll H us ((ks f).map Kd.py) ∧ Dv H u (optK f.result)
theorem HeadAt.same {H H' : Hp} {t : Addr} {f : Fn} (h : HeadAt H t f) (s : Same H H') : HeadAt H' t f := by
  obtain ⟨l, us, u, h1, h2, h3, h4⟩ := h
  exact ⟨l, us, u, s _ _ h1, s _ _ h2, h3.same (TupSame.of s), h4.same (TupSame.of s)⟩
theorem HeadAt.dp {K : PySem.W.Frag} {H : Hp} {t : Addr} {f : Fn} (h : HeadAt H t f) : Dp K H (.ref t) (headD f) := by
  obtain ⟨l, us, u, h1, h2, h3, h4⟩ := h
  exact .tup (SqT.of h1) (.cons (.lst (SqL.of h2) (h3.dp K)) (.cons (h4.dp K) .nil))
theorem ks_eqv : ∀ a b : List Kd, PyData.eqvAll (a.map Kd.py) (b.map Kd.py) = decide (a = b)
  | [], [] => rfl
  | [], _ :: _ => rfl
  | _ :: _, [] => rfl
  | x :: a, y :: b => by
    show (PyData.eqv x.py y.py && PyData.eqvAll (a.map Kd.py) (b.map Kd.py)) = _
    rw [kd_eqv, ks_eqv a b]
    by_cases h1 : x = y <;> by_cases h2 : a = b <;> simp [h1, h2]
def headEq (f g : Fn) : Bool := decide (ks f = ks g) && decide (f.result = g.result)
theorem headD_eqv (f g : Fn) : PyData.eqv (headD f) (headD g) = headEq f g := by
  show (PyData.eqvAll ((ks f).map Kd.py) ((ks g).map Kd.py) && (PyData.eqv (optK f.result) (optK g.result) && true)) = _
  rw [ks_eqv, ko_eqv, Bool.and_true]
  rfl
/-- kinds that may be compared -/
def HkOk (f : Fn) : Prop := (∀ k ∈ ks f, so k = true ∧ rows k ≤ 50) ∧ KdOk f.result
theorem headD_shaped {f : Fn} (h : HkOk f) : SeqAt.shaped (headD f) = true := by
  have gen : ∀ l : List Kd, (∀ k ∈ l, so k = true ∧ rows k ≤ 50) → PyData.canLayAll0 (l.map Kd.py) = true ∧ PyData.depthAll (l.map Kd.py) ≤ 52 := by
    intro l
    induction l with
    | nil => intro _; exact ⟨rfl, Nat.zero_le _⟩
    | cons k r ih =>
      intro h
      obtain ⟨i1, i2⟩ := ih fun x hx => h x (List.mem_cons_of_mem _ hx)
      obtain ⟨h1, h2⟩ := h k List.mem_cons_self
      obtain ⟨k1, k2⟩ := kd_lay k h1
      constructor
      · show (k.py.canLay0 && PyData.canLayAll0 (r.map Kd.py)) = true
        rw [k1, i1]
        rfl
      · have e : PyData.depthAll ((k :: r).map Kd.py) = max k.py.depth (PyData.depthAll (r.map Kd.py)) := rfl
        rw [e]
        omega
  obtain ⟨g1, g2⟩ := gen _ h.1
  obtain ⟨s1, s2⟩ : (optK f.result).canLay0 = true ∧ (optK f.result).depth ≤ 62 := by
    cases e : f.result with
    | none => exact ⟨rfl, Nat.zero_le _⟩
    | some k =>
      obtain ⟨z1, z2⟩ := h.2
      rw [e] at z1 z2
      obtain ⟨k1, k2⟩ := kd_lay k z2
      have : rows k ≤ 60 := z1
      exact ⟨k1, by show k.py.depth ≤ 62; omega⟩
  unfold SeqAt.shaped
  have e1 : (headD f).canLay0 = (PyData.canLayAll0 ((ks f).map Kd.py) && ((optK f.result).canLay0 && true)) := rfl
  have e2 : (headD f).depth = max (PyData.depthAll ((ks f).map Kd.py) + 1) (max (optK f.result).depth 0) + 1 := rfl
  rw [e1, e2, g1, s1, decide_eq_true (by omega)]
  rfl
section
variable {P : Program} {w : World} {K : PySem.W.Frag} {mg : Str → Option Value} {base : Heap} {CN C : Addr}
def spHk : Sp := fun vs H Q _ => ∃ (v : V) (f : Fn), vs = [v] ∧ Dv H v f.py ∧ f.params.length ≤ 6 ∧ ∀ t H', Same H H' → HeadAt H' t f → Q (.ref t) H'
theorem ok_hk {f : Addr} {fd : FuncData} (F : Fun K "head_kinds" "head_kinds" s_head_kinds f fd) : FnOk P w K mg base CX0 1 f fd ["function"] spHk := by
  refine F.ok sc_head_kinds (fun vs H Q E h => ?_) (fun cdv A outer s H vs Q E hr h => ?_)
  · obtain ⟨v, g, rfl, _⟩ := h
    rfl
  · obtain ⟨v, g, rfl, hv, hl, q⟩ := h
    refine ⟨_, pss_one (ps_ret (pe_tup (pa_cons (pe_lc (own := [("_", 1), ("kind", 2)]) (g := gTup K 2 (gCons (gName 1) (gCons (gName 2) gNil))) (tt := tYes) (te := tVar 2) rfl sc_head_kinds.nd (pi_tup (pe_ix ix_tup (pv 0) pe_int (fun _ _ => rfl)))
      (blkOk_by (N := ["function", "_", "kind"]) (sc := defScope s_head_kinds) (by decide +kernel)) (fun _ _ _ _ _ => pg_tup rfl (pgs_cons (pg_name (i := 1) sc_head_kinds.nd rfl (Or.inl rfl)) (pgs_cons (pg_name (i := 2) sc_head_kinds.nd rfl (Or.inl rfl)) pgs_nil))) (fun _ _ _ _ _ => pts_nil) (fun _ _ _ _ _ => pv 2))
      (pa_cons (pe_ix ix_tup (pv 0) pe_int (fun _ _ => rfl)) pa_nil)))), ?_⟩
    obtain ⟨b0, ws, rfl, hb0, _, q1⟩ := hv.tupE
    obtain ⟨u0, us, rfl, g0, q2⟩ := q1.consE
    obtain ⟨u1, us, rfl, g1, q2⟩ := q2.consE
    obtain ⟨u2, us, rfl, g2, q2⟩ := q2.consE
    obtain ⟨u3, us, rfl, g3, q2⟩ := q2.consE
    obtain rfl := q2.nilE
    obtain ⟨a1, ys, rfl, ha1, _, r1⟩ := g1.tupE
    have hyl : ys.length = g.params.length := by rw [r1.len, List.length_map]
    refine ⟨_, rfl, b0, _, 1, .ref a1, rfl, rfl, SqT.of hb0, atI_nat (j := 1) rfl, a1, rfl, ⟨ys, SqT.of ha1⟩, fun D nD => ?_⟩
    refine lc_tup (K := K) (a := a1) (xs := ys) (fun i H2 => ∃ acc, H2 D = some (.lst acc) ∧ acc.length = i ∧ DvAll H2 acc (((ks g).take i).map Kd.py) ∧ Same H H2) ⟨[], upd_same, rfl, .nil, fun b u e => by rw [upd_ne (ne_of_none e nD)]; exact e⟩ (fun i H2 _ h => by obtain ⟨_, _, _, _, h⟩ := h; exact SqT.of (h _ _ ha1)) ?_ ?_
    · rintro i x H2 hx ⟨acc, hD, hal, hacc, s2⟩
      have hi : i < g.params.length := by
        have := (List.getElem?_eq_some_iff.mp hx).1
        omega
      obtain ⟨v2, hv2, dv⟩ := r1.get (i := i) (d := pair g.params[i]) (by rw [List.getElem?_map, List.getElem?_eq_getElem hi]; rfl)
      obtain rfl : x = v2 := by
        rw [hx] at hv2
        exact Option.some.inj hv2
      obtain ⟨c0, zs, rfl, hc0, _, r4⟩ := (dv.same (TupSame.of s2)).tupE
      obtain ⟨e0, us2, rfl, k0, r5⟩ := r4.consE
      obtain ⟨e1, us2, rfl, k1, r5⟩ := r5.consE
      obtain rfl := r5.nilE
      refine ⟨c0, _, rfl, SqT.of hc0, rfl, _, _, rfl, _, _, rfl, rfl, rfl, iteT (B := ∃ acc, H2 D = some (HO.lst acc) ∧ acc.length = i + 1 ∧ DvAll H2 acc (((ks g).take (i + 1)).map Kd.py) ∧ Same H H2) ?_⟩
      have t2 : TupSame H2 (upd H2 D (.lst (acc ++ [e1]))) := fun b zs e => by rw [upd_ne (ne_of e hD (by intro z; cases z))]; exact e
      refine ⟨_, rfl, acc, hD, Nat.lt_of_le_of_lt (by omega : acc.length ≤ 12) (by decide), acc ++ [e1], upd_same, by simp [hal], ?_, fun b u e => by rw [upd_ne (ne_of_none e nD)]; exact s2 b u e⟩
      have hik : i < (ks g).length := by unfold ks; rw [List.length_map]; exact hi
      have ek : (ks g)[i] = g.params[i].2 := by simp [ks]
      rw [List.take_add_one, List.getElem?_eq_getElem hik, List.map_append, ek]
      have ap : ∀ {vs us : List V} {ds es : List PyData} {H : Hp}, DvAll H vs ds → DvAll H us es → DvAll H (vs ++ us) (ds ++ es) := by
        intro vs us ds es H a b
        induction vs generalizing ds with
        | nil => cases a; exact b
        | cons v vs ih => cases a with | cons h r => exact .cons h (ih r)
      exact ap (hacc.same t2) (.cons (k1.same t2) .nil)
    · rintro H2 ⟨acc, hD, hal, hacc, s2⟩
      have hkl : ys.length = (ks g).length := by unfold ks; rw [List.length_map]; exact hyl
      rw [hkl, List.take_length] at hacc
      refine ⟨_, rfl, b0, _, 2, u2, rfl, rfl, SqT.of (s2 _ _ hb0), atI_nat (j := 2) rfl, by show 2 ≤ sizeLine; decide, fun t nt => ?_⟩
      have s3 : Same H2 (upd H2 t (.tup [.ref D, u2])) := fun b o e => by rw [upd_ne (ne_of_none e nt)]; exact e
      exact q t _ (s2.trans s3) ⟨D, acc, u2, upd_same, s3 _ _ hD, hacc.same (TupSame.of s3), g2.same (TupSame.of (s2.trans s3))⟩
end
end WR

/-! look_at_override. -/
namespace WR
open PySem PySem.Spec PyProof.Rows L2 PV PF T ET PB FM KE0 KR
def otherBad (m o : Fn) : Bool := decide (o.name = m.name) && !headEq o m
def overB (cs : List Cl) (above : Option Str) (m : Fn) : Bool := (lineOf cs [] above).any fun c => c.methods.any (otherBad m)
def overW (cs : List Cl) (owner above : Option Str) (m : Fn) : Option Wrong := if overB cs above m = true then some ⟨"override", owner, some m.name, none⟩ else none
/-- methods that may be compared -/
def mOk (f : Fn) : Prop := HkOk f ∧ f.params.length ≤ 6
theorem lineOf_mem {cs : List Cl} : ∀ (n : Nat) (seen : List Str) (nm : Option Str), leftC cs seen ≤ n → ∀ c ∈ lineOf cs seen nm, c ∈ cs := by
  intro n
  induction n with
  | zero =>
    intro seen nm hl c hc
    cases nm with
    | none => rw [lineOf_none] at hc; cases hc
    | some z =>
      cases e : findC cs z with
      | none => rw [lineOf_end (.inl e)] at hc; cases hc
      | some d =>
        by_cases hs : z ∈ seen
        · rw [lineOf_end (.inr hs)] at hc; cases hc
        · have := leftC_lt e hs
          omega
  | succ n ih =>
    intro seen nm hl c hc
    cases nm with
    | none => rw [lineOf_none] at hc; cases hc
    | some z =>
      cases e : findC cs z with
      | none => rw [lineOf_end (.inl e)] at hc; cases hc
      | some d =>
        by_cases hs : z ∈ seen
        · rw [lineOf_end (.inr hs)] at hc; cases hc
        · rw [lineOf_some e hs] at hc
          rcases List.mem_cons.mp hc with rfl | hc
          · exact (findC_name e).2
          · exact ih _ _ (by have := leftC_lt e hs; omega) c hc
section
variable {P : Program} {w : World} {K : PySem.W.Frag} {mg : Str → Option Value} {base : Heap} {CN C : Addr}
def spOver (CN C : Addr) : Sp := fun vs H Q E => ∃ (pf : Addr) (ov av v : V) (owner above : Option Str) (m : Fn) (cs : List Cl), vs = [.ref pf, ov, av, v] ∧ FamAt C H pf cs ∧ cs.length ≤ 12 ∧ Dv H ov (optS owner) ∧ Dv H av (optS above) ∧ Dv H v m.py ∧
  (∀ z, owner = some z → nameB z = true) ∧ nameB m.name = true ∧ mOk m ∧ (∀ c ∈ cs, ∀ f ∈ c.methods, mOk f) ∧ Out CN H (overW cs owner above m) Q E
theorem ok_over {f fL fH : Addr} {fd dL dH : FuncData} (F : Fun K "look_at_override" "look_at_override" s_look_at_override f fd) (N : Nl P K mg CN) (ML : Md K C "line" "Family.line" s_Family_line ["self", "name"] fL dL) (G : Gd K mg "head_kinds" s_head_kinds ["function"] fH dH) (T0 : FmC K mg C) :
    FnOk P w K mg base (L2.CX P w) 3 f fd ["family", "owner", "above", "method"] (spOver CN C) := by
  have GL : FnOk P w K mg base CX0 1 fL dL ["self", "name"] (spLine C) := ok_line ML.F T0
  have GH : FnOk P w K mg base CX0 1 fH dH ["function"] spHk := ok_hk G.F
  refine F.okX sc_look_at_override (fun vs H Q E h => ?_) (fun cdv A outer s H vs Q E hr h => ?_)
  · obtain ⟨pf, ov, av, v, owner, above, m, cs, rfl, _⟩ := h
    rfl
  · obtain ⟨pf, ov, av, v, owner, above, m, cs, rfl, hf, hcs, hov, hav, hv, hon, hnm, hm, hall, q⟩ := h
    have hr1 := hr.mono (show 1 ≤ 2 by decide)
    refine ⟨_, pss_cons (ps_set (i := 4) sc_look_at_override.nd rfl (Or.inl rfl) (pe_call GH hr1 (by rfl) G.g G.F.kp G.b .nil pass0 (pa_cons (pv 3) pa_nil)))
      (pss_one (ps_for (passes_of rfl) rfl (pi_list (pe_meth (pv 0) T0.cl ML.m GL hr1 ML.b .nil pass0 (pa_cons (pv 2) pa_nil))) (pg_name (i := 5) sc_look_at_override.nd rfl (Or.inl rfl))
        (pss_one (ps_for (passes_of rfl) rfl (pi_tup (pe_ix ix_tup (pv 5) pe_int (fun _ _ => rfl))) (pg_name (i := 6) sc_look_at_override.nd rfl (Or.inl rfl))
          (pss_one (ps_if (PW.pt (pw_and (pt_cmpR op_eq (pe_ix ix_tup (pv 6) pe_int (fun _ _ => rfl)) (pe_ix ix_tup (pv 3) pe_int (fun _ _ => rfl)) (nomark _)) (pw_and1 (pt_cmpR (op_neD hr.units) (pe_call GH hr1 (by rfl) G.g G.F.kp G.b .nil pass0 (pa_cons (pv 6) pa_nil)) (pv 4) (nomark _)))))
            (pss_one (ps_refuse (k := 1) rfl N hr (takes_of rfl rfl rfl rfl) (by exact (pa_cons (pe_tup (pa_cons pe_str (pa_cons (pe_tup (pa_cons (pv 1) (pa_cons (pe_ix ix_tup (pv 3) pe_int (fun _ _ => rfl)) (pa_cons pe_non pa_nil)))) pa_nil))) pa_nil)))) pss_nil)))))), ?_⟩
    obtain ⟨m0, ms, rfl, hm0, _, mr⟩ := id hv.tupE
    obtain ⟨mu0, mus, rfl, mg0, mr2⟩ := mr.consE
    obtain ⟨rfl, hmz⟩ := mg0.strE
    obtain rfl := optS_nameV hav
    refine ⟨_, rfl, _, m, rfl, hv, hm.2, fun t H1 s1 ht => ?_⟩
    have hf1 := hf.still (Still.of s1)
    obtain ⟨dx, d, kvs, h1, _, _⟩ := id hf1
    refine ⟨_, rfl, pf, dx, _, rfl, h1, rfl, _, rfl, pf, above, cs, rfl, hf1, hcs, fun l us H2 s2 nl hl2 hd hul => ?_⟩
    have s12 := s1.trans s2
    refine ⟨l, rfl, ⟨us, SqL.of hl2⟩, ?_⟩
    have hlen : us.length = (lineOf cs [] above).length := by rw [hd.len, List.length_map]
    have hmem := lineOf_mem (cs := cs) (leftC cs []) [] above (Nat.le_refl _)
    refine for_list (K := K) (a := l) (xs := us) (fun i σ H3 => (∃ s5 s6, σ = [some (.ref pf), some ov, some (nameV above), some (.ref m0), some (.ref t), s5, s6]) ∧ Same H2 H3 ∧ ((lineOf cs [] above).take i).any (fun c => c.methods.any (otherBad m)) = false) ⟨⟨_, _, rfl⟩, fun _ _ e => e, rfl⟩ (fun i σ H3 _ h => SqL.of (h.2.1 _ _ hl2)) ?_ ?_
    · rintro i x σ H3 hx ⟨⟨s5, s6, rfl⟩, s3, hn⟩
      have hi : i < (lineOf cs [] above).length := by
        have := (List.getElem?_eq_some_iff.mp hx).1
        omega
      obtain ⟨v2, hv2, dv⟩ := hd.get (i := i) (d := ((lineOf cs [] above)[i]).py) (by rw [List.getElem?_map, List.getElem?_eq_getElem hi]; rfl)
      obtain rfl : x = v2 := by
        rw [hx] at hv2
        exact Option.some.inj hv2
      obtain ⟨b0, ws, rfl, hb0, _, r1⟩ := (dv.same (TupSame.of s3)).tupE
      obtain ⟨u0, us', rfl, g0, r2⟩ := r1.consE
      obtain ⟨u1, us', rfl, g1, r2⟩ := r2.consE
      obtain ⟨u2, us', rfl, g2, r2⟩ := r2.consE
      obtain ⟨u3, us', rfl, g3, r2⟩ := r2.consE
      obtain ⟨b2, ys, rfl, hb2, _, r3⟩ := g3.tupE
      have hyl : ys.length = ((lineOf cs [] above)[i]).methods.length := by rw [r3.len, List.length_map]
      refine ⟨_, rfl, b0, _, 3, .ref b2, rfl, rfl, SqT.of hb0, atI_nat (j := 3) rfl, b2, rfl, ⟨ys, SqT.of hb2⟩, ?_⟩
      refine for_tup (xs := ys) (fun j σ H4 => (∃ s5 s6, σ = [some (.ref pf), some ov, some (nameV above), some (.ref m0), some (.ref t), s5, s6]) ∧ Same H3 H4 ∧ (((lineOf cs [] above)[i]).methods.take j).any (otherBad m) = false) ⟨⟨_, _, rfl⟩, fun _ _ e => e, rfl⟩ (fun j σ H4 _ h => SqT.of (h.2.1 _ _ hb2)) ?_ ?_
      · rintro j y σ H4 hy ⟨⟨t5, t6, rfl⟩, s4, hmm⟩
        have hj : j < ((lineOf cs [] above)[i]).methods.length := by
          have := (List.getElem?_eq_some_iff.mp hy).1
          omega
        obtain ⟨v3, hv3, dv3⟩ := r3.get (i := j) (d := (((lineOf cs [] above)[i]).methods[j]).py) (by rw [List.getElem?_map, List.getElem?_eq_getElem hj]; rfl)
        obtain rfl : y = v3 := by
          rw [hy] at hv3
          exact Option.some.inj hv3
        have ho : mOk (((lineOf cs [] above)[i]).methods[j]) := hall _ (hmem _ (List.getElem_mem hi)) _ (List.getElem_mem hj)
        have s24 := s3.trans s4
        have s14 := s12.trans s24
        have dv4 := dv3.same (TupSame.of s4)
        obtain ⟨c0, zs, rfl, hc0, _, r4⟩ := id dv4.tupE
        obtain ⟨e0, us2, rfl, k0, r5⟩ := r4.consE
        obtain ⟨rfl, _⟩ := k0.strE
        have next : otherBad m (((lineOf cs [] above)[i]).methods[j]) = false → (((lineOf cs [] above)[i]).methods.take (j + 1)).any (otherBad m) = false := fun e => by
          rw [List.take_add_one, List.getElem?_eq_getElem hj, List.any_append, hmm]
          simp [e]
        refine ⟨_, rfl, c0, _, 0, .str (((lineOf cs [] above)[i]).methods[j]).name, rfl, rfl, SqT.of hc0, atI_nat (j := 0) rfl, ?_⟩
        refine ⟨_, rfl, m0, _, 0, .str m.name, rfl, rfl, SqT.of (s14 _ _ hm0), atI_nat (j := 0) rfl, rfl, _, rfl, ?_⟩
        by_cases he : (((lineOf cs [] above)[i]).methods[j]).name = m.name
        · rw [decide_eq_true (by rw [he])]
          refine iteT ?_
          refine ⟨_, rfl, _, _, rfl, dv4, ho.2, fun t2 H5 s5 ht2 => ?_⟩
          have ht5 := ht.same ((s2.trans s24).trans s5)
          refine ⟨_, rfl, _, _, ht2.dp, ht5.dp, headD_shaped ho.1, headD_shaped hm.1, ?_⟩
          rw [headD_eqv]
          refine ⟨_, rfl, ?_⟩
          by_cases hq : headEq (((lineOf cs [] above)[i]).methods[j]) m = true
          · rw [hq]
            exact iteF ⟨⟨_, _, rfl⟩, s4.trans s5, next (by unfold otherBad; rw [hq]; simp)⟩
          · have hq : headEq (((lineOf cs [] above)[i]).methods[j]) m = false := by simpa using hq
            rw [hq]
            refine iteT ?_
            have hb : overB cs above m = true := List.any_eq_true.mpr ⟨_, List.getElem_mem hi, List.any_eq_true.mpr ⟨_, List.getElem_mem hj, by unfold otherBad; rw [hq, decide_eq_true he]; rfl⟩⟩
            have s15 := s14.trans s5
            refine ⟨_, rfl, _, rfl, m0, _, 0, .str m.name, rfl, rfl, SqT.of (s15 _ _ hm0), atI_nat (j := 0) rfl, by show 3 ≤ sizeLine; decide, fun t3 n3 => ⟨by show 2 ≤ sizeLine; decide, fun t4 n4 => ?_⟩⟩
            have s6 : Same H5 (upd H5 t3 (.tup [ov, .str m.name, .non])) := fun b o e => by rw [upd_ne (ne_of_none e n3)]; exact e
            have h6 : (upd H5 t3 (.tup [ov, .str m.name, .non])) t3 = some (.tup [ov, .str m.name, .non]) := upd_same
            generalize upd H5 t3 (.tup [ov, .str m.name, .non]) = H6 at s6 h6 n4
            have s7 : Same H6 (upd H6 t4 (.tup [.str "override", .ref t3])) := fun b o e => by rw [upd_ne (ne_of_none e n4)]; exact e
            have s17 := (s15.trans s6).trans s7
            have hqq : ∀ d H', Same H H' → Tells CN H' d ⟨"override", owner, some m.name, none⟩ → E (.ref CN) d H' := by
              have := q
              unfold Out overW at this
              rw [if_pos hb] at this
              exact this
            have z := ref_ok (CN := CN) (G := fun d H' => E (.ref CN) d H') (w := ⟨"override", owner, some m.name, none⟩) (v := .ref t4) (H1 := upd H6 t4 (.tup [.str "override", .ref t3]))
              (.tup upd_same (by show 2 ≤ 1000; decide) (.cons (.str _ (by decide +kernel)) (.cons (.tup (s7 _ _ h6) (by show 3 ≤ 1000; decide) (.cons (hov.same (TupSame.of s17)) (.cons (.str _ hmz) (.cons .non .nil)))) .nil)))
              (head_fine hon hnm (.inr (.inr rfl))) fun d H' s tl => hqq d H' (s17.trans s) tl
            exact z
        · rw [decide_eq_false (fun z => he (by injection z))]
          exact iteF ⟨⟨_, _, rfl⟩, s4, next (by unfold otherBad; simp [he])⟩
      · rintro σ H4 ⟨⟨t5, t6, rfl⟩, s4, hmm⟩
        rw [hyl, List.take_length] at hmm
        refine ⟨⟨_, _, rfl⟩, s3.trans s4, ?_⟩
        rw [List.take_add_one, List.getElem?_eq_getElem hi, List.any_append, hn]
        simp [hmm]
    · rintro σ H3 ⟨_, s3, hn⟩
      rw [hlen, List.take_length] at hn
      have := q
      unfold Out overW at this
      rw [if_neg (by unfold overB; rw [hn]; decide)] at this
      exact this _ (s12.trans s3)
end
end WR

/-! look_at_methods. -/
namespace WR
open PySem PySem.Spec PyProof.Rows L2 PV PF T ET PB FM KE0 KR
def methW1 (cs : List Cl) (c : Cl) (ahead : List Str) (m : Fn) : Option Wrong := match headW cs (some c.name) ahead m with
  | some w => some w
  | none => overW cs (some c.name) c.above m
def methsW (cs : List Cl) (c : Cl) : List Str → List Fn → Option Wrong
  | _, [] => none
  | ahead, m :: r => match methW1 cs c ahead m with
    | some w => some w
    | none => methsW cs c (ahead ++ [m.name]) r
theorem methsW_step {cs : List Cl} {c : Cl} {l : List Fn} {i : Nat} (hn : methsW cs c [] (l.take i) = none) : methsW cs c [] l = methsW cs c ((l.take i).map Fn.name) (l.drop i) := by
  have gen : ∀ (l : List Fn) (t : List Str) (i : Nat), methsW cs c t (l.take i) = none → methsW cs c t l = methsW cs c (t ++ (l.take i).map Fn.name) (l.drop i) := by
    intro l
    induction l with
    | nil => intro t i _; simp [methsW]
    | cons f r ih =>
      intro t i hh
      cases i with
      | zero => simp
      | succ i =>
        have eq : ∀ (t : List Str) (r : List Fn), methsW cs c t (f :: r) = (match methW1 cs c t f with | some w => some w | none => methsW cs c (t ++ [f.name]) r) := fun _ _ => rfl
        rw [List.take_succ_cons, eq] at hh
        rw [eq]
        cases e : methW1 cs c t f with
        | some w => rw [e] at hh; cases hh
        | none =>
          rw [e] at hh
          show methsW cs c (t ++ [f.name]) r = _
          rw [ih _ i hh, List.take_succ_cons, List.map_cons, List.drop_succ_cons, List.append_assoc, List.singleton_append]
  exact gen l [] i hn
section
variable {P : Program} {w : World} {K : PySem.W.Frag} {mg : Str → Option Value} {base : Heap} {CN C : Addr}
def spMeths (CN C : Addr) : Sp := fun vs H Q E => ∃ (pf : Addr) (v : V) (c : Cl) (cs : List Cl), vs = [v, .ref pf] ∧ FamAt C H pf cs ∧ cs.length ≤ 12 ∧ Dv H v c.py ∧ nameB c.name = true ∧ c.methods.length ≤ 8 ∧ (∀ f ∈ c.methods, hdOk f ∧ mOk f) ∧ (∀ d ∈ cs, ∀ f ∈ d.methods, mOk f) ∧ Out CN H (methsW cs c [] c.methods) Q E
theorem ok_meths {f fK fH fL fX fO fG : Addr} {fd dK dH dL dX dO dG : FuncData} (F : Fun K "look_at_methods" "look_at_methods" s_look_at_methods f fd) (N : Nl P K mg CN) (MK : Md K C "knows" "Family.knows" s_Family_knows ["self", "kind"] fK dK) (MH : Md K C "has" "Family.has" s_Family_has ["self", "name"] fH dH)
    (ML : Md K C "line" "Family.line" s_Family_line ["self", "name"] fL dL) (X : Gd K mg "look_at_head" s_look_at_head ["family", "owner", "ahead", "function"] fX dX) (O : Gd K mg "look_at_override" s_look_at_override ["family", "owner", "above", "method"] fO dO) (G : Gd K mg "head_kinds" s_head_kinds ["function"] fG dG) (T0 : FmC K mg C) :
    FnOk P w K mg base (L2.CX P w) 10 f fd ["each", "family"] (spMeths CN C) := by
  have GX : FnOk P w K mg base (L2.CX P w) 9 fX dX ["family", "owner", "ahead", "function"] (spHead CN C) := ok_head X.F N MK MH T0
  have GO : FnOk P w K mg base (L2.CX P w) 3 fO dO ["family", "owner", "above", "method"] (spOver CN C) := ok_over O.F N ML G T0
  refine F.okX sc_look_at_methods (fun vs H Q E h => ?_) (fun cdv A outer s H vs Q E hr h => ?_)
  · obtain ⟨pf, v, c, cs, rfl, _⟩ := h
    rfl
  · obtain ⟨pf, v, c, cs, rfl, hf, hcs, hv, hnm, hl8, hok, hall, q⟩ := h
    refine ⟨_, pss_cons (ps_asg (pv 0) (pg_tup rfl (pgs_cons (pg_name (i := 2) sc_look_at_methods.nd rfl (Or.inl rfl)) (pgs_cons (pg_name (i := 3) sc_look_at_methods.nd rfl (Or.inl rfl)) (pgs_cons (pg_name (i := 4) sc_look_at_methods.nd rfl (Or.inl rfl)) (pgs_cons (pg_name (i := 5) sc_look_at_methods.nd rfl (Or.inl rfl)) pgs_nil))))))
      (pss_cons (ps_set (i := 6) sc_look_at_methods.nd rfl (Or.inl rfl) (pe_lst pa_nil))
      (pss_one (ps_for (passes_of rfl) rfl (pi_tup (pv 5)) (pg_name (i := 7) sc_look_at_methods.nd rfl (Or.inl rfl))
        (pss_cons (ps_expr (pe_callS GX hr (by rfl) X.g X.F.kp X.b (fun σ => passAt (takes_of rfl rfl rfl rfl) σ) (by exact (pa_cons (pv 1) (pa_cons (pv 2) (pa_cons (pv 6) (pa_cons (pv 7) pa_nil)))))))
        (pss_cons (ps_expr (pe_callS GO (hr.mono (by decide)) (by rfl) O.g O.F.kp O.b (fun σ => passAt (takes_of rfl rfl rfl rfl) σ) (by exact (pa_cons (pv 1) (pa_cons (pv 2) (pa_cons (pv 3) (pa_cons (pv 7) pa_nil)))))))
        (pss_one (ps_expr (pe_bm PySem.F.plainAttrs_list PySem.F.slot_list_append PySem.F.type_list_append mt_append (pv 6) (pa_cons (pe_ix ix_tup (pv 7) pe_int (fun _ _ => rfl)) pa_nil))))))))), ?_⟩
    obtain ⟨b0, ws, rfl, hb0, _, q1⟩ := hv.tupE
    obtain ⟨u0, us, rfl, g0, q2⟩ := q1.consE
    obtain ⟨u1, us, rfl, g1, q2⟩ := q2.consE
    obtain ⟨u2, us, rfl, g2, q2⟩ := q2.consE
    obtain ⟨u3, us, rfl, g3, q2⟩ := q2.consE
    obtain rfl := q2.nilE
    obtain ⟨rfl, hnl⟩ := g0.strE
    obtain ⟨a1, xs, rfl, ha1, _, r1⟩ := g3.tupE
    have hxl : xs.length = c.methods.length := by rw [r1.len, List.length_map]
    refine ⟨_, rfl, b0, _, rfl, SqT.of hb0, rfl, _, _, rfl, _, _, rfl, _, _, rfl, _, _, rfl, rfl, ?_⟩
    refine ⟨Nat.zero_le _, fun lt nlt => ?_⟩
    have s1 : Same H (upd H lt (.lst [])) := fun b o e => by rw [upd_ne (ne_of_none e nlt)]; exact e
    have hlt : (upd H lt (.lst [])) lt = some (.lst []) := upd_same
    generalize upd H lt (.lst []) = H1 at s1 hlt
    refine ⟨_, rfl, a1, rfl, ⟨xs, SqT.of (s1 _ _ ha1)⟩, ?_⟩
    refine for_tup (xs := xs) (fun i σ H3 => (∃ s7, σ = [some (.ref b0), some (.ref pf), some (.str c.name), some u1, some u2, some (.ref a1), some (.ref lt), s7]) ∧ H3 lt = some (.lst (((c.methods.take i).map Fn.name).map V.str)) ∧ Same H H3 ∧ methsW cs c [] (c.methods.take i) = none) ⟨⟨_, rfl⟩, hlt, s1, rfl⟩ (fun i σ H3 _ h => SqT.of (h.2.2.1 _ _ ha1)) ?_ ?_
    · rintro i x σ H3 hxi ⟨⟨s7, rfl⟩, hl3, k3, hn⟩
      have hi : i < c.methods.length := by
        have := (List.getElem?_eq_some_iff.mp hxi).1
        omega
      obtain ⟨v2, hv2, dv⟩ := r1.get (i := i) (d := c.methods[i].py) (by rw [List.getElem?_map, List.getElem?_eq_getElem hi]; rfl)
      obtain rfl : x = v2 := by
        rw [hxi] at hv2
        exact Option.some.inj hv2
      obtain ⟨⟨o1, o2, o3, o4⟩, o5⟩ := hok _ (List.getElem_mem hi)
      have hst : methsW cs c [] c.methods = (match methW1 cs c ((c.methods.take i).map Fn.name) c.methods[i] with | some w => some w | none => methsW cs c ((c.methods.take i).map Fn.name ++ [c.methods[i].name]) (c.methods.drop (i + 1))) := by
        rw [methsW_step hn, List.drop_eq_getElem_cons hi]
        rfl
      have hst2 : methsW cs c [] (c.methods.take (i + 1)) = methW1 cs c ((c.methods.take i).map Fn.name) c.methods[i] := by
        have hi2 : i < (c.methods.take (i + 1)).length := by rw [List.length_take]; omega
        have e2 : (c.methods.take (i + 1)).take i = c.methods.take i := by rw [List.take_take]; congr 1; omega
        have e3 : (c.methods.take (i + 1))[i] = c.methods[i] := List.getElem_take
        have e4 : (c.methods.take (i + 1)).drop (i + 1) = [] := List.drop_eq_nil_of_le (by rw [List.length_take]; omega)
        rw [methsW_step (i := i) (by rw [e2]; exact hn), List.drop_eq_getElem_cons hi2, e2, e3, e4]
        show (match methW1 cs c ((c.methods.take i).map Fn.name) c.methods[i] with | some w => some w | none => none) = _
        cases methW1 cs c ((c.methods.take i).map Fn.name) c.methods[i] <;> rfl
      have outw : ∀ wr, methW1 cs c ((c.methods.take i).map Fn.name) c.methods[i] = some wr → ∀ d H', Same H H' → Tells CN H' d wr → E (.ref CN) d H' := fun wr h => by
        have := q
        unfold Out at this
        rw [hst, h] at this
        exact this
      have hon : ∀ z, some c.name = some z → nameB z = true := fun z e => by cases e; exact hnm
      refine ⟨_, rfl, _, rfl, _, rfl, _, rfl, ?_⟩
      refine ⟨pf, lt, .str c.name, x, some c.name, (c.methods.take i).map Fn.name, c.methods[i], cs, rfl, hf.still (Still.of k3), .str _ hnl, hl3, dv.same (TupSame.of k3), hon, o1, o2, o3, o4, ?_⟩
      unfold Out
      cases e : headW cs (some c.name) ((c.methods.take i).map Fn.name) c.methods[i] with
      | some wr => exact fun d H' s t => outw wr (by unfold methW1; rw [e]) d H' (k3.trans s) t
      | none =>
        intro H4 s4
        have k4 := k3.trans s4
        refine ⟨_, rfl, _, rfl, _, rfl, _, rfl, ?_⟩
        refine ⟨pf, .str c.name, u1, x, some c.name, c.above, c.methods[i], cs, rfl, hf.still (Still.of k4), hcs, .str _ hnl, g1.same (TupSame.of k4), dv.same (TupSame.of k4), hon, o1, o5, hall, ?_⟩
        unfold Out
        cases e2 : overW cs (some c.name) c.above c.methods[i] with
        | some wr => exact fun d H' s t => outw wr (by unfold methW1; rw [e]; exact e2) d H' (k4.trans s) t
        | none =>
          intro H5 s5
          have k5 := k4.trans s5
          have hl5 := s5 _ _ (s4 _ _ hl3)
          obtain ⟨d0, es, rfl, hd0, _, w1⟩ := (dv.same (TupSame.of k5)).tupE
          obtain ⟨w0, us2, rfl, z0, w2⟩ := w1.consE
          obtain ⟨rfl, _⟩ := z0.strE
          refine ⟨_, rfl, .inl ⟨rfl, _, SqL.of hl5⟩, _, rfl, d0, _, 0, .str c.methods[i].name, rfl, rfl, SqT.of hd0, atI_nat (j := 0) rfl, lt, _, _, rfl, rfl, hl5, ?_, ?_⟩
          · rw [List.length_map, List.length_map, List.length_take]
            exact Nat.lt_of_le_of_lt (by omega : _ ≤ 30) (by decide)
          · refine ⟨⟨_, rfl⟩, ?_, fun b o e => by rw [upd_ne (ne_of_none e nlt)]; exact k5 b o e, by rw [hst2]; unfold methW1; rw [e]; exact e2⟩
            rw [upd_same, List.take_add_one, List.getElem?_eq_getElem hi, List.map_append, List.map_append]
            rfl
    · rintro σ H3 ⟨_, hl3, k3, hn⟩
      rw [hxl, List.take_length] at hn
      have := q
      unfold Out at this
      rw [hn] at this
      exact this _ k3
end
end WR

/-! What is above a class: the walk up, and the closure. -/
namespace AM
open PySem PySem.Spec PyProof.Rows L2 PV PF T ET PB FM
/-- what is told above the first class of a name -/
def abv (cs : List Cl) (n : Str) : Option Str := (findC cs n).bind Cl.above
/-- the names above -/
def upN (cs : List Cl) (nm : Option Str) : List Str := (lineOf cs [] nm).map Cl.name
def L (cs : List Cl) (n : Str) : List Str := upN cs (abv cs n)
theorem line_ind {cs : List Cl} {P : List Str → Option Str → List Cl → Prop} (h0 : ∀ seen, P seen none []) (h1 : ∀ seen n, findC cs n = none ∨ n ∈ seen → P seen (some n) [])
    (h2 : ∀ seen n c, findC cs n = some c → n ∉ seen → P (n :: seen) c.above (lineOf cs (n :: seen) c.above) → P seen (some n) (c :: lineOf cs (n :: seen) c.above)) : ∀ seen nm, P seen nm (lineOf cs seen nm) := by
  have gen : ∀ (k : Nat) (seen : List Str) (nm : Option Str), leftC cs seen ≤ k → P seen nm (lineOf cs seen nm) := by
    intro k
    induction k with
    | zero =>
      intro seen nm hk
      cases nm with
      | none => rw [lineOf_none]; exact h0 seen
      | some n =>
        cases e : findC cs n with
        | none => rw [lineOf_end (.inl e)]; exact h1 seen n (.inl e)
        | some c =>
          by_cases hs : n ∈ seen
          · rw [lineOf_end (.inr hs)]; exact h1 seen n (.inr hs)
          · have := leftC_lt e hs
            omega
    | succ k ih =>
      intro seen nm hk
      cases nm with
      | none => rw [lineOf_none]; exact h0 seen
      | some n =>
        cases e : findC cs n with
        | none => rw [lineOf_end (.inl e)]; exact h1 seen n (.inl e)
        | some c =>
          by_cases hs : n ∈ seen
          · rw [lineOf_end (.inr hs)]; exact h1 seen n (.inr hs)
          · have := leftC_lt e hs
            rw [lineOf_some e hs]
            exact h2 seen n c e hs (ih (n :: seen) c.above (by omega))
  exact fun seen nm => gen _ seen nm (Nat.le_refl _)
/-- each is there, and what comes behind is above it -/
theorem line_there {cs : List Cl} : ∀ seen nm, ∀ c ∈ lineOf cs seen nm, findC cs c.name = some c :=
  line_ind (P := fun _ _ l => ∀ c ∈ l, findC cs c.name = some c) (fun _ c h => by cases h) (fun _ _ _ c h => by cases h) fun seen n c e hs ih d hd => by
    rcases List.mem_cons.mp hd with rfl | hd
    · rw [(findC_name e).1]; exact e
    · exact ih d hd
/-- what is above a member is a member, or was seen -/
theorem line_closed {cs : List Cl} : ∀ seen nm, ∀ c ∈ lineOf cs seen nm, ∀ a d, c.above = some a → findC cs a = some d → a ∈ (lineOf cs seen nm).map Cl.name ∨ a ∈ seen :=
  line_ind (P := fun seen _ l => ∀ c ∈ l, ∀ a d, c.above = some a → findC cs a = some d → a ∈ l.map Cl.name ∨ a ∈ seen) (fun _ c h => by cases h) (fun _ _ _ c h => by cases h) fun seen n c e hs ih x hx a d ha hd => by
    have hn : c.name = n := (findC_name e).1
    rcases List.mem_cons.mp hx with rfl | hx
    · by_cases h : a ∈ n :: seen
      · rcases List.mem_cons.mp h with rfl | h
        · exact .inl (by rw [List.map_cons, hn]; exact List.mem_cons_self)
        · exact .inr h
      · refine .inl (List.mem_cons_of_mem _ ?_)
        rw [ha, lineOf_some hd h, List.map_cons, (findC_name hd).1]
        exact List.mem_cons_self
    · rcases ih x hx a d ha hd with h | h
      · exact .inl (List.mem_cons_of_mem _ h)
      · rcases List.mem_cons.mp h with rfl | h
        · exact .inl (by rw [List.map_cons, hn]; exact List.mem_cons_self)
        · exact .inr h
/-- a set that is closed holds the whole line -/
theorem line_in {cs : List Cl} {S : Str → Prop} (hS : ∀ x c a d, S x → findC cs x = some c → c.above = some a → findC cs a = some d → S a) : ∀ seen nm, (∀ a d, nm = some a → findC cs a = some d → S a) → ∀ c ∈ lineOf cs seen nm, S c.name :=
  line_ind (P := fun _ nm l => (∀ a d, nm = some a → findC cs a = some d → S a) → ∀ c ∈ l, S c.name) (fun _ _ c h => by cases h) (fun _ _ _ _ c h => by cases h) fun seen n c e hs ih h x hx => by
    have hn : c.name = n := (findC_name e).1
    have h1 : S n := h n c rfl e
    rcases List.mem_cons.mp hx with rfl | hx
    · rw [hn]; exact h1
    · exact ih (fun a d ha hd => hS n c a d h1 e ha hd) x hx
theorem L_there {cs : List Cl} {n m : Str} (h : m ∈ L cs n) : ∃ d, findC cs m = some d := by
  obtain ⟨c, hc, rfl⟩ := List.mem_map.mp h
  exact ⟨c, line_there _ _ c hc⟩
/-- L is closed -/
theorem L_trans {cs : List Cl} {n o x : Str} (ho : o ∈ L cs n) (hx : x ∈ L cs o) : x ∈ L cs n := by
  have cl : ∀ x c a d, x ∈ L cs n → findC cs x = some c → c.above = some a → findC cs a = some d → a ∈ L cs n := by
    intro x c a d hx hc ha hd
    obtain ⟨e, he, rfl⟩ := List.mem_map.mp hx
    have := line_there _ _ e he
    rw [hc] at this
    cases this
    rcases line_closed [] (abv cs n) c he a d ha hd with h | h
    · exact h
    · cases h
  obtain ⟨c, hc, rfl⟩ := List.mem_map.mp hx
  refine line_in (S := fun z => z ∈ L cs n) cl [] (abv cs o) (fun a d ha hd => ?_) c hc
  obtain ⟨e, he⟩ := L_there ho
  have : abv cs o = e.above := by unfold abv; rw [he]; rfl
  exact cl o e a d ho he (by rw [← this]; exact ha) hd
/-- a line that has seen more is a beginning of one that has seen less -/
theorem line_prefix {cs : List Cl} : ∀ (seen : List Str) (nm : Option Str) (s2 : List Str), (∀ x ∈ s2, x ∈ seen) → ∀ (j : Nat) (c : Cl), (lineOf cs seen nm)[j]? = some c → (lineOf cs s2 nm)[j]? = some c :=
  line_ind (P := fun seen nm l => ∀ (s2 : List Str), (∀ x ∈ s2, x ∈ seen) → ∀ (j : Nat) (c : Cl), l[j]? = some c → (lineOf cs s2 nm)[j]? = some c) (fun _ s2 _ j c h => by simp at h) (fun _ _ _ s2 _ j c h => by simp at h) fun seen n c e hs ih s2 h2 j d hj => by
    have hs2 : n ∉ s2 := fun z => hs (h2 n z)
    rw [lineOf_some e hs2]
    cases j with
    | zero => simpa using hj
    | succ j =>
      rw [List.getElem?_cons_succ] at hj ⊢
      exact ih (n :: s2) (fun x hx => by
        rcases List.mem_cons.mp hx with rfl | hx
        · exact List.mem_cons_self
        · exact List.mem_cons_of_mem _ (h2 x hx)) j d hj
/-- the first one above, and the others -/
theorem L_zero {cs : List Cl} {n m : Str} (h : (L cs n)[0]? = some m) : abv cs n = some m := by
  unfold L upN at h
  rw [List.getElem?_map] at h
  cases e : abv cs n with
  | none => rw [e, lineOf_none] at h; cases h
  | some a =>
    rw [e] at h
    cases e2 : findC cs a with
    | none => rw [lineOf_end (.inl e2)] at h; cases h
    | some c =>
      rw [lineOf_some e2 (by simp)] at h
      have : c.name = m := by simpa using h
      rw [← this, (findC_name e2).1]
theorem L_first {cs : List Cl} {n a : Str} {d : Cl} (h : abv cs n = some a) (hd : findC cs a = some d) : (L cs n)[0]? = some a := by
  unfold L upN
  rw [h, lineOf_some hd (by simp), List.map_cons, (findC_name hd).1]
  rfl
theorem L_none {cs : List Cl} {n : Str} (h : ∀ a d, abv cs n = some a → findC cs a = some d → False) : L cs n = [] := by
  unfold L upN
  cases e : abv cs n with
  | none => rw [lineOf_none]; rfl
  | some a =>
    cases e2 : findC cs a with
    | none => rw [lineOf_end (.inl e2)]; rfl
    | some c => exact (h a c e e2).elim
theorem L_succ {cs : List Cl} {n m : Str} {j : Nat} (h : (L cs n)[j + 1]? = some m) : ∃ o, (L cs n)[0]? = some o ∧ (L cs o)[j]? = some m := by
  have h0 := h
  unfold L upN at h
  rw [List.getElem?_map] at h
  cases e : abv cs n with
  | none => rw [e, lineOf_none] at h; cases h
  | some a =>
    rw [e] at h
    cases e2 : findC cs a with
    | none => rw [lineOf_end (.inl e2)] at h; cases h
    | some c =>
      refine ⟨a, L_first e e2, ?_⟩
      rw [lineOf_some e2 (by simp), List.getElem?_cons_succ] at h
      cases e3 : (lineOf cs [a] c.above)[j]? with
      | none => rw [e3] at h; cases h
      | some d =>
        rw [e3] at h
        have := line_prefix [a] c.above [] (fun x hx => by cases hx) j d e3
        unfold L upN
        rw [List.getElem?_map, show abv cs a = c.above by unfold abv; rw [e2]; rfl, this]
        exact h
/-- how long a line may be: names of K that were not seen -/
def leftK (K : List Str) (seen : List Str) : Nat := K.countP fun n => decide (n ∉ seen)
theorem leftK_lt {K seen : List Str} {n : Str} (h : n ∈ K) (hs : n ∉ seen) : leftK K (n :: seen) < leftK K seen := by
  unfold leftK
  induction K with
  | nil => cases h
  | cons d r ih =>
    have mono : ∀ l : List Str, l.countP (fun c => decide (c ∉ n :: seen)) ≤ l.countP fun c => decide (c ∉ seen) := fun l => List.countP_mono_left fun x _ hx => by
      simp only [decide_eq_true_eq, List.mem_cons, not_or] at hx ⊢
      exact hx.2
    rw [List.countP_cons, List.countP_cons]
    rcases List.mem_cons.mp h with rfl | h
    · have e1 : decide (n ∉ n :: seen) = false := by simp
      have e2 : decide (n ∉ seen) = true := by simpa using hs
      rw [e1, e2]
      have := mono r
      rw [if_neg (by decide), if_pos rfl]
      omega
    · have a := ih h
      by_cases e1 : d ∉ n :: seen
      · have e2 : d ∉ seen := fun z => e1 (List.mem_cons_of_mem _ z)
        simp only [e1, e2, not_false_eq_true, decide_true, if_true]
        omega
      · simp only [e1, decide_false, Bool.false_eq_true, if_false]
        omega
theorem line_len {cs : List Cl} {K : List Str} (hK : ∀ n c, findC cs n = some c → n ∈ K) : ∀ seen nm, (lineOf cs seen nm).length ≤ leftK K seen :=
  line_ind (P := fun seen _ l => l.length ≤ leftK K seen) (fun _ => Nat.zero_le _) (fun _ _ _ => Nat.zero_le _) fun seen n c e hs ih => by
    have := leftK_lt (hK n c e) hs
    rw [List.length_cons]
    omega
theorem L_len {cs : List Cl} {K : List Str} (hK : ∀ n c, findC cs n = some c → n ∈ K) (n : Str) : (L cs n).length ≤ K.length := by
  unfold L upN
  rw [List.length_map]
  exact Nat.le_trans (line_len hK [] _) List.countP_le_length
theorem nodup_len : ∀ (l K : List Str), l.Nodup → (∀ x ∈ l, x ∈ K) → l.length ≤ K.length
  | [], K, _, _ => Nat.zero_le _
  | a :: t, K, hn, h => by
    have ha := h a List.mem_cons_self
    rw [List.nodup_cons] at hn
    have := nodup_len t (K.erase a) hn.2 fun x hx => (List.mem_erase_of_ne (fun e => hn.1 (by rw [← e]; exact hx))).mpr (h x (List.mem_cons_of_mem _ hx))
    rw [List.length_erase_of_mem ha] at this
    have : 0 < K.length := List.length_pos_of_mem ha
    rw [List.length_cons]
    omega
/-! ### the rows -/
def ins (m : Str) (l : List Str) : List Str := if m ∈ l then l else l ++ [m]
theorem mem_ins {m x : Str} {l : List Str} : x ∈ ins m l ↔ x = m ∨ x ∈ l := by
  unfold ins
  split
  · exact ⟨.inr, fun h => by rcases h with rfl | h <;> assumption⟩
  · rw [List.mem_append, List.mem_singleton]
    exact Or.comm
theorem ins_nodup {m : Str} {l : List Str} (h : l.Nodup) : (ins m l).Nodup := by
  unfold ins
  split
  · exact h
  · rename_i hm
    rw [List.nodup_append]
    exact ⟨h, by simp, fun a ha b hb => by
      obtain rfl := List.mem_singleton.mp hb
      exact fun e => hm (by rw [← e]; exact ha)⟩
def rw_ (l : List Str) : List (Key × V) := l.map fun m => ((Sum.inr m : Key), V.bl true)
theorem rw_val (l : List Str) (m : Str) : valV (rw_ l) (Sum.inr m : Key) = if m ∈ l then some (.bl true) else none := by
  induction l with
  | nil => simp [rw_, valV]
  | cons a r ih =>
    by_cases e : a = m
    · rw [if_pos (by rw [e]; exact List.mem_cons_self)]
      exact valV_pos (p := ((Sum.inr a : Key), V.bl true)) (by rw [e])
    · have : valV (rw_ (a :: r)) (Sum.inr m : Key) = valV (rw_ r) (Sum.inr m : Key) := valV_neg (p := ((Sum.inr a : Key), V.bl true)) (fun z => e (by injection z))
      rw [this, ih]
      by_cases h : m ∈ r
      · rw [if_pos h, if_pos (List.mem_cons_of_mem _ h)]
      · rw [if_neg h, if_neg (fun z => by rcases List.mem_cons.mp z with z | z; exact e z.symm; exact h z)]
theorem rw_put (l : List Str) (m : Str) : putK (rw_ l) (Sum.inr m : Key) (.bl true) = rw_ (ins m l) := by
  unfold putK
  rw [valV_any, rw_val]
  unfold ins
  by_cases h : m ∈ l
  · rw [if_pos h, if_pos h]
    show (if true = true then _ else _) = _
    rw [if_pos rfl]
    unfold rw_
    rw [List.map_map]
    refine List.map_congr_left fun a _ => ?_
    by_cases e : a = m
    · simp [e]
    · simp
  · rw [if_neg h, if_neg h]
    show (if false = true then _ else _) = _
    rw [if_neg (by decide)]
    unfold rw_
    rw [List.map_append]
    rfl
theorem rw_len (l : List Str) : (rw_ l).length = l.length := List.length_map ..
/-- what the rows hold behind t turns -/
structure Rd (cs : List Cl) (R : Str → List Str) : Prop where
  sound : ∀ n m, m ∈ R n → m ∈ L cs n
  nd : ∀ n, (R n).Nodup
def Deep (cs : List Cl) (R : Str → List Str) (n : Str) (t : Nat) : Prop := ∀ j m, (L cs n)[j]? = some m → j ≤ t → m ∈ R n
theorem deep_all {cs : List Cl} {R : Str → List Str} {K : List Str} (hK : ∀ n c, findC cs n = some c → n ∈ K) {n : Str} (h : Deep cs R n K.length) : ∀ m, m ∈ L cs n → m ∈ R n := fun m hm => by
  obtain ⟨j, hj⟩ := List.getElem?_of_mem hm
  have := (List.getElem?_eq_some_iff.mp hj).1
  have := L_len hK n
  exact h j m hj (by omega)
/-- one more turn of a name -/
theorem deep_step {cs : List Cl} {R R' : Str → List Str} {n : Str} {t : Nat} (hall : ∀ o, Deep cs R o t) (hk : ∀ m ∈ R n, m ∈ R' n) (hj : ∀ o ∈ R n, ∀ x ∈ R o, x ∈ R' n) : Deep cs R' n (t + 1) := by
  intro j m hm hjt
  cases j with
  | zero => exact hk m (hall n 0 m hm (Nat.zero_le _))
  | succ j =>
    obtain ⟨o, h0, h1⟩ := L_succ hm
    exact hj o (hall n 0 o h0 (Nat.zero_le _)) m (hall o j m h1 (by omega))
end AM

/-! The law's draws. -/
namespace KA
open T
open PySem L2
/-- the feed at p, drawn from at most n times -/
def FeedAt (H : Hp) (p : Addr) (n : Nat) : Prop := ∃ a b c : Int, H p = some (.lst [.int a, .int b, .int c]) ∧ 0 ≤ a ∧ 0 ≤ b ∧ b < 10 ^ 40 ∧ 0 ≤ c ∧ c ≤ n
/-- all but p stands as it stood -/
def But (p : Addr) (H H' : Hp) : Prop := ∀ b, b ≠ p → H' b = H b
theorem But.refl (p : Addr) (H : Hp) : But p H H := fun _ _ => rfl
theorem But.trans {p : Addr} {H H1 H2 : Hp} (a : But p H H1) (b : But p H1 H2) : But p H H2 := fun c h => (b c h).trans (a c h)
theorem But.upd {p : Addr} {H : Hp} {o : HO} : But p H (upd H p o) := fun _ h => upd_ne h
theorem But.none {p q : Addr} {H H' : Hp} (a : But p H H') {o : HO} (hp : H p = some o) (h : H q = none) : H' q = none := by
  rw [a q (fun e => by rw [e, hp] at h; cases h)]
  exact h
theorem But.seq {K : PySem.W.Frag} {p q : Addr} {H H' : Hp} {xs : List V} (e : But p H H') (hq : q ≠ p) (h : SqL K H q xs) : SqL K H' q xs := by
  rcases h with (h | ⟨o, h⟩) | h
  · exact .inl (.inl ((e q hq).trans h))
  · exact .inl (.inr ⟨o, (e q hq).trans h⟩)
  · exact .inr h
theorem cut_ints (ns : List Int) (lo hi : Option Int) : ∃ ms : List Int, cutV (ns.map V.int) lo hi = ms.map V.int :=
  ⟨_, by unfold cutV; rw [← List.map_drop, ← List.map_take]⟩
def spFeed (K : PySem.W.Frag) : Sp := fun vs H Q _ => ∃ (a : Addr) (ns : List Int) (k : Nat), vs = [.ref a, .int k] ∧ SqL K H a (ns.map V.int) ∧ k ≤ 1000 ∧
  ∀ (p : Addr) (H' : Hp), H p = none → Same H H' → FeedAt H' p 0 → Q (.ref p) H'
def spDraw : Sp := fun vs H Q _ => ∃ (p : Addr) (m : Int) (n : Nat), vs = [.ref p, .int m] ∧ FeedAt H p n ∧ n ≤ 2 ^ 60 ∧ 0 < m ∧ m < 2 ^ 30 ∧
  ∀ (r : Int) (H' : Hp), 0 ≤ r → r < m → But p H H' → FeedAt H' p (n + 1) → Q (.int r) H'
/-- one of the things -/
def spOne (K : PySem.W.Frag) : Sp := fun vs H Q _ => ∃ (p : Addr) (n : Nat), FeedAt H p n ∧ n ≤ 2 ^ 60 ∧
  ((∃ (t : Addr) (xs : List V), vs = [.ref p, .ref t] ∧ t ≠ p ∧ SqL K H t xs ∧ 0 < xs.length ∧ xs.length < 2 ^ 30 ∧
    ∀ (x : V) (H' : Hp), x ∈ xs → But p H H' → FeedAt H' p (n + 1) → Q x H') ∨
   (∃ z : Str, vs = [.ref p, .str z] ∧ 0 < z.length ∧ z.length < 1000 ∧ ∀ (c : Nat) (H' : Hp), c ∈ z.cps.toList → But p H H' → FeedAt H' p (n + 1) → Q (.str ⟨#[c]⟩) H'))
section
variable {P : Program} {w : World} {K : PySem.W.Frag} {mg : Str → Option Value} {base : Heap}
theorem ok_feed {f : Addr} {fd : FuncData} (F : Fun K "_law_feed" "_law_feed" s_law_feed f fd) (mSum : mg "sum" = none) (mLen : mg "len" = none) (mMax : mg "max" = none) (mInt : mg "int" = none) : FnOk P w K mg base CX0 1 f fd ["_law_script", "_law_k"] (spFeed K) := by
  refine F.ok sc_law_feed (fun vs H Q E h => ?_) (fun cdv A outer s H vs Q E hr h => ?_)
  · obtain ⟨a, ns, k, rfl, _⟩ := h
    rfl
  · obtain ⟨a, ns, k, rfl, hS, hk, q⟩ := h
    refine ⟨_, pss_cons (ps_set (i := 2) sc_law_feed.nd rfl (Or.inl rfl) (pe_op op_add (pe_op op_mul pe_int (pv 1)) (pe_callB (cr_sum rfl) (by rfl) mSum (by decide +kernel) (pa_cons (pe_slice sl_list (pv 0) po_none (po_some pe_int)) pa_nil))))
      (pss_cons (ps_if (pt_cmpR op_lt (pv 1) (pe_callB call_len_seq (by rfl) mLen PySem.boot_len (pa_cons (pv 0) pa_nil)) (nomark _))
        (pss_one (ps_set (i := 2) sc_law_feed.nd rfl (Or.inl rfl) (pe_ix ix_list (pv 0) (pv 1) (fun _ _ => rfl)))) pss_nil)
      (pss_one (ps_ret (pe_lst (pa_cons (pe_callB (call_max2 rfl) (by rfl) mMax (by decide +kernel) (pa_cons pe_int (pa_cons (pe_op op_sub (pv 2) (pe_op op_pow pe_int pe_int)) pa_nil)))
        (pa_cons (pe_op op_mod (pe_callTy call_int1 (by rfl) mInt (by decide +kernel) (pa_cons (pe_op op_add (pe_op op_mul (pv 2) pe_int) (pe_op op_mul pe_int (pv 1))) pa_nil)) (pe_op op_add (pe_op op_pow pe_int pe_int) pe_int))
        (pa_cons pe_int pa_nil))))))), ?_⟩
    obtain ⟨ms, em⟩ := cut_ints ns none (some 1)
    refine ⟨_, rfl, _, _, rfl, rfl, .inl ⟨by decide, by decide⟩, .ref a, rfl, 1, rfl, a, _, rfl, hS, fun c nc => ?_⟩
    rw [em]
    refine ⟨c, ms, rfl, SqL.of upd_same, _, _, rfl, rfl, ?_⟩
    have s1 : Same H (upd H c (.lst (ms.map V.int))) := fun b o e => by rw [upd_ne (ne_of_none e nc)]; exact e
    have hS1 := s1.seq hS
    refine ⟨_, rfl, .ref a, rfl, a, _, rfl, .inl hS1, _, _, rfl, rfl, _, rfl, ?_⟩
    have fin : ∀ z : Int, tRet (tLst (tCons (tCB (fun xs H Q => ∃ i j, xs = [.int i, .int j] ∧ Q (.int (if j > i then j else i)) H) (tCons (tC (.int 0)) (tCons (tOp (rI0 fun i j => .int (i - j)) (tVar 2) (tOp (rI CPow fun i j => .int (i ^ j.toNat)) (tC (.int 10)) (tC (.int 18)))) tNil)))
        (tCons (tOp (rI (fun _ j => 0 < j) fun i j => .int (i % j)) (tCB (fun xs H Q => (∃ i, xs = [.int i] ∧ Q (.int i) H) ∨ ∃ k, xs = [.bl k] ∧ Q (.int (if k then 1 else 0)) H) (tCons (tOp (rI0 fun i j => .int (i + j)) (tOp (rI CMul fun i j => .int (i * j)) (tVar 2) (tC (.int 19))) (tOp (rI CMul fun i j => .int (i * j)) (tC (.int 7)) (tVar 1))) tNil))
          (tOp (rI0 fun i j => .int (i + j)) (tOp (rI CPow fun i j => .int (i ^ j.toNat)) (tC (.int 10)) (tC (.int 39))) (tC (.int 23))))
        (tCons (tC (.int 0)) tNil)))) { nx := fun _ H' => Q .non H', rt := Q } [some (.ref a), some (.int k), some (.int z)] (upd H c (.lst (ms.map V.int))) := by
      intro z
      refine ⟨_, rfl, _, _, rfl, rfl, ⟨by decide, by decide, by decide⟩, _, _, rfl, rfl, _, _, rfl, ?_⟩
      refine ⟨_, rfl, _, _, rfl, rfl, .inr ⟨by decide, by decide⟩, _, rfl, _, _, rfl, rfl, .inl ⟨by decide, by decide⟩, _, _, rfl, rfl, .inl ⟨_, rfl, ?_⟩⟩
      refine ⟨_, _, rfl, rfl, ⟨by decide, by decide, by decide⟩, _, _, rfl, rfl, _, _, rfl, rfl, (by show (0 : Int) < 10 ^ Int.toNat 39 + 23; decide +kernel), (by show 3 ≤ sizeLine; decide), fun p np => ?_⟩
      have pc : p ≠ c := fun e => by rw [e, upd_same] at np; cases np
      refine q p _ (by rw [upd_ne pc] at np; exact np) (fun b o e => ?_) ⟨_, _, 0, upd_same, ?_, ?_, ?_, Int.le_refl _, Int.le_refl _⟩
      · rw [upd_ne (ne_of_none (s1 b o e) np)]
        exact s1 b o e
      · show (0 : Int) ≤ if _ > (0 : Int) then _ else 0
        split <;> omega
      · exact Int.emod_nonneg _ (by decide +kernel)
      · refine Int.lt_trans (Int.emod_lt_of_pos _ (by decide +kernel)) (by decide +kernel)
    refine ite2 (fun e => ?_) (fun e => ?_)
    · have hlt : k < ns.length := by
        have := of_decide_eq_true e
        rw [List.length_map] at this
        omega
      refine ⟨.ref a, rfl, .int k, rfl, a, _, _, V.int ns[k], rfl, rfl, hS1, atI_nat ?_, fin _⟩
      rw [List.getElem?_map, List.getElem?_eq_getElem hlt]
      rfl
    · exact fin _
theorem ok_draw {f : Addr} {fd : FuncData} (F : Fun K "_law_draw" "_law_draw" s_law_draw f fd) (mInt : mg "int" = none) : FnOk P w K mg base CX0 1 f fd ["_law_feed_here", "_law_many"] spDraw := by
  refine F.ok sc_law_draw (fun vs H Q E h => ?_) (fun cdv A outer s H vs Q E hr h => ?_)
  · obtain ⟨p, m, n, rfl, _⟩ := h
    rfl
  · obtain ⟨p, m, n, rfl, ⟨a, b, c, hp, ha, hb, hb2, hc, hc2⟩, hn, hm, hm2, q⟩ := h
    refine ⟨_, pss_cons (ps_if (pt_cmpR op_gt (pe_ix ix_list (pv 0) pe_int (fun _ _ => rfl)) pe_int (nomark _))
        (pss_cons (ps_set (i := 2) sc_law_draw.nd rfl (Or.inl rfl) (pe_op op_fdiv (pe_ix ix_list (pv 0) pe_int (fun _ _ => rfl)) (pv 1)))
        (pss_cons (ps_set (i := 3) sc_law_draw.nd rfl (Or.inl rfl) (pe_op op_sub (pe_ix ix_list (pv 0) pe_int (fun _ _ => rfl)) (pe_op op_mul (pv 2) (pv 1))))
        (pss_cons (ps_asg (pv 2) (pg_sub (pv 0) pe_int set_list))
        (pss_one (ps_ret (pv 3)))))) pss_nil)
      (pss_cons (ps_asg (pe_op op_add (pe_ix ix_list (pv 0) pe_int (fun _ _ => rfl)) pe_int) (pg_sub (pv 0) pe_int set_list))
      (pss_cons (ps_set (i := 4) sc_law_draw.nd rfl (Or.inl rfl) (pe_op op_add (pe_ix ix_list (pv 0) pe_int (fun _ _ => rfl)) (pe_op op_mul pe_int (pe_ix ix_list (pv 0) pe_int (fun _ _ => rfl)))))
      (pss_cons (ps_set (i := 4) sc_law_draw.nd rfl (Or.inl rfl) (pe_op op_mod (pe_callTy call_int1 (by rfl) mInt (by decide +kernel) (pa_cons (pe_op op_add (pe_op op_mulW (pe_op op_mulW (pv 4) (pv 4)) (pv 4)) (pe_op op_mul pe_int (pe_ix ix_list (pv 0) pe_int (fun _ _ => rfl)))) pa_nil)) (pe_op op_add (pe_op op_pow pe_int pe_int) pe_int)))
      (pss_cons (ps_set (i := 4) sc_law_draw.nd rfl (Or.inl rfl) (pe_op op_mod (pe_callTy call_int1 (by rfl) mInt (by decide +kernel) (pa_cons (pe_op op_add (pe_op op_mulW (pv 4) (pv 4)) pe_int) pa_nil)) (pe_op op_add (pe_op op_pow pe_int pe_int) pe_int)))
      (pss_one (ps_ret (pe_op op_mod (pe_callTy call_int1 (by rfl) mInt (by decide +kernel) (pa_cons (pe_op op_fdiv (pv 4) (pe_op op_pow pe_int pe_int)) pa_nil)) (pv 1)))))))), ?_⟩
    refine ⟨_, rfl, p, _, 0, .int a, rfl, rfl, SqL.of hp, rfl, _, _, rfl, rfl, _, rfl, ?_⟩
    refine ite2 (fun e => ?_) (fun e => ?_)
    · refine ⟨_, rfl, p, _, 0, .int a, rfl, rfl, SqL.of hp, rfl, _, rfl, _, _, rfl, rfl, ⟨hm, by omega⟩, ?_⟩
      refine ⟨_, rfl, p, _, 0, .int a, rfl, rfl, SqL.of hp, rfl, _, rfl, _, rfl, _, _, rfl, rfl, .inr ⟨by omega, by omega⟩, _, _, rfl, rfl, ?_⟩
      refine ⟨_, rfl, _, rfl, p, _, 0, 0, rfl, rfl, hp, rfl, ?_⟩
      have h1 := Int.emod_add_mul_ediv a m
      have h2 := Int.emod_nonneg a (b := m) (by omega)
      have h3 := Int.emod_lt_of_pos a hm
      have h4 : a / m * m = m * (a / m) := Int.mul_comm _ _
      refine ⟨_, rfl, q _ _ (by omega) (by omega) But.upd ⟨a / m, b, c, upd_same, Int.ediv_nonneg ha (by omega), hb, hb2, hc, by omega⟩⟩
    · refine ⟨_, rfl, p, _, 2, .int c, rfl, rfl, SqL.of hp, rfl, _, _, rfl, rfl, _, rfl, p, _, 2, 2, rfl, rfl, hp, rfl, ?_⟩
      refine ⟨_, rfl, p, _, 1, .int b, rfl, rfl, SqL.of upd_same, rfl, _, rfl, p, _, 2, .int (c + 1), rfl, rfl, SqL.of upd_same, rfl, _, _, rfl, rfl, .inl ⟨by decide, by decide⟩, _, _, rfl, rfl, ?_⟩
      have z1 : (b + 6700417 * (c + 1)).natAbs < 2 ^ 140 := by
        have : (10 : Int) ^ 40 < 2 ^ 139 := by decide +kernel
        have : (2 : Int) ^ 139 + 2 ^ 90 < 2 ^ 140 := by decide +kernel
        have : (2 : Int) ^ 60 * 6700417 + 6700417 < 2 ^ 90 := by decide +kernel
        have : ((2 ^ 140 : Nat) : Int) = 2 ^ 140 := by decide +kernel
        omega
      refine ⟨_, rfl, _, rfl, _, _, rfl, rfl, wide_mul (a := 140) (b := 140) z1 z1 (by decide) (by decide) (by decide), _, rfl, _, _, rfl, rfl,
        wide_mul (a := 280) (b := 140) (by rw [Int.natAbs_mul]; exact Nat.lt_of_lt_of_le (Nat.mul_lt_mul'' z1 z1) (by decide +kernel)) z1 (by decide) (by decide) (by decide), ?_⟩
      refine ⟨_, rfl, p, _, 2, .int (c + 1), rfl, rfl, SqL.of upd_same, rfl, _, _, rfl, rfl, .inl ⟨by decide, by decide⟩, _, _, rfl, rfl, .inl ⟨_, rfl, ?_⟩⟩
      refine ⟨_, _, rfl, rfl, ⟨by decide, by decide, by decide⟩, _, _, rfl, rfl, _, _, rfl, rfl, (by show (0 : Int) < 10 ^ Int.toNat 43 + 57; decide +kernel), ?_⟩
      have z2 : ∀ x : Int, (x % (10 ^ Int.toNat 43 + 57)).natAbs < 2 ^ 150 := fun x => by
        have e1 := Int.emod_nonneg x (b := 10 ^ Int.toNat 43 + 57) (by decide +kernel)
        have e2 := Int.emod_lt_of_pos x (b := 10 ^ Int.toNat 43 + 57) (by decide +kernel)
        have e3 : (10 : Int) ^ Int.toNat 43 + 57 < 2 ^ 150 := by decide +kernel
        have e4 : ((2 ^ 150 : Nat) : Int) = 2 ^ 150 := by decide +kernel
        omega
      refine ⟨_, rfl, _, rfl, _, _, rfl, rfl, wide_mul (a := 150) (b := 150) (z2 _) (z2 _) (by decide) (by decide) (by decide), _, _, rfl, rfl, .inl ⟨_, rfl, ?_⟩⟩
      refine ⟨_, _, rfl, rfl, ⟨by decide, by decide, by decide⟩, _, _, rfl, rfl, _, _, rfl, rfl, (by show (0 : Int) < 10 ^ Int.toNat 38 + 133; decide +kernel), ?_⟩
      refine ⟨_, rfl, _, _, rfl, rfl, ⟨by decide, by decide, by decide⟩, _, _, rfl, rfl, ⟨by decide +kernel, by decide +kernel⟩, .inl ⟨_, rfl, ?_⟩⟩
      refine ⟨_, rfl, _, _, rfl, rfl, hm, q _ _ (Int.emod_nonneg _ (by omega)) (Int.emod_lt_of_pos _ hm) But.upd ⟨a, b, c + 1, upd_same, ha, hb, hb2, by omega, by omega⟩⟩
theorem ok_one {f fD : Addr} {fd fdD : FuncData} (F : Fun K "_law_one" "_law_one" s_law_one f fd) (FD : Fun K "_law_draw" "_law_draw" s_law_draw fD fdD) (bD : Binds K fdD ["_law_feed_here", "_law_many"] []) (gD : mg "_law_draw" = some (.ref fD)) (mInt : mg "int" = none) (mLen : mg "len" = none) :
    FnOk P w K mg base CX0 2 f fd ["_law_feed_here", "_law_things"] (spOne K) := by
  have GD : FnOk P w K mg base CX0 1 fD fdD ["_law_feed_here", "_law_many"] spDraw := ok_draw FD mInt
  refine F.ok sc_law_one (fun vs H Q E h => ?_) (fun cdv A outer s H vs Q E hr h => ?_)
  · obtain ⟨p, n, _, _, ⟨t, xs, rfl, _⟩ | ⟨z, rfl, _⟩⟩ := h <;> rfl
  · obtain ⟨p, n, hF, hn, h⟩ := h
    refine ⟨_, pss_one (ps_ret (pe_ix ix_seq (pv 1) (pe_call GD hr (by rfl) gD FD.kp bD .nil pass0 (pa_cons (pv 0) (pa_cons (pe_callB call_len (by rfl) mLen PySem.boot_len (pa_cons (pv 1) pa_nil)) pa_nil))) (fun _ _ => rfl))), ?_⟩
    rcases h with ⟨t, xs, rfl, ht, hs, h0, h1, q⟩ | ⟨z, rfl, h0, h1, q⟩
    · refine ⟨.ref t, rfl, .ref p, rfl, .ref t, rfl, .ref t, xs.length, rfl, .inl ⟨_, hs, rfl⟩, ?_⟩
      refine ⟨p, xs.length, n, rfl, hF, hn, by omega, by omega, fun r H' r0 r1 bt hF' => ?_⟩
      obtain ⟨j, rfl⟩ : ∃ j : Nat, r = j := ⟨r.toNat, by omega⟩
      have hj : j < xs.length := by omega
      exact .inl ⟨t, xs, j, _, rfl, rfl, bt.seq ht hs, atI_nat (List.getElem?_eq_getElem hj), q xs[j] H' (List.getElem_mem _) bt hF'⟩
    · refine ⟨.str z, rfl, .ref p, rfl, .str z, rfl, .str z, z.length, rfl, ⟨Nat.le_of_lt (small1000 (by omega)), rfl⟩, ?_⟩
      refine ⟨p, z.length, n, rfl, hF, hn, by omega, by omega, fun r H' r0 r1 bt hF' => ?_⟩
      obtain ⟨j, rfl⟩ : ∃ j : Nat, r = j := ⟨r.toNat, by omega⟩
      have hj : j < z.cps.toList.length := by
        have : z.cps.toList.length = z.length := rfl
        omega
      exact .inr (.inr ⟨z, j, z.cps.toList[j], rfl, rfl, Nat.le_of_lt (small1000 (by omega)), atI_nat (List.getElem?_eq_getElem hj), q _ H' (List.getElem_mem _) bt hF'⟩)
end
end KA

/-! _law_alike of one and the same data; what stands beside the feed. -/
namespace KI
open PySem PySem.Spec PyProof.Rows L2 KA PV T
mutual
def nodes : PyData → Nat
  | .tuple ds => 1 + nodesAll ds
  | _ => 1
def nodesAll : List PyData → Nat
  | [] => 0
  | d :: ds => nodes d + nodesAll ds
end
theorem nodesAll_append : ∀ a b : List PyData, nodesAll (a ++ b) = nodesAll a + nodesAll b
  | [], b => by simp [nodesAll]
  | d :: a, b => by
    show nodes d + nodesAll (a ++ b) = nodes d + nodesAll a + nodesAll b
    rw [nodesAll_append a b]
    omega
theorem nodes_pos : ∀ d : PyData, 1 ≤ nodes d
  | .tuple ds => by show 1 ≤ 1 + nodesAll ds; omega
  | .none => Nat.le_refl _
  | .bool _ => Nat.le_refl _
  | .int _ => Nat.le_refl _
  | .str _ => Nat.le_refl _
  | .list _ => Nat.le_refl _
  | .dict _ => Nat.le_refl _
theorem len_le : ∀ ds : List PyData, ds.length ≤ nodesAll ds
  | [] => Nat.le_refl _
  | d :: ds => by
    have h1 := nodes_pos d
    have h2 := len_le ds
    show ds.length + 1 ≤ nodes d + nodesAll ds
    omega
/-- d may be compared -/
def Good (d : PyData) : Prop := d.canLay0 = true ∧ d.depth ≤ 20
theorem canAll {ds : List PyData} : PyData.canLayAll0 ds = true ↔ ∀ d ∈ ds, d.canLay0 = true := by
  induction ds with
  | nil => simp [PyData.canLayAll0]
  | cons d ds ih => simp [PyData.canLayAll0, ih]
theorem depthAll_le {ds : List PyData} {n : Nat} : PyData.depthAll ds ≤ n ↔ ∀ d ∈ ds, d.depth ≤ n := by
  induction ds with
  | nil => simp [PyData.depthAll]
  | cons d ds ih =>
    simp only [PyData.depthAll, List.mem_cons, forall_eq_or_imp]
    rw [← ih]
    omega
theorem Good.sub {ds : List PyData} (g : Good (.tuple ds)) : ∀ d ∈ ds, Good d := fun d hd => by
  obtain ⟨g1, g2⟩ := g
  have e1 : PyData.canLayAll0 ds = true := by simpa [PyData.canLay0] using g1
  have e2 : PyData.depthAll ds + 1 ≤ 20 := by simpa [PyData.depth] using g2
  exact ⟨canAll.mp e1 d hd, depthAll_le.mp (show PyData.depthAll ds ≤ 20 by omega) d hd⟩
/-- the pairs that are still to be compared -/
def two (d : PyData) : PyData := .tuple [d, d]
theorem two_all {ds : List PyData} (g : ∀ d ∈ ds, Good d) : SeqAt.shaped (.list (ds.map two)) = true := by
  have e1 : PyData.canLayAll0 (ds.map two) = true := canAll.mpr fun d hd => by
    obtain ⟨e, he, rfl⟩ := List.mem_map.mp hd
    have := (g e he).1
    simp [two, PyData.canLay0, PyData.canLayAll0, this]
  have e2 : PyData.depthAll (ds.map two) ≤ 21 := depthAll_le.mpr fun d hd => by
    obtain ⟨e, he, rfl⟩ := List.mem_map.mp hd
    have := (g e he).2
    simp [two, PyData.depth, PyData.depthAll]
    omega
  unfold SeqAt.shaped
  simp [PyData.canLay0, PyData.depth, e1]
  omega
def isT : PyData → Bool
  | .tuple _ => true
  | _ => false
def isB : PyData → Bool
  | .bool _ => true
  | _ => false
/-- its type, as isinstance asks -/
theorem _root_.PV.Dv.ty {K : PySem.W.Frag} {H : Hp} {v : V} {d : PyData} (h : Dv H v d) : ∃ t : String, TyX K H v (.type t) ∧ PySem.W.kitOne K (.type t) (.type "bool") = some (isB d) ∧ PySem.W.kitOne K (.type t) (.type "tuple") = some (isT d) := by
  cases h with
  | non => exact ⟨"NoneType", .base .non, kit_ty (show kitB "NoneType" "bool" = some false by decide +kernel), kit_ty (show kitB "NoneType" "tuple" = some false by decide +kernel)⟩
  | bl b => exact ⟨"bool", .base (.bl b), kit_ty (show kitB "bool" "bool" = some true by decide +kernel), kit_ty (show kitB "bool" "tuple" = some false by decide +kernel)⟩
  | int i => exact ⟨"int", .base (.int i), kit_ty (show kitB "int" "bool" = some false by decide +kernel), kit_ty (show kitB "int" "tuple" = some false by decide +kernel)⟩
  | str z _ => exact ⟨"str", .base (.str z), kit_ty (show kitB "str" "bool" = some false by decide +kernel), kit_ty (show kitB "str" "tuple" = some false by decide +kernel)⟩
  | tup h _ r => exact ⟨"tuple", .base (.tup h), kit_ty (show kitB "tuple" "bool" = some false by decide +kernel), kit_ty (show kitB "tuple" "tuple" = some true by decide +kernel)⟩
theorem _root_.PV.Dv.leaf {H : Hp} {v u : V} {d : PyData} (h : Dv H v d) (h2 : Dv H u d) (ht : isT d = false) : v = u ∧ scal v u = true := by
  cases h with
  | non => cases h2; exact ⟨rfl, rfl⟩
  | bl b => cases h2; exact ⟨rfl, rfl⟩
  | int i => cases h2; exact ⟨rfl, rfl⟩
  | str z _ => cases h2; exact ⟨rfl, rfl⟩
  | tup h _ r => cases ht
theorem get2 {H : Hp} {vs : List V} {ds : List PyData} {i : Nat} {v : V} {d : PyData} (r : DvAll H vs ds) (e1 : vs[i]? = some v) (e2 : ds[i]? = some d) : Dv H v d := by
  obtain ⟨u, h1, h2⟩ := r.get e2
  rw [e1] at h1
  cases h1
  exact h2
/-- both are the same data: True -/
def spAlike : Sp := fun vs H Q _ => ∃ (x y : V) (d : PyData), vs = [x, y] ∧ Dv H x d ∧ Dv H y d ∧ Good d ∧ nodes d ≤ 1000 ∧ ∀ H', Same H H' → Q (.bl true) H'
/-- what is still to be compared: pairs at ps, of the data ds -/
structure Left (H : Hp) (l : Addr) (ps : List V) (ds : List PyData) : Prop where
  at_ : H l = some (.lst ps)
  all : DvAll H ps (ds.map two)
  good : ∀ d ∈ ds, Good d
theorem _root_.PV.DvAll.app {H : Hp} : ∀ {vs us : List V} {ds es : List PyData}, DvAll H vs ds → DvAll H us es → DvAll H (vs ++ us) (ds ++ es)
  | _, _, _, _, .nil, b => b
  | _, _, _, _, .cons h r, b => .cons h (r.app b)
theorem _root_.PV.DvAll.split {H : Hp} : ∀ {ds : List PyData} {e : PyData} {vs : List V}, DvAll H vs (ds ++ [e]) → ∃ us v, vs = us ++ [v] ∧ DvAll H us ds ∧ Dv H v e
  | [], e, _, .cons h .nil => ⟨[], _, rfl, .nil, h⟩
  | d :: ds, e, _, .cons h r => by
    obtain ⟨us, v, e1, r1, h1⟩ := r.split (ds := ds)
    exact ⟨_ :: us, v, by rw [e1]; rfl, .cons h r1, h1⟩
section
variable {P : Program} {w : World} {K : PySem.W.Frag} {mg : Str → Option Value} {base : Heap}
theorem ok_alike {f : Addr} {fd : FuncData} (F : Fun K "_law_alike" "_law_alike" s_law_alike f fd) (mIsi : mg "isinstance" = none) (mBool : mg "bool" = none) (mTup : mg "tuple" = none) (mLen : mg "len" = none) (mRng : mg "range" = none) :
    FnOk P w K mg base CX0 1 f fd ["_law_found", "_law_due"] spAlike := by
  refine F.ok sc_law_alike (fun vs H Q E h => ?_) (fun cdv A outer s H vs Q E hr h => ?_)
  · obtain ⟨x, y, d, rfl, _⟩ := h
    rfl
  · obtain ⟨x, y, d, rfl, hx, hy, hg, hn, q⟩ := h
    refine ⟨_, pss_cons (ps_set (i := 2) sc_law_alike.nd rfl (Or.inl rfl) (pe_lst (pa_cons (pe_tup (pa_cons (pv 0) (pa_cons (pv 1) pa_nil))) pa_nil)))
      (pss_cons (ps_while PassesOwn.never (pt_cmpR (op_neD hr.units) (pv 2) (pe_lst pa_nil) (nomark _))
        (pss_cons (ps_asg (pe_bm0 PySem.F.plainAttrs_list PySem.F.slot_list_pop PySem.F.type_list_pop mt_pop (pv 2)) (pg_tup rfl (pgs_cons (pg_name (i := 3) sc_law_alike.nd rfl (Or.inr rfl)) (pgs_cons (pg_name (i := 4) sc_law_alike.nd rfl (Or.inr rfl)) pgs_nil))))
        (pss_cons (ps_if (PW.pt (pw_or (pt_cmpR op_ne (pe_callB call_isi (by rfl) mIsi (by decide +kernel) (pa_cons (pv 3) (pa_cons (pe_bltn (by rfl) mBool (v := .ty "bool") (by decide +kernel) rfl) pa_nil))) (pe_callB call_isi (by rfl) mIsi (by decide +kernel) (pa_cons (pv 4) (pa_cons (pe_bltn (by rfl) mBool (v := .ty "bool") (by decide +kernel) rfl) pa_nil))) (nomark _))
            (pw_or1 (pt_cmpR op_ne (pe_callB call_isi (by rfl) mIsi (by decide +kernel) (pa_cons (pv 3) (pa_cons (pe_bltn (by rfl) mTup (v := .ty "tuple") (by decide +kernel) rfl) pa_nil))) (pe_callB call_isi (by rfl) mIsi (by decide +kernel) (pa_cons (pv 4) (pa_cons (pe_bltn (by rfl) mTup (v := .ty "tuple") (by decide +kernel) rfl) pa_nil))) (nomark _)))))
          (pss_one (ps_ret pe_bl)) pss_nil)
        (pss_one (ps_if (pt_val (pe_callB call_isi (by rfl) mIsi (by decide +kernel) (pa_cons (pv 4) (pa_cons (pe_bltn (by rfl) mTup (v := .ty "tuple") (by decide +kernel) rfl) pa_nil))))
          (pss_cons (ps_if (pt_cmpR op_ne (pe_callB call_len (by rfl) mLen PySem.boot_len (pa_cons (pv 3) pa_nil)) (pe_callB call_len (by rfl) mLen PySem.boot_len (pa_cons (pv 4) pa_nil)) (nomark _)) (pss_one (ps_ret pe_bl)) pss_nil)
          (pss_one (ps_expr (pe_bm PySem.F.plainAttrs_list PySem.F.slot_list_extend PySem.F.type_list_extend mt_extend (pv 2)
            (pa_cons (pe_lc (own := [("_law_k", 5)]) (g := gName 5) (tt := tYes) (te := tTup (tCons (tOp (rIxT K) (tVar 3) (tVar 5)) (tCons (tOp (rIxT K) (tVar 4) (tVar 5)) tNil))) rfl sc_law_alike.nd (pi_range1 (by rfl) mRng (pa_cons (pe_callB call_len (by rfl) mLen PySem.boot_len (pa_cons (pv 4) pa_nil)) pa_nil))
              (blkOk_by (N := ["_law_found", "_law_due", "_law_left", "_law_one_here", "_law_other", "_law_k"]) (sc := defScope s_law_alike) (by decide +kernel)) (fun _ _ _ _ _ => pg_name (i := 5) sc_law_alike.nd rfl (Or.inl rfl)) (fun _ _ _ _ _ => pts_nil)
              (fun _ _ _ _ _ => pe_tup (pa_cons (pe_ix ix_tup (pv 3) (pv 5) (fun _ _ => rfl)) (pa_cons (pe_ix ix_tup (pv 4) (pv 5) (fun _ _ => rfl)) pa_nil)))) pa_nil)))))
          (pss_one (ps_if (pt_cmpR op_ne (pv 3) (pv 4) (nomark _)) (pss_one (ps_ret pe_bl)) pss_nil)))))))
      (pss_one (ps_ret pe_bl))), ?_⟩
    have same_new : ∀ {H1 : Hp} {p : Addr} {o : HO}, H1 p = none → Same H1 (upd H1 p o) := fun h b u e => by rw [upd_ne (ne_of_none e h)]; exact e
    have same_at : ∀ {H1 : Hp} {p : Addr} {o : HO}, H p = none → Same H H1 → Same H (upd H1 p o) := fun h s b u e => by rw [upd_ne (ne_of_none e h)]; exact s b u e
    have tups : ∀ {H1 H2 : Hp}, Same H1 H2 → TupSame H1 H2 := fun s a xs e => s _ _ e
    have tup_at : ∀ {H1 : Hp} {p : Addr} {ps : List V} {o : HO}, H1 p = some (.lst ps) → TupSame H1 (upd H1 p o) := fun h a xs e => by
      rw [upd_ne (ne_of e h (by intro z; cases z))]
      exact e
    refine ⟨_, rfl, _, rfl, (by show 2 ≤ sizeLine; decide), fun t nt => ⟨(by show 1 ≤ sizeLine; decide), fun l nl => ?_⟩⟩
    have lt : l ≠ t := fun e => by rw [e, upd_same] at nl; cases nl
    have hl : H l = none := by rw [upd_ne lt] at nl; exact nl
    have s1 : Same H (upd (upd H t (.tup [x, y])) l (.lst [.ref t])) := same_at hl (same_new nt)
    refine ⟨fun m σ H2 => ∃ (ds : List PyData) (ps : List V) (o3 o4 o5 : Option V), σ = [some x, some y, some (.ref l), o3, o4, o5] ∧ Left H2 l ps ds ∧ nodesAll ds = m ∧ m ≤ 1000 ∧ Same H H2,
      ⟨nodes d, [d], [.ref t], none, none, none, rfl, ⟨upd_same, ?_, ?_⟩, by show nodes d + 0 = _; omega, hn, s1⟩, ?_⟩
    · refine .cons (.tup (xs := [x, y]) (by rw [upd_ne lt.symm, upd_same]) (by show 2 ≤ 1000; decide) (.cons ?_ (.cons ?_ .nil))) .nil
      · exact Dv.same (tups s1) hx
      · exact Dv.same (tups s1) hy
    · intro d' hd'
      rw [List.mem_singleton.mp hd']
      exact hg
    rintro m σ H2 ⟨ds, ps, o3, o4, o5, rfl, hL, em, hm, hS⟩
    -- left != []
    refine ⟨_, rfl, Nat.zero_le _, fun e ne => ?_⟩
    have le : l ≠ e := ne_of_none hL.at_ ne
    have s2 : Same H2 (upd H2 e (.lst [])) := same_new ne
    refine ⟨.list (ds.map two), .list [], .lst (SqL.of (by rw [upd_ne le]; exact hL.at_)) ((hL.all.same (tups s2)).dp K), .lst (SqL.of upd_same) .nil, two_all hL.good, by decide +kernel, ?_⟩
    have hS2 : Same H (upd H2 e (.lst [])) := hS.trans s2
    have hL2 : Left (upd H2 e (.lst [])) l ps ds := ⟨by rw [upd_ne le]; exact hL.at_, hL.all.same (tups s2), hL.good⟩
    generalize upd H2 e (.lst []) = H3 at hS2 hL2
    rcases List.eq_nil_or_concat ds with e0 | ⟨es, d', e0⟩
    · subst e0
      refine ⟨false, by simp [PyData.eqv, PyData.eqvAll], iteF ?_⟩
      exact q _ hS2
    · rw [List.concat_eq_append] at e0
      subst e0
      refine ⟨true, ?_, iteT ?_⟩
      · cases es <;> simp [PyData.eqv, PyData.eqvAll]
      obtain ⟨qs, v, e1, hq, hv⟩ := DvAll.split (ds := es.map two) (e := two d') (by have := hL2.all; rw [List.map_append] at this; exact this)
      subst e1
      cases hv with
      | @tup a xs _ ha _ hxs =>
      cases hxs with
      | @cons v3 _ _ _ h3 hr =>
      cases hr with
      | @cons v4 _ _ _ h4 hr =>
      cases hr
      have gd : Good d' := hL2.good d' (by simp)
      rw [nodesAll_append] at em
      have en : nodesAll [d'] = nodes d' := by show nodes d' + 0 = _; omega
      rw [en] at em
      refine ⟨fun σ' H' => ∃ (ds' : List PyData) (ps' : List V) (o3 o4 o5 : Option V), σ' = [some x, some y, some (.ref l), o3, o4, o5] ∧ Left H' l ps' ds' ∧ nodesAll ds' < m ∧ Same H H', ?_, ?_⟩
      · rintro σ' H' ⟨ds', ps', p3, p4, p5, rfl, hL', hm', hS'⟩
        exact ⟨nodesAll ds', hm', ds', ps', p3, p4, p5, rfl, hL', rfl, by omega, hS'⟩
      -- pop
      refine ⟨_, rfl, .inl ⟨rfl, _, SqL.of hL2.at_⟩, l, qs ++ [.ref a], .ref a, rfl, rfl, hL2.at_, by simp, ?_⟩
      rw [List.dropLast_concat]
      have al : a ≠ l := ne_of ha hL2.at_ (by intro z; cases z)
      have t4 : TupSame H3 (upd H3 l (.lst qs)) := tup_at hL2.at_
      have hS4 : Same H (upd H3 l (.lst qs)) := same_at hl hS2
      have ha4 := t4 _ _ ha
      have h34 := Dv.same t4 h3
      have h44 := Dv.same t4 h4
      have hq4 := hq.same t4
      have hl4 : (upd H3 l (.lst qs)) l = some (.lst qs) := upd_same
      generalize upd H3 l (.lst qs) = H4 at hS4 ha4 h34 h44 hq4 hl4
      refine ⟨a, [v3, v4], rfl, SqT.of ha4, rfl, v3, [v4], rfl, v4, [], rfl, rfl, ?_⟩
      obtain ⟨t3, ty3, kb3, kt3⟩ := h34.ty (K := K)
      obtain ⟨t4', ty4, kb4, kt4⟩ := h44.ty (K := K)
      refine ⟨_, rfl, _, _, _, _, _, rfl, .ty _, ty3, kb3, _, rfl, _, _, _, _, _, rfl, .ty _, ty4, kb4, rfl, false, by simp, iteF ?_⟩
      refine ⟨_, rfl, _, _, _, _, _, rfl, .ty _, ty3, kt3, _, rfl, _, _, _, _, _, rfl, .ty _, ty4, kt4, rfl, false, by simp, iteF ?_⟩
      refine ⟨_, rfl, _, _, _, _, _, rfl, .ty _, ty4, kt4, isT d', rfl, ?_⟩
      cases et : isT d' with
      | false =>
        refine iteF ?_
        obtain ⟨e34, hs34⟩ := h34.leaf h44 et
        refine ⟨_, rfl, _, rfl, hs34, false, by simp [e34], iteF ?_⟩
        exact ⟨es, qs, _, _, _, rfl, ⟨hl4, hq4, fun d hd => hL2.good d (by simp [hd])⟩, by have := nodes_pos d'; omega, hS4⟩
      | true =>
        refine iteT ?_
        obtain ⟨ds, rfl⟩ : ∃ ds, d' = .tuple ds := by
          cases d' <;> first | exact ⟨_, rfl⟩ | cases et
        cases h34 with
        | @tup a3 xs3 _ ha3 _ r3 =>
        cases h44 with
        | @tup a4 xs4 _ ha4' _ r4 =>
        have l3 := r3.len
        have l4 := r4.len
        refine ⟨_, rfl, .ref a3, xs3.length, rfl, .inr ⟨_, SqT.of ha3, rfl⟩, _, rfl, .ref a4, xs4.length, rfl, .inr ⟨_, SqT.of ha4', rfl⟩, rfl, false, by simp [l3, l4], iteF ?_⟩
        have hnd : nodes (.tuple ds) = 1 + nodesAll ds := rfl
        have hsz := len_le ds
        -- the pairs of the items
        refine ⟨_, rfl, .inl ⟨rfl, _, SqL.of hl4⟩, _, rfl, .ref a4, xs4.length, rfl, .inr ⟨_, SqT.of ha4', rfl⟩, (xs4.length : Int), rfl, by omega, by omega, fun D nD => ?_⟩
        have hlD : l ≠ D := ne_of_none hl4 nD
        have hDn : H D = none := hS4.free nD
        refine lc_range (n := (xs4.length : Int).toNat) (lo := 0) (fun i H5 => ∃ acc, H5 D = some (.lst acc) ∧ DvAll H5 acc ((ds.take i).map two) ∧ Same H4 H5) ⟨[], upd_same, .nil, same_new nD⟩ ?_ ?_
        · rintro i H5 hi ⟨acc, hacc, hdv, hS5⟩
          have hi4 : i < xs4.length := by omega
          have hi3 : i < xs3.length := by omega
          have hid : i < ds.length := by omega
          refine ⟨rfl, iteT (B := ∃ acc, H5 D = some (HO.lst acc) ∧ DvAll H5 acc (List.map two (List.take (i + 1) ds)) ∧ Same H4 H5) ?_⟩
          have hlen : acc.length = i := by
            have := hdv.len
            rw [List.length_map, List.length_take] at this
            omega
          have hD5 : ∀ {b : Addr} {o : HO}, H4 b = some o → b ≠ D := fun e => ne_of_none e nD
          refine ⟨_, rfl, _, rfl, a3, xs3, _, xs3[i], rfl, rfl, SqT.of (hS5 _ _ ha3), atI_nat (by simp [List.getElem?_eq_getElem hi3]), ?_⟩
          refine ⟨_, rfl, _, rfl, a4, xs4, _, xs4[i], rfl, rfl, SqT.of (hS5 _ _ ha4'), atI_nat (by simp [List.getElem?_eq_getElem hi4]), ?_⟩
          refine ⟨by show 2 ≤ sizeLine; decide, fun p np => ?_⟩
          have pD : D ≠ p := ne_of_none hacc np
          refine ⟨acc, by rw [upd_ne pD]; exact hacc, Nat.lt_of_le_of_lt (by omega) (small1000 (n := 1000) (by omega)), acc ++ [.ref p], upd_same, ?_, fun b o e => ?_⟩
          · have t6 : TupSame H5 (upd (upd H5 p (.tup [xs3[i], xs4[i]])) D (.lst (acc ++ [.ref p]))) := fun b xs e => by
              rw [upd_ne (ne_of e hacc (by intro z; cases z)), upd_ne (ne_of_none e np)]
              exact e
            rw [List.take_add_one, List.getElem?_eq_getElem hid, List.map_append]
            refine (hdv.same t6).app (.cons (.tup (xs := [xs3[i], xs4[i]]) (by rw [upd_ne pD.symm, upd_same]) (by show 2 ≤ 1000; decide) (.cons ?_ (.cons ?_ .nil))) .nil)
            · exact ((get2 r3 (List.getElem?_eq_getElem hi3) (List.getElem?_eq_getElem hid)).same (tups hS5)).same t6
            · exact ((get2 r4 (List.getElem?_eq_getElem hi4) (List.getElem?_eq_getElem hid)).same (tups hS5)).same t6
          · rw [upd_ne (hD5 e), upd_ne (ne_of_none (hS5 b o e) np)]
            exact hS5 b o e
        · rintro H5 ⟨acc, hacc, hdv, hS5⟩
          have hnt : (xs4.length : Int).toNat = ds.length := by omega
          rw [hnt, List.take_length] at hdv
          have hl5 := hS5 _ _ hl4
          have hq5 := hq4.same (tups hS5)
          refine ⟨l, D, qs, acc, rfl, rfl, hl5, hacc, ?_, es ++ ds, qs ++ acc, _, _, _, rfl, ⟨upd_same, ?_, fun d hd => ?_⟩, by rw [nodesAll_append]; omega, same_at hl (hS4.trans hS5)⟩
          · have e1 := hq5.len
            have e2 := hdv.len
            have e3 := len_le es
            rw [List.length_map] at e1 e2
            exact Nat.le_of_lt (small1000 (by omega))
          · rw [List.map_append]
            exact (hq5.app hdv).same (tup_at hl5)
          · rcases List.mem_append.mp hd with hd | hd
            · exact hL2.good d (by simp [hd])
            · exact gd.sub d hd
end
end KI
namespace KK
open PySem PySem.Spec PyProof.Rows L2 KA KI PV T
/-- all but p is kept -/
def Kept (p : Addr) (H H' : Hp) : Prop := ∀ b o, b ≠ p → H b = some o → H' b = some o
theorem Kept.trans {p : Addr} {H H1 H2 : Hp} (a : Kept p H H1) (b : Kept p H1 H2) : Kept p H H2 := fun c o n h => b c o n (a c o n h)
theorem Kept.of_but {p : Addr} {H H' : Hp} (b : But p H H') : Kept p H H' := fun c o n h => (b c n).trans h
theorem Kept.of_same {p : Addr} {H H' : Hp} (b : Same H H') : Kept p H H' := fun c o n h => b c o h
theorem Kept.new {p q : Addr} {H : Hp} {o : HO} (h : H q = none) : Kept p H (upd H q o) := fun b u n e => by rw [upd_ne (ne_of_none e h)]; exact e
theorem Kept.tups {p : Addr} {H H' : Hp} {n : Nat} (k : Kept p H H') (hF : FeedAt H p n) : TupSame H H' := fun a xs e => by
  obtain ⟨x, y, z, h, _⟩ := hF
  exact k a _ (ne_of e h (by intro z; cases z)) e
theorem feed_new {H : Hp} {p q : Addr} {n : Nat} {o : HO} (hF : FeedAt H p n) (h : H q = none) : FeedAt (upd H q o) p n := by
  obtain ⟨x, y, z, e, r⟩ := hF
  exact ⟨x, y, z, by rw [upd_ne (ne_of_none e h)]; exact e, r⟩
theorem feed_ne {H : Hp} {p q : Addr} {n : Nat} (hF : FeedAt H p n) (h : H q = none) : q ≠ p := by
  obtain ⟨x, y, z, e, r⟩ := hF
  exact (ne_of_none e h).symm
theorem draw_k {H : Hp} {p : Addr} {m : Int} {n : Nat} {Q : VK} {E : XK} (hF : FeedAt H p n) (hn : n ≤ 2 ^ 60) (h0 : 0 < m) (h1 : m < 2 ^ 30) (k : ∀ (r : Int) (H' : Hp), 0 ≤ r → r < m → Kept p H H' → FeedAt H' p (n + 1) → Q (.int r) H') :
    spDraw [.ref p, .int m] H Q E := ⟨p, m, n, rfl, hF, hn, h0, h1, fun r H' a b c d => k r H' a b (.of_but c) d⟩
theorem one_lst {K : PySem.W.Frag} {H : Hp} {p L : Addr} {n : Nat} {xs : List V} {Q : VK} {E : XK} (hF : FeedAt H p n) (hn : n ≤ 2 ^ 60) (nL : H L = none) (h0 : 0 < xs.length) (h1 : xs.length < 2 ^ 30)
    (k : ∀ (x : V) (H' : Hp), x ∈ xs → Kept p H H' → FeedAt H' p (n + 1) → Q x H') : spOne K [.ref p, .ref L] (upd H L (.lst xs)) Q E :=
  ⟨p, n, feed_new hF nL, hn, .inl ⟨L, xs, rfl, feed_ne hF nL, SqL.of upd_same, h0, h1, fun x H' hx bt hF' => k x H' hx ((Kept.new nL).trans (.of_but bt)) hF'⟩⟩
theorem kept_free {H H' : Hp} {p a : Addr} {m : Nat} (k : Kept p H H') (hF : FeedAt H' p m) (h : H' a = none) : H a = none := by
  cases e : H a with
  | none => rfl
  | some o =>
    rw [k a o (feed_ne hF h) e] at h
    cases h
end KK

/-! _law_above. -/
namespace AB
open PySem PySem.Spec PyProof.Rows L2 PV PF T ET PB FM AM
theorem for_keys {d : Addr} {od : Obj} {kvs : List (Key × V)} {g : TG} {tb : TS} {D : Ends} {σ : L2.St} {H : Hp} (Pv : Nat → L2.St → Hp → Prop) (h0 : Pv 0 σ H) (hl : ∀ i σ H, i ≤ kvs.length → Pv i σ H → H d = some (.frz od (.dK kvs)))
    (hs : ∀ i k v σ H, kvs[i]? = some (k, v) → Pv i σ H → g (kV k) σ H fun σ2 H2 => tb { D with nx := Pv (i + 1), ct := Pv (i + 1), bk := D.nx } σ2 H2) (hd : ∀ σ H, Pv kvs.length σ H → D.nx σ H) :
    ∃ W : Nat → Nat → L2.St → Hp → Prop, (∃ m, W 0 m σ H) ∧ ∀ i m σ H, W i m σ H →
      ((Itk d od kvs).stop i H ∧ D.nx σ H) ∨ ((Itk d od kvs).go i H ∧ ∃ N : L2.St → Hp → Prop, (∀ σ' H', N σ' H' → ∃ m', m' < m ∧ W (i + 1) m' σ' H') ∧ ∀ x H', (Itk d od kvs).yld i H x H' → g x σ H' fun σ2 H2 => tb { D with nx := N, ct := N, bk := D.nx } σ2 H2) := by
  refine ⟨fun i m σ H => m = kvs.length - i ∧ i ≤ kvs.length ∧ Pv i σ H, ⟨kvs.length, by simp, Nat.zero_le _, h0⟩, ?_⟩
  rintro i m σ H ⟨rfl, hi, p⟩
  have q := hl i σ H hi p
  by_cases hlt : i < kvs.length
  · refine .inr ⟨⟨q, hlt⟩, Pv (i + 1), fun σ' H' p' => ⟨kvs.length - (i + 1), by omega, rfl, hlt, p'⟩, fun x H' y => ?_⟩
    obtain ⟨e, k, v, hk, ex⟩ := y
    subst e
    subst ex
    exact hs i k v σ _ hk p
  · have e : i = kvs.length := by omega
    subst e
    exact .inl ⟨⟨q, Nat.le_refl _⟩, hd σ H p⟩
theorem put_same {kvs : List (Key × V)} {k : Key} {v u : V} (h : valV kvs k = some u) : (putK kvs k v).length = kvs.length := by
  unfold putK
  rw [valV_any, h]
  show (if true = true then _ else _ : List (Key × V)).length = _
  rw [if_pos rfl, List.length_map]
/-- the rows of the names Ns: the dict at d2 holds at each name the dict at A n, of the names R n -/
structure RowsAt (H : Hp) (d2 : Addr) (A : Str → Addr) (R : Str → List Str) (Ns : Str → Prop) (N : Nat) : Prop where
  tab : ∃ kvs2, H d2 = some (.dK kvs2) ∧ kvs2.length ≤ N ∧ ∀ n, Ns n → valV kvs2 (Sum.inr n : Key) = some (.ref (A n))
  row : ∀ n, Ns n → H (A n) = some (.dK (rw_ (R n)))
  inj : ∀ n m, Ns n → Ns m → A n = A m → n = m
theorem RowsAt.ne {H : Hp} {d2 : Addr} {A : Str → Addr} {R : Str → List Str} {Ns : Str → Prop} {N : Nat} (r : RowsAt H d2 A R Ns N) {n : Str} (h : Ns n) (hR : ∀ m v, valV (rw_ (R n)) (Sum.inr m : Key) = some v → v = .bl true) : A n ≠ d2 := fun e => by
  obtain ⟨kvs2, h1, _, h3⟩ := r.tab
  have h2 := r.row n h
  rw [e, h1] at h2
  cases h2
  have := hR n _ (h3 n h)
  cases this
theorem rw_true {l : List Str} : ∀ m v, valV (rw_ l) (Sum.inr m : Key) = some v → v = .bl true := fun m v h => by
  rw [rw_val] at h
  split at h
  · cases h; rfl
  · cases h
theorem RowsAt.keep {H H' : Hp} {d2 : Addr} {A : Str → Addr} {R : Str → List Str} {Ns : Str → Prop} {N : Nat} (r : RowsAt H d2 A R Ns N) (k : ∀ a kvs, H a = some (.dK kvs) → H' a = some (.dK kvs)) : RowsAt H' d2 A R Ns N := by
  obtain ⟨kvs2, h1, h2, h3⟩ := r.tab
  exact ⟨⟨kvs2, k _ _ h1, h2, h3⟩, fun n hn => k _ _ (r.row n hn), r.inj⟩
theorem Holds.keep {H H' : Hp} {kvs : List (Key × V)} {cs : List Cl} (h : Holds H kvs cs) (s : TupSame H H') : Holds H' kvs cs := Holds.same h s
def there (cs : List Cl) (n : Str) : Prop := ∃ c, findC cs n = some c
theorem Holds.get {H : Hp} {kvs : List (Key × V)} {cs : List Cl} (h : Holds H kvs cs) {n : Str} {c : Cl} (e : findC cs n = some c) : ∃ v, valV kvs (Sum.inr n : Key) = some v ∧ Dv H v c.py := by
  have := h n
  rw [e] at this
  exact this
theorem Holds.none {H : Hp} {kvs : List (Key × V)} {cs : List Cl} (h : Holds H kvs cs) {n : Str} (e : findC cs n = none) : valV kvs (Sum.inr n : Key) = Option.none := by
  have := h n
  rw [e] at this
  exact this
theorem Holds.some {H : Hp} {kvs : List (Key × V)} {cs : List Cl} (h : Holds H kvs cs) (n : Str) : (valV kvs (Sum.inr n : Key)).isSome = (findC cs n).isSome := by
  cases e : findC cs n with
  | none => rw [Holds.none h e]; rfl
  | some c =>
    obtain ⟨v, e2, _⟩ := Holds.get h e
    rw [e2]
    rfl
theorem key_there {H : Hp} {kvs : List (Key × V)} {cs : List Cl} {ks : List Str} (h : Holds H kvs cs) (hk : kvs.map (·.1) = ks.map Sum.inr) {i : Nat} {k : Key} {v : V} (hi : kvs[i]? = some (k, v)) : ∃ n, k = Sum.inr n ∧ ks[i]? = some n ∧ there cs n := by
  have e : (kvs.map (·.1))[i]? = some k := by rw [List.getElem?_map, hi]; rfl
  rw [hk, List.getElem?_map] at e
  cases e2 : ks[i]? with
  | none => rw [e2] at e; cases e
  | some n =>
    rw [e2] at e
    have e3 : (Sum.inr n : Key) = k := by simpa using e
    refine ⟨n, e3.symm, rfl, ?_⟩
    cases e4 : findC cs n with
    | some c => exact ⟨c, e4⟩
    | none =>
      have := Holds.none h e4
      have hm : (k, v) ∈ kvs := List.mem_of_getElem? hi
      have : (valV kvs (Sum.inr n : Key)).isSome = true := by
        rw [← valV_any]
        exact List.any_eq_true.mpr ⟨(k, v), hm, by simp [e3]⟩
      rw [Holds.none h e4] at this
      cases this
theorem there_key {H : Hp} {kvs : List (Key × V)} {cs : List Cl} {ks : List Str} (h : Holds H kvs cs) (hk : kvs.map (·.1) = ks.map Sum.inr) {n : Str} {c : Cl} (hc : findC cs n = some c) : n ∈ ks := by
  obtain ⟨v, e, _⟩ := Holds.get h hc
  have : (valV kvs (Sum.inr n : Key)).isSome = true := by rw [e]; rfl
  rw [← valV_any] at this
  obtain ⟨p, hp, e2⟩ := List.any_eq_true.mp this
  have e2 : p.1 = Sum.inr n := of_decide_eq_true e2
  have : (Sum.inr n : Key) ∈ kvs.map (·.1) := List.mem_map.mpr ⟨p, hp, e2⟩
  rw [hk] at this
  obtain ⟨m, hm, e3⟩ := List.mem_map.mp this
  injection e3 with e3
  rw [← e3]
  exact hm
theorem RowsAt.put {H : Hp} {d2 p : Addr} {A : Str → Addr} {R : Str → List Str} {Ns Ns' : Str → Prop} {N N' : Nat} {kvs2 : List (Key × V)} {n : Str} (r : RowsAt H d2 A R Ns N) (h1 : H d2 = some (.dK kvs2)) (hp : H p = none) (hN : (putK kvs2 (Sum.inr n : Key) (.ref p)).length ≤ N') (l : List Str) (hNs : ∀ m, Ns' m → m = n ∨ Ns m) :
    RowsAt (upd (upd H p (.dK (rw_ l))) d2 (.dK (putK kvs2 (Sum.inr n : Key) (.ref p)))) d2 (fun m => if m = n then p else A m) (fun m => if m = n then l else R m) Ns' N' := by
  obtain ⟨kvs3, g1, g2, g3⟩ := r.tab
  rw [h1] at g1
  cases g1
  have hpd : p ≠ d2 := (ne_of_none h1 hp).symm
  have hA : ∀ m, Ns m → A m ≠ p := fun m hm => ne_of_none (r.row m hm) hp
  refine ⟨⟨_, upd_same, hN, fun m hm => ?_⟩, fun m hm => ?_, fun a b ha hb e => ?_⟩
  · rw [valV_put]
    by_cases e : m = n
    · rw [if_pos (by rw [e]), if_pos e]
    · rw [if_neg (fun z => e (by injection z)), if_neg e]
      exact g3 m ((hNs m hm).resolve_left e)
  · by_cases e : m = n
    · rw [if_pos e, if_pos e, upd_ne hpd, upd_same]
    · have hm' := (hNs m hm).resolve_left e
      rw [if_neg e, if_neg e, upd_ne (r.ne hm' rw_true), upd_ne (hA m hm')]
      exact r.row m hm'
  · by_cases e1 : a = n
    · by_cases e2 : b = n
      · rw [e1, e2]
      · rw [if_pos e1, if_neg e2] at e
        exact (hA b ((hNs b hb).resolve_left e2) e.symm).elim
    · by_cases e2 : b = n
      · rw [if_neg e1, if_pos e2] at e
        exact (hA a ((hNs a ha).resolve_left e1) e).elim
      · rw [if_neg e1, if_neg e2] at e
        exact r.inj a b ((hNs a ha).resolve_left e1) ((hNs b hb).resolve_left e2) e
theorem RowsAt.insert {H : Hp} {d2 : Addr} {A : Str → Addr} {R : Str → List Str} {Ns : Str → Prop} {N : Nat} {n : Str} (r : RowsAt H d2 A R Ns N) (hn : Ns n) (l : List Str) : RowsAt (upd H (A n) (.dK (rw_ l))) d2 A (fun m => if m = n then l else R m) Ns N := by
  obtain ⟨kvs3, g1, g2, g3⟩ := r.tab
  refine ⟨⟨kvs3, by rw [upd_ne (r.ne hn rw_true).symm]; exact g1, g2, g3⟩, fun m hm => ?_, r.inj⟩
  by_cases e : m = n
  · rw [if_pos e, e, upd_same]
  · rw [if_neg e, upd_ne (fun z => e (r.inj m n hm hn z))]
    exact r.row m hm
def R0 (cs : List Cl) (n : Str) : List Str := match AM.abv cs n with
  | some a => if (findC cs a).isSome = true then [a] else []
  | none => []
theorem R0_rd (cs : List Cl) : AM.Rd cs (R0 cs) := by
  refine ⟨fun n m hm => ?_, fun n => ?_⟩
  · unfold R0 at hm
    cases e : AM.abv cs n with
    | none => rw [e] at hm; cases hm
    | some a =>
      rw [e] at hm
      have hm : m ∈ (if (findC cs a).isSome = true then [a] else []) := hm
      cases e2 : findC cs a with
      | none => rw [e2] at hm; cases hm
      | some d =>
        rw [e2] at hm
        have hm : m ∈ [a] := hm
        obtain rfl := List.mem_singleton.mp hm
        exact List.mem_of_getElem? (L_first e e2)
  · unfold R0
    split
    · split <;> simp
    · simp
theorem R0_deep (cs : List Cl) (n : Str) : AM.Deep cs (R0 cs) n 0 := by
  intro j m hm hj
  obtain rfl : j = 0 := by omega
  have e := L_zero hm
  obtain ⟨d, hd⟩ := L_there (List.mem_of_getElem? hm)
  unfold R0
  rw [e]
  show m ∈ (if (findC cs m).isSome = true then [m] else [])
  rw [hd]
  exact List.mem_singleton.mpr rfl
def spAbv : Sp := fun vs H Q _ => ∃ (v : V) (cs : List Cl), vs = [v] ∧ Dv H v (.tuple (cs.map Cl.py)) ∧ cs.length ≤ 12 ∧
  ∀ (t d1 d2 : Addr) (kvs1 : List (Key × V)) (A : Str → Addr) (R : Str → List Str) (H' : Hp), Same H H' → H' t = some (.tup [.ref d1, .ref d2]) → H' d1 = some (.dK kvs1) → Holds H' kvs1 cs → RowsAt H' d2 A R (there cs) 12 → (∀ n, there cs n → ∀ m, m ∈ R n ↔ m ∈ L cs n) → (∀ n, there cs n → (R n).length ≤ 12) → Q (.ref t) H'
structure Ab (mg : Str → Option Value) : Prop where
  list : mg "list" = none
  len : mg "len" = none
  rng : mg "range" = none
section
variable {P : Program} {w : World} {K : PySem.W.Frag} {mg : Str → Option Value} {base : Heap}
theorem ok_abv {f : Addr} {fd : FuncData} (F : Fun K "_law_above" "_law_above" s_law_above f fd) (X : Ab mg) : FnOk P w K mg base CX0 1 f fd ["_law_classes"] spAbv := by
  refine F.ok sc_law_above (fun vs H Q E h => ?_) (fun cdv A outer s H vs Q E hr h => ?_)
  · obtain ⟨v, cs, rfl, _⟩ := h
    rfl
  · obtain ⟨v, cs, rfl, hv, hcs, q⟩ := h
    have hu := hu_of hr
    refine ⟨_, pss_cons (ps_set (i := 1) sc_law_above.nd rfl (Or.inl rfl) pe_dnewK)
      (pss_cons (ps_for PassesOwn.never rfl (pi_tup (pv 0)) (pg_name (i := 2) sc_law_above.nd rfl (Or.inl rfl)) (pss_one (ps_expr (pe_dsetd (pv 1) (pe_ix ix_tup (pv 2) pe_int (fun _ _ => rfl)) (pv 2) ⟨by rfl, by rfl, by rfl, by rfl⟩))))
      (pss_cons (ps_set (i := 3) sc_law_above.nd rfl (Or.inl rfl) pe_dnewK)
      (pss_cons (ps_lock (ps_for PassesOwn.never rfl (pi_keys (pv 1)) (pg_name (i := 4) sc_law_above.nd rfl (Or.inl rfl))
        (pss_cons (ps_dput hu (pv 3) (pv 4) pe_dnewK rfl)
        (pss_one (ps_if (pt_cmp (pc_dinN hu (pe_ix ix_tup (pe_dget hu (pv 1) (pv 4) (fun _ _ => rfl)) pe_int (fun _ _ => rfl)) (pv 1)))
          (pss_one (ps_dput hu (pv 3) (pv 4) (pe_disp (pps_cons (pe_ix ix_tup (pe_dget hu (pv 1) (pv 4) (fun _ _ => rfl)) pe_int (fun _ _ => rfl)) pe_bl pps_nil) rfl rfl (by intro z; cases z) (by decide)) rfl)) pss_nil)))))
      (pss_cons (ps_for PassesOwn.never rfl (pi_range1 (by rfl) X.rng (pa_cons (pe_callB call_lenD (by rfl) X.len PySem.boot_len (pa_cons (pv 1) pa_nil)) pa_nil)) (pg_name (i := 5) sc_law_above.nd rfl (Or.inl rfl))
        (pss_one (ps_lock (ps_for PassesOwn.never rfl (pi_keys (pv 1)) (pg_name (i := 4) sc_law_above.nd rfl (Or.inl rfl))
          (pss_one (ps_for PassesOwn.never rfl (pi_list (pe_callTy (call_list_dK rfl) (by rfl) X.list (by decide +kernel) (pa_cons (pe_dget hu (pv 3) (pv 4) (fun _ _ => rfl)) pa_nil))) (pg_name (i := 6) sc_law_above.nd rfl (Or.inl rfl))
            (pss_one (ps_for PassesOwn.never rfl (pi_list (pe_callTy (call_list_dK rfl) (by rfl) X.list (by decide +kernel) (pa_cons (pe_dget hu (pv 3) (pv 6) (fun _ _ => rfl)) pa_nil))) (pg_name (i := 7) sc_law_above.nd rfl (Or.inl rfl))
              (pss_cons (ps_set (i := 8) sc_law_above.nd rfl (Or.inl rfl) (pe_dget hu (pv 3) (pv 4) (fun _ _ => rfl)))
              (pss_one (ps_dput hu (pv 8) (pv 7) pe_bl rfl)))))))))))
      (pss_one (ps_ret (pe_tup (pa_cons (pv 1) (pa_cons (pv 3) pa_nil))))))))), ?_⟩
    intro d1 n1
    obtain ⟨a, xs, rfl, ha, _, r1⟩ := hv.tupE
    have hxl : xs.length = cs.length := by rw [r1.len, List.length_map]
    have new : ∀ {H1 : Hp} {t : Addr} {o : HO}, H1 t = none → Same H1 (upd H1 t o) := fun n b o e => by rw [upd_ne (ne_of_none e n)]; exact e
    have at1 : ∀ {H1 : Hp} {o : HO}, Same H H1 → Same H (upd H1 d1 o) := fun k b u e => by rw [upd_ne (ne_of_none e n1)]; exact k b u e
    refine ⟨_, rfl, a, rfl, ⟨xs, SqT.of (new n1 _ _ ha)⟩, ?_⟩
    refine for_tup (xs := xs) (fun i σ H' => ∃ (s2 : Option V) (kvs : List (Key × V)) (ks : List Str), σ = [some (.ref a), some (.ref d1), s2, none, none, none, none, none, none] ∧ H' d1 = some (.dK kvs) ∧ Holds H' kvs (cs.take i) ∧ kvs.map (·.1) = ks.map Sum.inr ∧ ks.Nodup ∧ kvs.length ≤ i ∧ Same H H')
      ⟨none, [], [], rfl, upd_same, (fun n => rfl), rfl, List.nodup_nil, Nat.le_refl _, new n1⟩ (fun i σ H' _ h => by obtain ⟨_, _, _, _, _, _, _, _, _, k⟩ := h; exact SqT.of (k _ _ ha)) ?_ ?_
    · rintro i x σ H1 hxi ⟨s2, kvs, ks, rfl, hd, hh, hk, hnd, hl, k1⟩
      have hi : i < cs.length := by
        have := (List.getElem?_eq_some_iff.mp hxi).1
        omega
      obtain ⟨v2, hv2, dv⟩ := r1.get (i := i) (d := cs[i].py) (by rw [List.getElem?_map, List.getElem?_eq_getElem hi]; rfl)
      obtain rfl : x = v2 := by
        rw [hxi] at hv2
        exact Option.some.inj hv2
      have dv1 := dv.same (TupSame.of k1)
      obtain ⟨b, ws, rfl, hb, w0, w1⟩ := above_at dv1
      obtain ⟨p1, p2⟩ := hh.step hi dv1
      refine ⟨_, rfl, d1, rfl, .inl ⟨kvs, .inl hd⟩, _, rfl, b, ws, 0, .str cs[i].name, rfl, rfl, SqT.of hb, atI_nat (j := 0) w0, _, rfl, kvs, Sum.inr cs[i].name, hd, rfl, Nat.lt_of_le_of_lt (by omega : kvs.length ≤ 12) (by decide), fun u hu2 => ?_, fun hnone => ?_⟩
      · exact ⟨_, kvs, ks, rfl, hd, p1 u hu2, hk, hnd, by omega, k1⟩
      · have ts : TupSame H1 (upd H1 d1 (.dK (putK kvs (Sum.inr cs[i].name : Key) (.ref b)))) := fun c xs e => by
          rw [upd_ne (ne_of e hd (by intro z; cases z))]
          exact e
        refine ⟨_, _, ks ++ [cs[i].name], rfl, upd_same, (p2 hnone).same ts, ?_, ?_, ?_, at1 k1⟩
        · rw [putK_new hnone, List.map_append, hk, List.map_append]
          rfl
        · rw [List.nodup_append]
          refine ⟨hnd, by simp, fun c hc d hd2 => ?_⟩
          obtain rfl := List.mem_singleton.mp hd2
          intro e
          have hm : (Sum.inr c : Key) ∈ kvs.map (·.1) := by rw [hk]; exact List.mem_map.mpr ⟨c, hc, rfl⟩
          obtain ⟨p, hp, e2⟩ := List.mem_map.mp hm
          have : (valV kvs (Sum.inr cs[i].name : Key)).isSome = true := by
            rw [← valV_any]
            exact List.any_eq_true.mpr ⟨p, hp, by rw [e2, e]; simp⟩
          rw [hnone] at this
          cases this
        · have := putK_len kvs (Sum.inr cs[i].name) (.ref b)
          omega
    rintro σ H1 ⟨s2, kvs1, ks, rfl, hd1, hh, hk, hnd, hl, k1⟩
    rw [hxl, List.take_length] at hh
    have hl1 : kvs1.length ≤ 12 := by omega
    have hkl : ks.length = kvs1.length := by
      have := congrArg List.length hk
      rw [List.length_map, List.length_map] at this
      omega
    -- rows
    intro d2 n2
    have hd1' : (upd H1 d2 (.dK [])) d1 = some (.dK kvs1) := by rw [upd_ne (ne_of_none hd1 n2)]; exact hd1
    have hd2' : (upd H1 d2 (.dK [])) d2 = some (.dK []) := upd_same
    have d12 : d1 ≠ d2 := ne_of_none hd1 n2
    have nH2 : H d2 = none := k1.free n2
    have k2 : Same H (upd H1 d2 (.dK [])) := k1.trans (new n2)
    have hh2 : Holds (upd H1 d2 (.dK [])) kvs1 cs := hh.same (TupSame.of (new n2))
    generalize upd H1 d2 (.dK []) = H2 at hd1' hd2' k2 hh2
    refine ⟨d1, .dK kvs1, hd1', trivial, fun od => ?_⟩
    refine ⟨_, rfl, d1, od, rfl, .inl ⟨kvs1, upd_same, ?_⟩⟩
    have tsz : ∀ {H' : Hp} {u o : HO}, H' d1 = some u → (∀ xs, u ≠ .tup xs) → TupSame H' (upd H' d1 o) := fun h hne c xs e => by
      rw [upd_ne (ne_of e h (fun z => hne xs z.symm))]
      exact e
    have fz : ∀ {o : Obj} {u : HO} (xs : List V), HO.frz o u ≠ .tup xs := fun xs z => by cases z
    refine for_keys (fun i σ H' => ∃ (s4 : Option V) (A : Str → Addr) (R : Str → List Str), σ = [some (.ref a), some (.ref d1), s2, some (.ref d2), s4, none, none, none, none] ∧ H' d1 = some (.frz od (.dK kvs1)) ∧ RowsAt H' d2 A R (fun n => n ∈ ks.take i) i ∧ (∀ n ∈ ks.take i, R n = R0 cs n ∧ H (A n) = none) ∧ Holds H' kvs1 cs ∧ Same H H')
      ⟨none, fun _ => d1, fun _ => [], rfl, upd_same, ⟨⟨[], by rw [upd_ne d12.symm]; exact hd2', Nat.le_refl _, (fun n hn => by cases hn)⟩, (fun n hn => by cases hn), (fun n m hn => by cases hn)⟩, (fun n hn => by cases hn), hh2.same (tsz hd1' (fun xs z => by cases z)), at1 k2⟩ (fun i σ H' _ h => by obtain ⟨_, _, _, _, h, _⟩ := h; exact h) ?_ ?_
    · rintro i k v σ H3 hki ⟨s4, A, R, rfl, hf, hr3, hR, hh3, k3⟩
      obtain ⟨n, rfl, hni, c, hc⟩ := key_there hh3 hk hki
      have hilt : i < ks.length := (List.getElem?_eq_some_iff.mp hni).1
      obtain ⟨kvs2, g1, g2, g3⟩ := hr3.tab
      have htk : ks.take (i + 1) = ks.take i ++ [n] := by rw [List.take_add_one, hni]; rfl
      -- rows[n] = {}
      intro p np
      have nHp : H p = none := k3.free np
      have hdp : (upd H3 p (.dK [])) d2 = some (.dK kvs2) := by rw [upd_ne (ne_of_none g1 np)]; exact g1
      refine ⟨_, rfl, _, rfl, d2, _, rfl, DPut.k (k := Sum.inr n) hdp (Nat.lt_of_le_of_lt (by omega : kvs2.length ≤ 12) (by decide)), ?_⟩
      have hr4 : RowsAt (upd (upd H3 p (.dK [])) d2 (.dK (putK kvs2 (Sum.inr n : Key) (.ref p)))) d2 (fun m => if m = n then p else A m) (fun m => if m = n then [] else R m) (fun m => m ∈ ks.take (i + 1)) (i + 1) :=
        hr3.put g1 np (by have := putK_len kvs2 (Sum.inr n) (.ref p); omega) [] fun m hm => by
          rw [htk] at hm
          rcases List.mem_append.mp hm with hm | hm
          · exact .inr hm
          · exact .inl (List.mem_singleton.mp hm)
      have d1p : d1 ≠ p := ne_of_none hf np
      have hf4 : (upd (upd H3 p (.dK [])) d2 (.dK (putK kvs2 (Sum.inr n : Key) (.ref p)))) d1 = some (.frz od (.dK kvs1)) := by rw [upd_ne d12, upd_ne d1p]; exact hf
      have k4 : Same H (upd (upd H3 p (.dK [])) d2 (.dK (putK kvs2 (Sum.inr n : Key) (.ref p)))) := fun b o e => by
        rw [upd_ne (ne_of_none e nH2), upd_ne (ne_of_none (k3 b o e) np)]
        exact k3 b o e
      have t4 : TupSame H3 (upd (upd H3 p (.dK [])) d2 (.dK (putK kvs2 (Sum.inr n : Key) (.ref p)))) := fun b xs e => by
        rw [upd_ne (ne_of e g1 (by intro z; cases z)), upd_ne (ne_of_none e np)]
        exact e
      have hh4 := hh3.same t4
      generalize upd (upd H3 p (.dK [])) d2 (.dK (putK kvs2 (Sum.inr n : Key) (.ref p))) = H4 at hr4 hf4 k4 hh4
      obtain ⟨u, hu1, hu2⟩ := Holds.get hh4 hc
      obtain ⟨b, ws, rfl, hb, w0, w1⟩ := above_at hu2
      have habv : AM.abv cs n = c.above := by unfold AM.abv; rw [hc]; rfl
      have get : DGet H4 d1 (.str n) (some (.ref b)) := .inl ⟨kvs1, Sum.inr n, .inr ⟨od, hf4⟩, rfl, hu1.symm⟩
      refine ⟨_, rfl, _, rfl, d1, .ref b, rfl, get, b, ws, 1, nameV c.above, rfl, rfl, SqT.of hb, atI_nat (j := 1) w1, _, rfl, ?_⟩
      have stay : R0 cs n = [] → ∃ (s4 : Option V) (A : Str → Addr) (R : Str → List Str), [some (V.ref a), some (.ref d1), s2, some (.ref d2), some (.str n), none, none, none, none] = [some (V.ref a), some (.ref d1), s2, some (.ref d2), s4, none, none, none, none] ∧ H4 d1 = some (.frz od (.dK kvs1)) ∧ RowsAt H4 d2 A R (fun n => n ∈ ks.take (i + 1)) (i + 1) ∧ (∀ n ∈ ks.take (i + 1), R n = R0 cs n ∧ H (A n) = none) ∧ Holds H4 kvs1 cs ∧ Same H H4 := fun e => by
        refine ⟨_, _, _, rfl, hf4, hr4, fun m hm => ?_, hh4, k4⟩
        by_cases em : m = n
        · show (if m = n then [] else R m) = _ ∧ H (if m = n then p else A m) = none
          rw [if_pos em, if_pos em, em, e]
          exact ⟨rfl, nHp⟩
        · show (if m = n then [] else R m) = _ ∧ H (if m = n then p else A m) = none
          rw [if_neg em, if_neg em]
          rw [htk] at hm
          rcases List.mem_append.mp hm with hm | hm
          · exact hR m hm
          · exact (em (List.mem_singleton.mp hm)).elim
      cases ea : c.above with
      | none =>
        refine .inr ⟨d1, kvs1, rfl, rfl, .inr ⟨od, hf4⟩, false, rfl, iteF (stay ?_)⟩
        unfold R0
        rw [habv, ea]
      | some z =>
        refine .inl ⟨d1, _, rfl, .inl ⟨kvs1, Sum.inr z, .inr ⟨od, hf4⟩, rfl, rfl⟩, _, rfl, ?_⟩
        rw [Holds.some hh4 z]
        cases ez : findC cs z with
        | none =>
          refine iteF (stay ?_)
          unfold R0
          rw [habv, ea]
          show (if (findC cs z).isSome = true then [z] else []) = []
          rw [ez]
          rfl
        | some dz =>
          refine iteT ?_
          obtain ⟨kvs4, e1, e2, e3⟩ := hr4.tab
          intro p2 np2
          have hf5 : (upd H4 p2 (.dK [])) d1 = some (.frz od (.dK kvs1)) := by rw [upd_ne (ne_of_none hf4 np2)]; exact hf4
          have hb5 : (upd H4 p2 (.dK [])) b = some (.tup ws) := by rw [upd_ne (ne_of_none hb np2)]; exact hb
          refine ⟨_, rfl, _, rfl, d1, .ref b, rfl, .inl ⟨kvs1, Sum.inr n, .inr ⟨od, hf5⟩, rfl, hu1.symm⟩, b, ws, 1, nameV c.above, rfl, rfl, SqT.of hb5, atI_nat (j := 1) w1, ?_⟩
          refine ⟨upd_same, [((Sum.inr z : Key), V.bl true)], by rw [ea]; rfl, by show 1 ≤ 15; decide, ?_⟩
          have em : mergeK [] [((Sum.inr z : Key), V.bl true)] = rw_ [z] := rw_put [] z
          rw [em]
          have uu : upd (upd H4 p2 (.dK [])) p2 (.dK (rw_ [z])) = upd H4 p2 (.dK (rw_ [z])) := upd_upd
          rw [uu]
          have hdp2 : (upd H4 p2 (.dK (rw_ [z]))) d2 = some (.dK kvs4) := by rw [upd_ne (ne_of_none e1 np2)]; exact e1
          have hmem : n ∈ ks.take (i + 1) := by rw [htk]; exact List.mem_append.mpr (.inr (List.mem_singleton.mpr rfl))
          refine ⟨_, rfl, _, rfl, d2, _, rfl, DPut.k (k := Sum.inr n) hdp2 (Nat.lt_of_le_of_lt (by omega : kvs4.length ≤ 13) (by decide)), ?_⟩
          have hr6 := hr4.put (Ns' := fun m => m ∈ ks.take (i + 1)) (N' := i + 1) e1 np2 (by rw [put_same (e3 n hmem)]; exact e2) [z] fun m hm => .inr hm
          refine ⟨_, _, _, rfl, by rw [upd_ne d12, upd_ne (ne_of_none hf4 np2)]; exact hf4, hr6, fun m hm => ?_, hh4.same (fun b xs e => by rw [upd_ne (ne_of e e1 (by intro z; cases z)), upd_ne (ne_of_none e np2)]; exact e), fun b o e => ?_⟩
          · by_cases em : m = n
            · show (if m = n then [z] else _) = _ ∧ H (if m = n then p2 else _) = none
              rw [if_pos em, if_pos em, em]
              refine ⟨?_, k4.free np2⟩
              unfold R0
              rw [habv, ea]
              show [z] = (if (findC cs z).isSome = true then [z] else [])
              rw [ez]
              rfl
            · show (if m = n then [z] else (if m = n then [] else R m)) = _ ∧ H (if m = n then p2 else (if m = n then p else A m)) = none
              rw [if_neg em, if_neg em, if_neg em, if_neg em]
              rw [htk] at hm
              rcases List.mem_append.mp hm with hm | hm
              · exact hR m hm
              · exact (em (List.mem_singleton.mp hm)).elim
          · rw [upd_ne (ne_of_none e nH2), upd_ne (ne_of_none (k4 b o e) np2)]
            exact k4 b o e
    rintro σ H3 ⟨s4, A, R, rfl, hf, hr3, hR, hh3, k3⟩
    refine ⟨hf, ?_⟩
    have tkA : ks.take kvs1.length = ks := by rw [← hkl, List.take_length]
    rw [tkA] at hR
    have thk : ∀ n, there cs n → n ∈ ks := fun n hn => by
      obtain ⟨c, hc⟩ := hn
      exact there_key hh3 hk hc
    have rAd1 : ∀ (H' : Hp) (A' : Str → Addr) (R' : Str → List Str) (n : Str), Holds H' kvs1 cs → RowsAt H' d2 A' R' (there cs) 12 → there cs n → H' d1 = some (.dK kvs1) → A' n ≠ d1 := fun H' A' R' n hh' hr' hn hd' e => by
      have h2 := hr'.row n hn
      rw [e, hd'] at h2
      cases h2
      obtain ⟨c, hc⟩ := hn
      obtain ⟨v, e1, e2⟩ := Holds.get hh' hc
      have := rw_true n v e1
      rw [this] at e2
      cases e2
    have toFz : ∀ (H' : Hp) (A' : Str → Addr) (R' : Str → List Str) (o : HO), (∀ n, there cs n → A' n ≠ d1) → RowsAt H' d2 A' R' (there cs) 12 → RowsAt (upd H' d1 o) d2 A' R' (there cs) 12 := fun H' A' R' o hA hr' => by
      obtain ⟨kvs2, e1, e2, e3⟩ := hr'.tab
      exact ⟨⟨kvs2, by rw [upd_ne d12.symm]; exact e1, e2, e3⟩, fun n hn => by rw [upd_ne (hA n hn)]; exact hr'.row n hn, hr'.inj⟩
    have frzA : ∀ (H' : Hp) (A' : Str → Addr) (R' : Str → List Str) (n : Str) (od : Obj), RowsAt H' d2 A' R' (there cs) 12 → there cs n → H' d1 = some (.frz od (.dK kvs1)) → A' n ≠ d1 := fun H' A' R' n od hr' hn hd' e => by
      have h2 := hr'.row n hn
      rw [e, hd'] at h2
      cases h2
    have hr3' : RowsAt H3 d2 A (R0 cs) (there cs) 12 := by
      obtain ⟨kvs2, e1, e2, e3⟩ := hr3.tab
      refine ⟨⟨kvs2, e1, by omega, fun n hn => e3 n (by rw [tkA]; exact thk n hn)⟩, fun n hn => ?_, fun n m hn hm => hr3.inj n m (by rw [tkA]; exact thk n hn) (by rw [tkA]; exact thk m hm)⟩
      rw [← (hR n (thk n hn)).1]
      exact hr3.row n (by rw [tkA]; exact thk n hn)
    have hrX : ∀ n, there cs n → A n ≠ d1 := fun n hn => frzA H3 A (R0 cs) n od hr3' hn hf
    have hAn : ∀ n, there cs n → H (A n) = none := fun n hn => (hR n (thk n hn)).2
    have hr5 := toFz H3 A (R0 cs) (.dK kvs1) hrX hr3'
    have hh5 : Holds (upd H3 d1 (.dK kvs1)) kvs1 cs := hh3.same (tsz hf fz)
    have k5 : Same H (upd H3 d1 (.dK kvs1)) := at1 k3
    have hd5 : (upd H3 d1 (.dK kvs1)) d1 = some (.dK kvs1) := upd_same
    generalize upd H3 d1 (.dK kvs1) = H5 at hr5 hh5 k5 hd5
    have kmap : ∀ l : List Str, (rw_ l).map (fun kv => kV kv.1) = l.map V.str := fun l => by
      unfold rw_
      rw [List.map_map]
      rfl
    refine ⟨_, rfl, d1, kvs1, rfl, hd5, _, rfl, by omega, by omega, ?_⟩
    refine for_range (lo := 0) (n := ((kvs1.length : Nat) : Int).toNat) (fun t σ H' => ∃ (R : Str → List Str) (s4 s5 s6 s7 s8 : Option V), σ = [some (.ref a), some (.ref d1), s2, some (.ref d2), s4, s5, s6, s7, s8] ∧ H' d1 = some (.dK kvs1) ∧ RowsAt H' d2 A R (there cs) 12 ∧ AM.Rd cs R ∧ (∀ n, AM.Deep cs R n t) ∧ Holds H' kvs1 cs ∧ Same H H')
      ⟨R0 cs, _, _, _, _, _, rfl, hd5, hr5, R0_rd cs, R0_deep cs, hh5, k5⟩ ?_ ?_
    · rintro t σ H6 ht ⟨R, s4, s5, s6, s7, s8, rfl, hd6, hr6, rd6, dp6, hh6, k6⟩
      refine ⟨d1, .dK kvs1, hd6, trivial, fun od => ?_⟩
      refine ⟨_, rfl, d1, od, rfl, .inl ⟨kvs1, upd_same, ?_⟩⟩
      refine for_keys (fun i σ H' => ∃ (R : Str → List Str) (s4 s6 s7 s8 : Option V), σ = [some (.ref a), some (.ref d1), s2, some (.ref d2), s4, some (.int (0 + (t : Nat))), s6, s7, s8] ∧ H' d1 = some (.frz od (.dK kvs1)) ∧ RowsAt H' d2 A R (there cs) 12 ∧ AM.Rd cs R ∧ (∀ n, AM.Deep cs R n t) ∧ (∀ n ∈ ks.take i, AM.Deep cs R n (t + 1)) ∧ Holds H' kvs1 cs ∧ Same H H')
        ⟨R, _, _, _, _, rfl, upd_same, toFz _ _ _ _ (fun n hn => rAd1 H6 A R n hh6 hr6 hn hd6) hr6, rd6, dp6, (fun n hn => by cases hn), hh6.same (tsz hd6 (fun xs z => by cases z)), at1 k6⟩ (fun i σ H' _ h => by obtain ⟨_, _, _, _, _, _, h, _⟩ := h; exact h) ?_ ?_
      · rintro i k v σ H7 hki ⟨R, s4, s6, s7, s8, rfl, hf7, hr7, rd7, dp7, dq7, hh7, k7⟩
        obtain ⟨n, rfl, hni, hth⟩ := key_there hh7 hk hki
        have htk : ks.take (i + 1) = ks.take i ++ [n] := by rw [List.take_add_one, hni]; rfl
        obtain ⟨kvs2, g1, g2, g3⟩ := hr7.tab
        have lenR : ∀ R' : Str → List Str, AM.Rd cs R' → ∀ m, (R' m).length ≤ 12 := fun R' rd m => by
          have := nodup_len (R' m) ks (rd.nd m) fun x hx => thk x (L_there (rd.sound m x hx))
          omega
        refine ⟨_, rfl, _, rfl, d2, .ref (A n), rfl, .inl ⟨kvs2, Sum.inr n, .inl g1, rfl, (g3 n hth).symm⟩, A n, rw_ (R n), rfl, hr7.row n hth, fun l nl => ⟨l, rfl, ⟨_, SqL.of upd_same⟩, ?_⟩⟩
        rw [kmap]
        have keepNew : ∀ {H' : Hp} {R' : Str → List Str} {l : Addr} {o : HO}, H' l = none → RowsAt H' d2 A R' (there cs) 12 → RowsAt (upd H' l o) d2 A R' (there cs) 12 := fun nl hr' => hr'.keep fun b kvs e => by rw [upd_ne (ne_of_none e nl)]; exact e
        refine for_list (K := K) (a := l) (xs := (R n).map V.str) (fun j σ H' => ∃ (R' : Str → List Str) (s6 s7 s8 : Option V), σ = [some (.ref a), some (.ref d1), s2, some (.ref d2), some (.str n), some (.int (0 + (t : Nat))), s6, s7, s8] ∧ H' d1 = some (.frz od (.dK kvs1)) ∧ RowsAt H' d2 A R' (there cs) 12 ∧ AM.Rd cs R' ∧ (∀ m, m ≠ n → R' m = R m) ∧ (∀ x ∈ R n, x ∈ R' n) ∧ (∀ o ∈ (R n).take j, ∀ x ∈ R o, x ∈ R' n) ∧ H' l = some (.lst ((R n).map V.str)) ∧ Holds H' kvs1 cs ∧ Same H H')
          ⟨R, _, _, _, rfl, by rw [upd_ne (ne_of_none hf7 nl)]; exact hf7, keepNew nl hr7, rd7, fun _ _ => rfl, fun _ h => h, (fun o ho => by cases ho), upd_same, hh7.same (TupSame.of (new nl)), k7.trans (new nl)⟩ (fun j σ H' _ h => by obtain ⟨_, _, _, _, _, _, _, _, _, _, _, h, _⟩ := h; exact SqL.of h) ?_ ?_
        · rintro j x σ H8 hxj ⟨R', s6, s7, s8, rfl, hf8, hr8, rd8, ho8, hn8, hp8, hl8, hh8, k8⟩
          rw [List.getElem?_map] at hxj
          cases eo : (R n)[j]? with
          | none => rw [eo] at hxj; cases hxj
          | some o =>
          rw [eo] at hxj
          obtain rfl : x = .str o := (Option.some.inj hxj).symm
          have hom : o ∈ R n := List.mem_of_getElem? eo
          have hoL : o ∈ L cs n := rd7.sound n o hom
          have hoth : there cs o := L_there hoL
          have htj : (R n).take (j + 1) = (R n).take j ++ [o] := by rw [List.take_add_one, eo]; rfl
          obtain ⟨kvs3, f1, f2, f3⟩ := hr8.tab
          refine ⟨_, rfl, _, rfl, d2, .ref (A o), rfl, .inl ⟨kvs3, Sum.inr o, .inl f1, rfl, (f3 o hoth).symm⟩, A o, rw_ (R' o), rfl, hr8.row o hoth, fun l2 nl2 => ⟨l2, rfl, ⟨_, SqL.of upd_same⟩, ?_⟩⟩
          rw [kmap]
          refine for_list (K := K) (a := l2) (xs := (R' o).map V.str) (fun kk σ H' => ∃ (R'' : Str → List Str) (s7 s8 : Option V), σ = [some (.ref a), some (.ref d1), s2, some (.ref d2), some (.str n), some (.int (0 + (t : Nat))), some (.str o), s7, s8] ∧ H' d1 = some (.frz od (.dK kvs1)) ∧ RowsAt H' d2 A R'' (there cs) 12 ∧ AM.Rd cs R'' ∧ (∀ m, m ≠ n → R'' m = R m) ∧ (∀ x ∈ R' n, x ∈ R'' n) ∧ (∀ x ∈ (R' o).take kk, x ∈ R'' n) ∧ H' l = some (.lst ((R n).map V.str)) ∧ H' l2 = some (.lst ((R' o).map V.str)) ∧ Holds H' kvs1 cs ∧ Same H H')
            ⟨R', _, _, rfl, by rw [upd_ne (ne_of_none hf8 nl2)]; exact hf8, keepNew nl2 hr8, rd8, ho8, fun _ h => h, (fun x hx => by cases hx), by rw [upd_ne (ne_of_none hl8 nl2)]; exact hl8, upd_same, hh8.same (TupSame.of (new nl2)), k8.trans (new nl2)⟩ (fun kk σ H' _ h => by obtain ⟨_, _, _, _, _, _, _, _, _, _, _, h, _⟩ := h; exact SqL.of h) ?_ ?_
          · rintro kk x σ H9 hxk ⟨R'', s7, s8, rfl, hf9, hr9, rd9, ho9, hn9, hp9, hl9, hm9, hh9, k9⟩
            rw [List.getElem?_map] at hxk
            cases em : (R' o)[kk]? with
            | none => rw [em] at hxk; cases hxk
            | some y =>
            rw [em] at hxk
            obtain rfl : x = .str y := (Option.some.inj hxk).symm
            have hyL : y ∈ L cs n := L_trans hoL (rd8.sound o y (List.mem_of_getElem? em))
            obtain ⟨kvs4, e1, e2, e3⟩ := hr9.tab
            refine ⟨_, rfl, _, rfl, d2, .ref (A n), rfl, .inl ⟨kvs4, Sum.inr n, .inl e1, rfl, (e3 n hth).symm⟩, ?_⟩
            refine ⟨_, rfl, _, rfl, A n, _, rfl, DPut.k (k := Sum.inr y) (hr9.row n hth) (Nat.lt_of_le_of_lt (by rw [rw_len]; exact lenR R'' rd9 n : (rw_ (R'' n)).length ≤ 12) (by decide)), ?_⟩
            rw [rw_put]
            have nA : ∀ {b : Addr} {o : HO}, H9 b = some o → (∀ kvs, o ≠ .dK kvs) → b ≠ A n := fun h hne => ne_of h (hr9.row n hth) (hne _)
            refine ⟨fun m => if m = n then ins y (R'' n) else R'' m, _, _, rfl, by rw [upd_ne (nA hf9 (fun kvs z => by cases z))]; exact hf9, hr9.insert hth _, ⟨fun m z hz => ?_, fun m => ?_⟩, fun m hm => ?_, fun z hz => ?_, fun z hz => ?_, by rw [upd_ne (nA hl9 (fun kvs z => by cases z))]; exact hl9, by rw [upd_ne (nA hm9 (fun kvs z => by cases z))]; exact hm9, hh9.same (fun b xs e => by rw [upd_ne (nA e (fun kvs z => by cases z))]; exact e), fun b u e => by rw [upd_ne (ne_of_none e (hAn n hth))]; exact k9 b u e⟩
            · by_cases e : m = n
              · have hz : z ∈ (if m = n then ins y (R'' n) else R'' m) := hz
                rw [if_pos e] at hz
                rw [e]
                rcases mem_ins.mp hz with rfl | hz
                · exact hyL
                · exact rd9.sound n z hz
              · have hz : z ∈ (if m = n then ins y (R'' n) else R'' m) := hz
                rw [if_neg e] at hz
                exact rd9.sound m z hz
            · show (if m = n then ins y (R'' n) else R'' m).Nodup
              by_cases e : m = n
              · rw [if_pos e]; exact ins_nodup (rd9.nd n)
              · rw [if_neg e]; exact rd9.nd m
            · show (if m = n then ins y (R'' n) else R'' m) = R m
              rw [if_neg hm]
              exact ho9 m hm
            · show z ∈ (if n = n then ins y (R'' n) else R'' n)
              rw [if_pos rfl]
              exact mem_ins.mpr (.inr (hn9 z hz))
            · show z ∈ (if n = n then ins y (R'' n) else R'' n)
              rw [if_pos rfl]
              rw [List.take_add_one, em] at hz
              rcases List.mem_append.mp hz with hz | hz
              · exact mem_ins.mpr (.inr (hp9 z hz))
              · have hz : z ∈ [y] := hz
                exact mem_ins.mpr (.inl (List.mem_singleton.mp hz))
          · rintro σ H9 ⟨R'', s7, s8, rfl, hf9, hr9, rd9, ho9, hn9, hp9, hl9, hm9, hh9, k9⟩
            rw [List.length_map, List.take_length] at hp9
            refine ⟨R'', _, _, _, rfl, hf9, hr9, rd9, ho9, fun x hx => hn9 x (hn8 x hx), fun o' ho' x hx => ?_, hl9, hh9, k9⟩
            rw [htj] at ho'
            rcases List.mem_append.mp ho' with ho' | ho'
            · exact hn9 x (hp8 o' ho' x hx)
            · obtain rfl := List.mem_singleton.mp ho'
              refine hp9 x ?_
              by_cases e : o' = n
              · rw [e]; exact hn8 x (by rw [← e]; exact hx)
              · rw [ho8 o' e]; exact hx
        · rintro σ H8 ⟨R', s6, s7, s8, rfl, hf8, hr8, rd8, ho8, hn8, hp8, hl8, hh8, k8⟩
          rw [List.length_map, List.take_length] at hp8
          refine ⟨R', _, _, _, _, rfl, hf8, hr8, rd8, fun m j x hx hj => ?_, fun m hm => ?_, hh8, k8⟩
          · by_cases e : m = n
            · rw [e] at hx ⊢
              exact hn8 x (dp7 n j x hx hj)
            · rw [ho8 m e]
              exact dp7 m j x hx hj
          · by_cases e : m = n
            · rw [e]
              exact deep_step dp7 hn8 hp8
            · rw [htk] at hm
              rcases List.mem_append.mp hm with hm | hm
              · intro j x hx hj
                rw [ho8 m e]
                exact dq7 m hm j x hx hj
              · exact (e (List.mem_singleton.mp hm)).elim
      · rintro σ H7 ⟨R, s4, s6, s7, s8, rfl, hf7, hr7, rd7, dp7, dq7, hh7, k7⟩
        rw [tkA] at dq7
        refine ⟨hf7, R, _, _, _, _, _, rfl, upd_same, toFz _ _ _ _ (fun n hn => frzA H7 A R n od hr7 hn hf7) hr7, rd7, fun n j x hx hj => ?_, hh7.same (tsz hf7 fz), at1 k7⟩
        have hth : there cs n := by
          cases e : findC cs n with
          | some c => exact ⟨c, e⟩
          | none =>
            have : L cs n = [] := L_none (fun b d hb hd => by unfold AM.abv at hb; rw [e] at hb; cases hb)
            rw [this] at hx
            simp at hx
        exact dq7 n (thk n hth) j x hx hj
    · rintro σ H6 ⟨R, s4, s5, s6, s7, s8, rfl, hd6, hr6, rd6, dp6, hh6, k6⟩
      rw [Int.toNat_natCast] at dp6
      refine ⟨_, rfl, _, rfl, by show 2 ≤ sizeLine; decide, fun tt nt => ?_⟩
      refine q tt d1 d2 kvs1 A R _ (k6.trans (new nt)) upd_same (new nt _ _ hd6) (hh6.same (TupSame.of (new nt))) (hr6.keep fun b kvs e => new nt _ _ e) (fun n hn m => ⟨rd6.sound n m, fun hm => ?_⟩) fun n hn => ?_
      · refine deep_all (K := ks) (fun x c hc => thk x ⟨c, hc⟩) ?_ m hm
        rw [hkl]
        exact dp6 n
      · have := nodup_len (R n) ks (rd6.nd n) fun x hx => thk x (L_there (rd6.sound n x hx))
        omega
end
end AB

/-! Helpers for the law's own list of what is wrong. -/
namespace WF
open PySem PySem.Spec PyProof.Rows L2 PV PF T ET PB PP FM AM AB WR
theorem inV_str (n : Str) : ∀ (ns : List Str), inV (.str n) (ns.map V.str) = decide (n ∈ ns)
  | [] => rfl
  | m :: ns => by
    have ih := inV_str n ns
    unfold inV at ih ⊢
    rw [List.map_cons, List.any_cons, ih]
    have e : eqV (.str m) (.str n) = decide (m = n) := rfl
    rw [e]
    by_cases h : m = n
    · simp [h]
    · have h2 : ¬ n = m := fun z => h z.symm
      simp [h, h2]
theorem flat_strs (ns : List Str) : (ns.map V.str).all flatV = true := by
  rw [List.all_map]
  exact List.all_eq_true.mpr fun _ _ => rfl
theorem cut_take {xs : List V} {i : Nat} (h : i < xs.length) : cutV xs none (some (i : Int)) = xs.take i := by
  have e : HT.sIx xs.length xs.length (some (i : Int)) = i := by
    unfold HT.sIx
    simp only
    rw [if_neg (by omega)]
    simp
    omega
  have e0 : HT.sIx xs.length 0 none = 0 := by
    unfold HT.sIx
    simp
  unfold cutV
  rw [e, e0]
  rfl
theorem cut_not {xs : List V} {i : Nat} (h : i < xs.length) : ¬ (HT.sIx xs.length 0 none = 0 ∧ HT.sIx xs.length xs.length (some (i : Int)) = xs.length) := by
  rintro ⟨_, h2⟩
  have e : HT.sIx xs.length xs.length (some (i : Int)) = i := by
    unfold HT.sIx
    simp only
    rw [if_neg (by omega)]
    simp
    omega
  omega
/-- [x[0] for x in t] -/
theorem lc_fst {K : PySem.W.Frag} {a D : Addr} {xs : List V} {ns : List Str} {H : Hp} {σ : L2.St} {m : Nat} {Qd : Hp → Prop} (hD : H D = none) (hm : m < σ.length) (ha : H a = some (.tup xs)) (hl : xs.length = ns.length) (hs : ns.length ≤ 1000)
    (he : ∀ (i : Nat) x, xs[i]? = some x → ∃ b ws nm, x = V.ref b ∧ H b = some (.tup (.str nm :: ws)) ∧ ns[i]? = some nm) (q : ∀ H', Same H H' → H' D = some (.lst (ns.map V.str)) → Qd H') :
    ∃ W : Nat → Nat → Hp → Prop, (∃ m, W 0 m (upd H D (.lst []))) ∧ ∀ i m1 H', W i m1 H' →
      ((Itt K a).stop i H' ∧ Qd H') ∨ ((Itt K a).go i H' ∧ ∃ Nx : Hp → Prop, (∀ H', Nx H' → ∃ m', m' < m1 ∧ W (i + 1) m' H') ∧ ∀ x H1, (Itt K a).yld i H' x H1 → gName m x (wipe σ [m]) H1 fun σ2 H2 => wipe σ2 [m] = wipe σ [m] ∧ tYes σ2 H2 fun b H3 =>
        if b = true then tOp (rIxT K) (tVar m) (tC (.int 0)) σ2 H3 fun y H4 => ∃ acc, H4 D = some (.lst acc) ∧ acc.length < sizeLine ∧ Nx (upd H4 D (.lst (acc ++ [y]))) else Nx H3) := by
  have new : Same H (upd H D (.lst [])) := fun b o e => by rw [upd_ne (ne_of_none e hD)]; exact e
  refine lc_tup (xs := xs) (fun i H2 => H2 D = some (.lst ((ns.take i).map V.str)) ∧ Same H H2) ⟨upd_same, new⟩ (fun i H2 _ h => SqT.of (h.2 _ _ ha)) ?_ ?_
  · rintro i x H2 hx ⟨h1, k⟩
    obtain ⟨b, ws, nm, rfl, hb, hn⟩ := he i x hx
    have g : (wipe σ [m]).length = σ.length := wipe_length _ _
    have g1 : ((wipe σ [m]).set m (some (.ref b)))[m]? = some (some (.ref b)) := by
      rw [List.getElem?_set]
      simp [g, hm]
    refine ⟨?_, iteT (B := H2 D = some (.lst ((ns.take (i + 1)).map V.str)) ∧ Same H H2) ⟨.ref b, g1, b, _, 0, .str nm, rfl, rfl, SqT.of (k _ _ hb), atI_nat (j := 0) rfl, _, h1, ?_, ?_, ?_⟩⟩
    · show ((wipe σ [m]).set m (some (.ref b))).set m none = wipe σ [m]
      rw [List.set_set]
      show ((σ.set m none).set m none) = σ.set m none
      rw [List.set_set]
    · have : ((ns.take i).map V.str).length ≤ 1000 := by
        rw [List.length_map, List.length_take]
        omega
      exact Nat.lt_of_le_of_lt this (by decide)
    · rw [upd_same, List.take_add_one, hn, List.map_append]
      rfl
    · intro c o e
      rw [upd_ne (ne_of_none e hD)]
      exact k c o e
  · rintro H2 ⟨h1, k⟩
    rw [hl, List.take_length] at h1
    exact q H2 k h1
/-- the firsts of things told as tuples -/
theorem fst_at {H : Hp} {xs : List V} {ds : List PyData} (r : DvAll H xs ds) {ns : List Str} (h : ∀ (i : Nat) d, ds[i]? = some d → ∃ nm es, d = .tuple (.str nm :: es) ∧ ns[i]? = some nm) : ∀ (i : Nat) x, xs[i]? = some x → ∃ b ws nm, x = V.ref b ∧ H b = some (.tup (.str nm :: ws)) ∧ ns[i]? = some nm := by
  intro i x hx
  have hi : i < ds.length := by
    have := (List.getElem?_eq_some_iff.mp hx).1
    rw [r.len] at this
    exact this
  obtain ⟨nm, es, e1, e2⟩ := h i ds[i] (List.getElem?_eq_getElem hi)
  obtain ⟨v2, hv2, dv⟩ := r.get (i := i) (d := ds[i]) (List.getElem?_eq_getElem hi)
  rw [hx] at hv2
  cases hv2
  rw [e1] at dv
  obtain ⟨b, ws, rfl, hb, _, r1⟩ := dv.tupE
  obtain ⟨u, us, rfl, k, r2⟩ := r1.consE
  cases k
  exact ⟨b, us, nm, rfl, hb, e2⟩
theorem _root_.PV.DvAll.takeL {H : Hp} : ∀ {xs : List V} {ds : List PyData} (i : Nat), DvAll H xs ds → DvAll H (xs.take i) (ds.take i)
  | _, _, 0, _ => by rw [List.take_zero, List.take_zero]; exact .nil
  | _, _, _ + 1, .nil => by exact .nil
  | _, _, i + 1, .cons h r => .cons h (r.takeL i)
end WF
namespace WF
open PySem PySem.Spec PyProof.Rows L2 PV PF T ET PB PP FM AM AB WR
structure En where
  i : Nat
  j : Nat
  k : Nat
  w : Wrong
def En.py (e : En) : PyData := .tuple [.tuple [.int e.i, .int e.j, .int e.k], .str e.w.word, e.w.where_]
/-- all but the list at F stays -/
def KeptF (F : Addr) (H H' : Hp) : Prop := ∀ b o, b ≠ F → H b = some o → H' b = some o
theorem KeptF.tups {H H' : Hp} {F : Addr} {xs : List V} (k : KeptF F H H') (h : H F = some (.lst xs)) : TupSame H H' := fun a ys e => k a _ (by rintro rfl; rw [h] at e; cases e) e
theorem KeptF.trans {H H1 H2 : Hp} {F : Addr} (a : KeptF F H H1) (b : KeptF F H1 H2) : KeptF F H H2 := fun c o n e => b c o n (a c o n e)
theorem KeptF.of {H H1 : Hp} {F : Addr} (a : Same H H1) : KeptF F H H1 := fun c o n e => a c o e
theorem Same.by {H0 H H' : Hp} {F : Addr} (s : Same H0 H) (n : H0 F = none) (k : KeptF F H H') : Same H0 H' := fun b o e => k b o (by rintro rfl; rw [n] at e; cases e) (s b o e)
theorem same_new {H : Hp} {p : Addr} {o : HO} (n : H p = none) : Same H (upd H p o) := fun b u e => by rw [upd_ne (ne_of_none e n)]; exact e
/-- found.append(((a, b, c), word, where)) -/
def tPut (K : PySem.W.Frag) (F : Nat) (t1 t2 t3 tw te : TE) : TS := tDrop (tBM K "list" rAppend (tVar F) (tCons (tTup (tCons (tTup (tCons t1 (tCons t2 (tCons t3 tNil)))) (tCons tw (tCons te tNil)))) tNil))
theorem put_ok {K : PySem.W.Frag} {F : Nat} {t1 t2 t3 tw te : TE} {σ : L2.St} {H : Hp} {Fl : Addr} {xs : List V} {ds : List En} {e : En} {D : Ends}
    (hv : σ[F]? = some (some (.ref Fl))) (hF : H Fl = some (.lst xs)) (hx : DvAll H xs (ds.map En.py)) (hl : xs.length ≤ 5000) (hw : e.w.word.length ≤ 1000)
    (h1 : ∀ H' Q, Same H H' → Q (.int e.i) H' → t1 σ H' Q) (h2 : ∀ H' Q, Same H H' → Q (.int e.j) H' → t2 σ H' Q) (h3 : ∀ H' Q, Same H H' → Q (.int e.k) H' → t3 σ H' Q)
    (h4 : ∀ H' Q, Same H H' → Q (.str e.w.word) H' → tw σ H' Q) (h5 : ∀ H' Q, Same H H' → (∀ wv H1, Same H' H1 → Dv H1 wv e.w.where_ → Q wv H1) → te σ H' Q)
    (k : ∀ ys H', KeptF Fl H H' → H' Fl = some (.lst ys) → DvAll H' ys ((ds ++ [e]).map En.py) → ys.length = xs.length + 1 → D.nx σ H') : tPut K F t1 t2 t3 tw te D σ H := by
  refine ⟨.ref Fl, hv, .inl ⟨rfl, xs, SqL.of hF⟩, ?_⟩
  refine h1 H _ (fun _ _ e => e) (h2 H _ (fun _ _ e => e) (h3 H _ (fun _ _ e => e) ⟨by show 3 ≤ sizeLine; decide, fun p np => h4 _ _ (same_new np) (h5 _ _ (same_new np) fun wv H1 kk hwv => ⟨by show 3 ≤ sizeLine; decide, fun q nq => ?_⟩)⟩))
  have k1 : Same H H1 := (same_new np).trans kk
  have hp : H1 p = some (.tup [.int e.i, .int e.j, .int e.k]) := kk _ _ upd_same
  have k2 : Same H (upd H1 q (.tup [.ref p, .str e.w.word, wv])) := k1.trans (same_new nq)
  have hq : (upd H1 q (.tup [.ref p, .str e.w.word, wv])) q = some (.tup [.ref p, .str e.w.word, wv]) := upd_same
  have hp2 := same_new (o := .tup [.ref p, .str e.w.word, wv]) nq _ _ hp
  have hw2 := hwv.same (TupSame.of (same_new (o := .tup [.ref p, .str e.w.word, wv]) nq))
  generalize upd H1 q (.tup [.ref p, .str e.w.word, wv]) = H2 at k2 hq hp2 hw2
  refine ⟨Fl, xs, .ref q, rfl, rfl, k2 _ _ hF, Nat.lt_of_le_of_lt hl (by decide), ?_⟩
  have ts : TupSame H2 (upd H2 Fl (.lst (xs ++ [.ref q]))) := fun b o z => by rw [upd_ne (ne_of z (k2 _ _ hF) (by intro y; cases y))]; exact z
  refine k _ _ (fun b o n z => by rw [upd_ne n]; exact k2 b o z) upd_same ?_ (by simp)
  rw [List.map_append]
  refine (hx.same (TupSame.of k2)).same ts |>.app (.cons ?_ .nil)
  refine .tup (ts _ _ hq) (by show 3 ≤ 1000; decide) (.cons (.tup (ts _ _ hp2) (by show 3 ≤ 1000; decide) (.cons (.int _) (.cons (.int _) (.cons (.int _) .nil)))) (.cons (.str _ hw) (.cons (hw2.same ts) .nil)))
/-- if ..: found.append(..) -/
theorem put_if {K : PySem.W.Frag} {F : Nat} {tc : TT} {t1 t2 t3 tw te : TE} {σ : L2.St} {H : Hp} {Fl : Addr} {xs : List V} {ds : List En} {e : En} {D : Ends} {b : Bool} {n : Nat}
    (hv : σ[F]? = some (some (.ref Fl))) (hF : H Fl = some (.lst xs)) (hx : DvAll H xs (ds.map En.py)) (hn : xs.length ≤ n) (hl : n ≤ 5000) (hw : e.w.word.length ≤ 1000)
    (hc : ∀ Q : Bool → Hp → Prop, (∀ H', Same H H' → Q b H') → tc σ H Q)
    (h1 : ∀ H' Q, Same H H' → Q (.int e.i) H' → t1 σ H' Q) (h2 : ∀ H' Q, Same H H' → Q (.int e.j) H' → t2 σ H' Q) (h3 : ∀ H' Q, Same H H' → Q (.int e.k) H' → t3 σ H' Q)
    (h4 : ∀ H' Q, Same H H' → Q (.str e.w.word) H' → tw σ H' Q) (h5 : ∀ H' Q, Same H H' → (∀ wv H1, Same H' H1 → Dv H1 wv e.w.where_ → Q wv H1) → te σ H' Q)
    (k : ∀ ys H', KeptF Fl H H' → H' Fl = some (.lst ys) → DvAll H' ys ((ds ++ if b = true then [e] else []).map En.py) → ys.length ≤ n + 1 → D.nx σ H') : tIfS tc (tPut K F t1 t2 t3 tw te) tNext D σ H := by
  refine hc _ fun H1 s => ?_
  cases b with
  | true =>
    refine iteT ?_
    refine put_ok hv (s _ _ hF) (hx.same (TupSame.of s)) (by omega) hw (fun H' Q s' q => h1 H' Q (s.trans s') q) (fun H' Q s' q => h2 H' Q (s.trans s') q) (fun H' Q s' q => h3 H' Q (s.trans s') q) (fun H' Q s' q => h4 H' Q (s.trans s') q) (fun H' Q s' q => h5 H' Q (s.trans s') q) fun ys H' k1 k2 k3 k4 => ?_
    exact k ys H' ((KeptF.of s).trans k1) k2 (by rw [if_pos rfl]; exact k3) (by omega)
  | false =>
    refine iteF ?_
    show D.nx σ H1
    exact k xs H1 (KeptF.of s) (s _ _ hF) (by rw [if_neg (by decide), List.append_nil]; exact hx.same (TupSame.of s)) (by omega)
theorem seq_of {t u : TS} {D : Ends} {σ : L2.St} {H : Hp} (h : t { D with nx := u D } σ H) : tSeq t u D σ H := h
theorem nx_of {f : L2.St → Hp → Prop} {r b c} {σ : L2.St} {H : Hp} (h : f σ H) : Ends.nx { nx := f, rt := r, bk := b, ct := c } σ H := h
theorem gName_of {i : Nat} {v : V} {σ : L2.St} {H : Hp} {Q : L2.St → Hp → Prop} (h : Q (σ.set i (some v)) H) : gName i v σ H Q := h
end WF

/-! A call of a name that holds one of several defs, which may raise. -/
namespace ET
open PySem PySem.Spec PyProof.Rows L2
def tCallT (i : Nat) (S : Addr → Sp → Prop) (E : XK) (t : TA) : TE := fun σ H Q => ∃ f sp, σ[i]? = some (some (.ref f)) ∧ S f sp ∧ t σ H fun vs H1 => sp vs H1 Q E
theorem pe_callT {X : Cx} {CX : CXT} {k i : Nat} {E : XK} {x : Str} {p pos : Pos} {e : Expr} {es : List Expr} {t : TA} {S : Addr → Sp → Prop}
    (all : ∀ f sp, S f sp → ∃ (fd : FuncData) (ps : List Str), FnOk X.prog X.w X.K X.mg X.base CX k f fd ps sp ∧ PySem.W.keepIn X.K (.ref f) = true ∧ Binds X.K fd ps []) (hr : Room k X.A) (hN : X.N[i]? = some x) (hv : Vis X.env.scope x) (hx : Passes CX X E) (ha : PA X (e :: es) t)
    (hdb : (x == ("__debug__" : Str)) = false := by decide) (hcd : (x == ("__classdict__" : Str)) = false := by decide)
    (he : starEach (e :: es) X.env = (false, eval e X.env) :: starEach es X.env := by rfl) (hpl : (backTo pos (starEach es X.env)).any (·.1) = false := by rfl) : PE X (.Call (.Name x p) (e :: es) [] pos) (tCallT i S E t) := by
  refine ⟨fun pins s σ H Q I h => ?_⟩
  obtain ⟨f, sp, hs, hS, ht⟩ := h
  obtain ⟨fd, ps, F, hk, hb⟩ := all f sp hS
  refine (pe_callL (i := i) (f := f) (sp := sp) (dvs := []) (E := E) F hr hN hv hk hb .nil hx ha hdb hcd he hpl).run pins s σ H Q I ⟨hs, ?_⟩
  have e0 : (fun (vs : List V) (H1 : Hp) => sp (vs ++ []) H1 Q E) = fun vs H1 => sp vs H1 Q E := by
    funext vs H1
    rw [List.append_nil]
  show t σ H (fun vs H1 => sp (vs ++ []) H1 Q E)
  rw [e0]
  exact ht
end ET

/-! del xs[a:], and f(k = v). -/
namespace DS
open PySem PySem.Spec PyProof.Rows L2
theorem keep_take : ∀ (l : List Value) (a j : Nat), ((l.zipIdx j).filterMap fun x : Value × Nat => if (decide ((a : Int) ≤ (x.2 : Int)) && decide ((x.2 : Int) < ((j + l.length : Nat) : Int)) && ((x.2 : Int) - a) % 1 == 0) = true then none else some x.1) = l.take (a - j)
  | [], a, j => by simp
  | x :: l, a, j => by
    have ih := keep_take l a (j + 1)
    have e1 : j + 1 + l.length = j + (x :: l).length := by simp; omega
    rw [e1] at ih
    rw [List.zipIdx_cons, List.filterMap_cons]
    have e0 : ((j : Int) - a) % 1 = 0 := Int.emod_one _
    by_cases h : a ≤ j
    · have h2 : (decide ((a : Int) ≤ (j : Int)) && decide ((j : Int) < ((j + (x :: l).length : Nat) : Int)) && ((j : Int) - a) % 1 == 0) = true := by
        rw [e0, decide_eq_true (by omega), decide_eq_true (by simp; omega)]
        rfl
      simp only [h2, if_true]
      rw [ih, show a - j = 0 by omega, show a - (j + 1) = 0 by omega, List.take_zero, List.take_zero]
    · have h2 : (decide ((a : Int) ≤ (j : Int)) && decide ((j : Int) < ((j + (x :: l).length : Nat) : Int)) && ((j : Int) - a) % 1 == 0) = false := by
        rw [decide_eq_false (by omega)]
        rfl
      simp only [h2]
      rw [if_neg (by decide)]
      show x :: _ = _
      rw [ih, show a - j = (a - (j + 1)) + 1 by omega, List.take_succ_cons]
theorem bounds_tail {a n : Nat} (h : a ≤ n) : sliceBounds (some (a : Int)) none none n = ((a : Int), (n : Int), 1) := by
  simp only [sliceBounds, Option.getD_none]
  have h1 : ¬ ((a : Int) < 0) := by omega
  simp only [h1, if_false, show (1 : Int) > 0 by decide, if_true]
  congr 1
  omega
section
variable {prog : Program} {w : World} {A : Around} {E : Value → Shared → Prop} {s : Shared}
set_option maxRecDepth 100000 in
theorem delItem_tail {l sl : Addr} {items : Array Value} {n : Nat} {vl : Value} {a : Nat} {Q : Unit → Shared → Prop}
    (e : s.heap.get? l = some { cls := .type "list", data := .seq items n })
    (hs : s.heap.IsSliceOf sl vl .none .none) (pl : IsPart vl (some (a : Int))) (hac : a ≤ items.size)
    (hsz : items.size ≤ sizeLine) (h : ∀ f : Array Value → Array Value, f items = (items.toList.take a).toArray → Q () { s with heap := s.heap.update l (Obj.mapSeq f) }) :
    wpAny (model prog w) A (delItem (.ref l) (.ref sl)) Q E s := by
  have hl : s.heap.IsList l items := PySem.IsL.isList e
  obtain ⟨os, hos, hcs, hds⟩ := id hs
  have hTs : s.TypeIs (.ref sl) "slice" := ⟨os, hos, hcs⟩
  have hstep : ¬ ((rawPart none == rawInt 0) = true) := Bool.false_ne_true
  refine wpAny_delItem_slot hl.typeIs (by decide) F.slot_list_delitem ?_
  refine wpAny_call_entry F.slot_list_delitem hl.typeIs F.entry_list_delitem ?_ (F.args_list_delitem_2 _ _)
  show wpAny _ _ (Builtin.List.listSubscript? (.ref sl) >>= _) _ _ s
  refine wpAny_bind ?_
  unfold Builtin.List.listSubscript?
  refine wpAny_bind (wpAny_specialOf hTs slice_no_index ?_)
  simp only [Option.isNone_none, if_true]
  refine wpAny_pure ?_
  show wpAny _ _ (typeOf (.ref sl) >>= _) _ _ s
  refine wpAny_bind (wpAny_typeOf hTs ?_)
  first
    | rw [if_neg (by decide)]
    | refine PySem.W.KFB.if_not (by decide) ?_
  rw [listSliceParts_eq]
  refine wpAny_bind (wpAny_bind (wpAny_field hos hds (x := .none) rfl (wpAny_bind (wpAny_listPart .none ?_))))
  rw [if_neg hstep]
  refine wpAny_bind (wpAny_field hos hds (x := vl) rfl (wpAny_bind (wpAny_listPart pl ?_)))
  refine wpAny_bind (wpAny_field hos hds (x := .none) rfl (wpAny_bind (wpAny_listPart .none (wpAny_pure ?_))))
  unfold Builtin.List.listItems
  refine wpAny_bind (wpAny_bind (wpAny_seqItems e rfl (wpAny_pure ?_)))
  refine wpAny_bind (wpAny_of_eq ((sliceIndices_raw (some (a : Int)) none none items.size (by simp)).trans (congrArg (pure : Int × Int × Int → Sem (Int × Int × Int)) (bounds_tail hac))) ?_)
  refine wpAny_bind (wpAny_rule ?_)
  have hf : (fun xs : Array Value => (xs.toList.zipIdx.filterMap fun x : Value × Nat => if (decide ((a : Int) ≤ (x.2 : Int)) && decide ((x.2 : Int) < (items.size : Int)) && ((x.2 : Int) - a) % 1 == 0) = true then none else some x.1).toArray) items = (items.toList.take a).toArray := by
    have := keep_take items.toList a 0
    rw [Nat.zero_add, Nat.sub_zero] at this
    exact congrArg List.toArray this
  have hz' : ((fun xs : Array Value => (xs.toList.zipIdx.filterMap fun x : Value × Nat => if (decide ((a : Int) ≤ (x.2 : Int)) && decide ((x.2 : Int) < (items.size : Int)) && ((x.2 : Int) - a) % 1 == 0) = true then none else some x.1).toArray) items).size ≤ sizeLine + 1 := by
    rw [hf, List.size_toArray, List.length_take, Array.length_toList]
    omega
  show wpAny _ _ (updateSeq l (fun xs : Array Value => (xs.toList.zipIdx.filterMap fun x : Value × Nat => if (decide ((a : Int) ≤ (x.2 : Int)) && decide ((x.2 : Int) < (items.size : Int)) && ((x.2 : Int) - a) % 1 == 0) = true then none else some x.1).toArray) >>= _) _ _ s
  refine wpAny_bind (wpAny_updateSeq (hz := hsz) (_hz' := hz') e rfl ?_)
  refine wpAny_bind (wpAny_letGo ?_)
  first
    | exact wpAny_bind (wpAny_pure (wpAny_pure ⟨.none, rfl, h _ hf⟩))
    | exact wpAny_pure ⟨.none, rfl, wpAny_pure (h _ hf)⟩
    | exact wpAny_pure (h _ hf)
    | exact wpAny_pure ⟨_, rfl, h _ hf⟩
end
section
variable {X : Cx} {pos : Pos}
theorem del_tail {pins : List (Addr × Obj)} {s : Shared} {σ : L2.St} {H : Hp} {l sl : Addr} {xs : List V} {a : Int} {vl : Value} {Q : Unit → Shared → Prop} (I : Inv X pins σ H s)
    (hH : H l = some (.lst xs)) (hs : s.heap.IsSliceOf sl vl .none .none) (ra : IsPart vl (some a)) (h0 : 0 ≤ a) (hac : a ≤ xs.length)
    (h : ∀ s', Inv X pins σ (upd H l (.lst (xs.take a.toNat))) s' → Q () s') :
    wpAny (model X.prog X.w) X.A (delItem (.ref l) (.ref sl)) Q X.xe s := by
  obtain ⟨z, its, n, r, hl, e⟩ := I.lstM hH
  obtain ⟨a', rfl⟩ := Int.eq_ofNat_of_zero_le h0
  simp only [Int.toNat_natCast] at h
  refine delItem_tail (a := a') e hs ra (by rw [List.size_toArray]; omega) (by rw [List.size_toArray]; omega) fun f hf => h _ ?_
  refine I.lset (its' := its.take a') (t' := s.toks) hH e hf (r.take _) ?_
  rw [List.length_take]
  omega
/-- del o[a:] of a list -/
def tDelTail (to ti : TE) : TS := fun D σ H => to σ H fun x H1 => tPart ti σ H1 fun o H2 => ∃ (l : Addr) (xs : List V) (a : Int), x = .ref l ∧ o = some a ∧ H2 l = some (.lst xs) ∧ 0 ≤ a ∧ a ≤ xs.length ∧ D.nx σ (upd H2 l (.lst (xs.take a.toNat)))
theorem ps_delTail {o i : Expr} {to ti : TE} {tpos p2 : Pos} (ho : PE X o to) (hi : PE X i ti) : PS X (.Delete [.Subscript o (.Slice (some i) none none p2) tpos] pos) (tDelTail to ti) := by
  refine ⟨fun pins s σ H D I h => ?_⟩
  refine wpAny_Delete (wpAny_deleteEach_cons (wpAny_delete_Subscript (thn (ho.run pins s σ H _ I h) fun u s1 ⟨x, H1, I1, rx, q1⟩ => ?_)))
  refine wpAny_Slice (thn ((po_some (X := X) hi).run pins s1 σ H1 _ I1 q1) fun vl s2 ⟨o2, H2, I2, pl, q2⟩ => ?_)
  obtain ⟨l, xs, a, rfl, rfl, hl, h0, h1, q⟩ := q2
  rw [evalPart_none]
  refine wpAny_pure ?_
  refine wpAny_pure ?_
  cases (show u = Value.ref l from rx)
  have I4 : Inv X pins σ H2 { s2 with heap := s2.heap.push { cls := .type "slice", data := .fields #[vl, .none, .none] } } := I2.kept (t' := s2.toks) fun b ob q => Heap.get?_push_of_some _ q
  exact del_tail I4 hl (Heap.IsSliceOf.new ..) pl h0 h1 fun s3 I3 => wpAny_deleteEach_nil ⟨σ, _, I3, q⟩
/-! ### f(k = v) -/
def tCallN0 (m : Nat) (sp : Sp) (gV : List V → List V → List V) (E : XK) (tk : TA) : TE := fun σ H Q => tk σ H fun zs H2 => zs.length = m ∧ sp (gV [] zs) H2 Q E
theorem pe_callN0 {CX : CXT} {k : Nat} {f : Addr} {fd : FuncData} {ps ks : List Str} {sp : Sp} {E : XK} {x : Str} {p : Pos} {kws : List Keyword} {tk : TA} {g : List Value → List Value → List Value} {gV : List V → List V → List V}
    (F : FnOk X.prog X.w X.K X.mg X.base CX k f fd ps sp) (hr : Room k X.A) (hg : Gl X x) (hm : X.mg x = some (.ref f)) (hk : PySem.W.keepIn X.K (.ref f) = true) (hb : KBn X.K fd ps 0 ks g gV) (hx : Passes CX X E) (hkw : PK X kws tk)
    (hall : (backToKw pos (keywordEach kws X.env)).all (·.1.isSome) = true := by rfl) (hks : (backToKw pos (keywordEach kws X.env)).filterMap (·.1) = ks := by rfl) (hdb : (x == ("__debug__" : Str)) = false := by decide)
    (hpl : ((backTo pos (starEach [] X.env)).any (·.1) || (backToKw pos (keywordEach kws X.env)).any (·.1.isNone)) = false := by rfl) :
    PE X (.Call (.Name x p) [] kws pos) (tCallN0 ks.length sp gV E tk) := by
  refine ⟨fun pins s σ H Q I h => ?_⟩
  refine wpAny_Call_Name_kw (ld_glob I hg hm ?_ hdb)
  refine PySem.W.callWith_KW0 (h₀ := X.base) I.ok.mod.kin hk hall ?_ hpl
  refine thn (hkw.run pos pins s σ H _ I h) fun ws s2 ⟨zs, H2, I2, rz, l2, q2⟩ => ⟨I2.kIn, ?_⟩
  rw [hks]
  exact run_fnN (us := []) (vs := []) F hr hb hx I2 .nil rz rfl l2 q2
end
end DS

/-! The look at one body: while true with nothing in it. -/
namespace BL
open PySem PySem.Spec PyProof.Rows L2 PV PF T ET PB FM
/-- a place that is never come to -/
def tNo : TS := fun _ _ _ => False
def tNoE : TE := fun _ _ _ => False
theorem ps_no {X : Cx} {st : Stmt} : PS X st tNo := ⟨fun _ _ _ _ _ _ h => h.elim⟩
theorem pss_no {X : Cx} {b : List Stmt} : PSs X b tNo := ⟨fun _ _ _ _ _ _ h => h.elim⟩
theorem pe_no {X : Cx} {e : Expr} : PE X e tNoE := ⟨fun _ _ _ _ _ _ h => h.elim⟩
theorem putNe {f g : Str} {v x : V} {r : List (Str × V)} (h : (g == f) = false) : putF f v ((g, x) :: r) = (g, x) :: putF f v r := by
  show (if g = f then _ else _) = _
  rw [if_neg (by simpa using h)]
theorem putEq {f : Str} {v x : V} {r : List (Str × V)} : putF f v ((f, x) :: r) = (f, v) :: r := by
  show (if f = f then _ else _) = _
  rw [if_pos rfl]
theorem putNil {f : Str} {v : V} : putF f v [] = [(f, v)] := rfl
def lk (pf fn ov fv : V) (b : Int) (L : Addr) : List (Str × V) := [("family", pf), ("functions", fn), ("owner", ov), ("function", fv), ("begun", .int b), ("reach", .ref L)]
theorem lk_no {pf fn ov fv : V} {b : Int} {L : Addr} {m : Str} (h1 : (m == "family") = false) (h2 : (m == "functions") = false) (h3 : (m == "owner") = false) (h4 : (m == "function") = false) (h5 : (m == "begun") = false) (h6 : (m == "reach") = false) :
    (lk pf fn ov fv b L).lookup m = none := by
  simp only [lk, List.lookup, h1, h2, h3, h4, h5, h6]
theorem lk_begun {pf fn ov fv : V} {b : Int} {L : Addr} : (lk pf fn ov fv b L).lookup ("begun" : Str) = some (.int b) := by rfl
theorem lk_reach {pf fn ov fv : V} {b : Int} {L : Addr} : (lk pf fn ov fv b L).lookup ("reach" : Str) = some (.ref L) := by rfl
theorem lk_family {pf fn ov fv : V} {b : Int} {L : Addr} : (lk pf fn ov fv b L).lookup ("family" : Str) = some pf := by rfl
theorem put_begun {pf fn ov fv : V} {b x : Int} {L : Addr} : putF "begun" (.int x) (lk pf fn ov fv b L) = lk pf fn ov fv x L := by
  unfold lk
  rw [putNe (by decide +kernel), putNe (by decide +kernel), putNe (by decide +kernel), putNe (by decide +kernel), putEq]
def LkAt (CB : Addr) (H : Hp) (p : Addr) (pf fn ov fv : V) (b : Int) (L : Addr) : Prop := ∃ dx, H p = some (.ins CB dx (lk pf fn ov fv b L))
structure BlC (K : PySem.W.Frag) (mg : Str → Option Value) (CB : Addr) : Prop where
  cl : Cls K CB
  n1 : NoAttr K CB "family"
  n2 : NoAttr K CB "functions"
  n3 : NoAttr K CB "owner"
  n4 : NoAttr K CB "function"
  n5 : NoAttr K CB "begun"
  n6 : NoAttr K CB "reach"
  list : mg "list" = none
  len : mg "len" = none
/-- the one body -/
def WB : Sts := .cons (.while_ (.truth true) .nil) .nil
def wst : PyData := (PV.St.while_ (.truth true) .nil).py
section
variable {P : Program} {w : World} {K : PySem.W.Frag} {mg : Str → Option Value} {base : Heap} {C CB : Addr}
def spInitL (CB : Addr) : Sp := fun vs H Q _ => ∃ (p dx fa pa : Addr) (pf fn ov : V) (fs ps : List V), vs = [.ref p, pf, fn, ov, .ref fa] ∧ H p = some (.ins CB dx []) ∧ H fa = some (.tup fs) ∧ fs[1]? = some (.ref pa) ∧ H pa = some (.tup ps) ∧ fs.length ≤ 1000 ∧
  ∀ L H', H L = none → LkAt CB H' p pf fn ov (.ref fa) 0 L → H' L = some (.lst ps) → Kp p H H' → Q .non H'
theorem ok_initL {f : Addr} {fd : FuncData} (F : Fun K "__init__" "BodyLook.__init__" s_BodyLook_init f fd) (T0 : BlC K mg CB) : FnOk P w K mg base CX0 1 f fd ["self", "family", "functions", "owner", "function"] (spInitL CB) := by
  refine F.ok sc_BodyLook_init (fun vs H Q E h => ?_) (fun cdv A outer s H vs Q E hr h => ?_)
  · obtain ⟨p, dx, fa, pa, pf, fn, ov, fs, ps, rfl, _⟩ := h
    rfl
  · obtain ⟨p, dx, fa, pa, pf, fn, ov, fs, ps, rfl, hp, hfa, h1, hpa, hl, q⟩ := h
    refine ⟨_, pss_cons (ps_fld (pv 0) (pv 1) rfl) (pss_cons (ps_fld (pv 0) (pv 2) rfl) (pss_cons (ps_fld (pv 0) (pv 3) rfl) (pss_cons (ps_fld (pv 0) (pv 4) rfl) (pss_cons (ps_fld (pv 0) pe_int rfl)
      (pss_one (ps_fld (pv 0) (pe_callTy call_list_of (by rfl) T0.list (by decide +kernel) (pa_cons (pe_ix ix_tup (pv 4) pe_int (fun _ _ => rfl)) pa_nil)) rfl)))))), ?_⟩
    have hfp : fa ≠ p := ne_of hfa hp (by intro z; cases z)
    have hpp : pa ≠ p := ne_of hpa hp (by intro z; cases z)
    refine ⟨_, rfl, _, rfl, p, CB, dx, [], rfl, hp, T0.cl, T0.n1, (by show 0 < 1000; decide), ?_⟩
    refine ⟨_, rfl, _, rfl, p, CB, dx, _, rfl, upd_same, T0.cl, T0.n2, (by show 1 < 1000; decide), ?_⟩
    rw [show putF "family" pf ([] : List (Str × V)) = ([(("family" : Str), pf)] : List (Str × V)) from rfl]
    have e2 : putF "functions" fn ([(("family" : Str), pf)] : List (Str × V)) = [(("family" : Str), pf), (("functions" : Str), fn)] := by rw [putNe (by decide +kernel), putNil]
    rw [e2]
    refine ⟨_, rfl, _, rfl, p, CB, dx, _, rfl, upd_same, T0.cl, T0.n3, (by show 2 < 1000; decide), ?_⟩
    have e3 : putF "owner" ov ([(("family" : Str), pf), (("functions" : Str), fn)] : List (Str × V)) = [(("family" : Str), pf), (("functions" : Str), fn), (("owner" : Str), ov)] := by rw [putNe (by decide +kernel), putNe (by decide +kernel), putNil]
    rw [e3]
    refine ⟨_, rfl, _, rfl, p, CB, dx, _, rfl, upd_same, T0.cl, T0.n4, (by show 3 < 1000; decide), ?_⟩
    have e4 : putF "function" (.ref fa) ([(("family" : Str), pf), (("functions" : Str), fn), (("owner" : Str), ov)] : List (Str × V)) = [(("family" : Str), pf), (("functions" : Str), fn), (("owner" : Str), ov), (("function" : Str), .ref fa)] := by
      rw [putNe (by decide +kernel), putNe (by decide +kernel), putNe (by decide +kernel), putNil]
    rw [e4]
    refine ⟨_, rfl, p, CB, dx, _, rfl, upd_same, T0.cl, T0.n5, (by show 4 < 1000; decide), ?_⟩
    have e5 : putF "begun" (.int 0) ([(("family" : Str), pf), (("functions" : Str), fn), (("owner" : Str), ov), (("function" : Str), .ref fa)] : List (Str × V)) = [(("family" : Str), pf), (("functions" : Str), fn), (("owner" : Str), ov), (("function" : Str), .ref fa), (("begun" : Str), .int 0)] := by
      rw [putNe (by decide +kernel), putNe (by decide +kernel), putNe (by decide +kernel), putNe (by decide +kernel), putNil]
    rw [e5]
    refine ⟨_, rfl, fa, fs, 1, .ref pa, rfl, rfl, SqT.of (by rw [upd_ne hfp, upd_ne hfp, upd_ne hfp, upd_ne hfp, upd_ne hfp]; exact hfa), atI_nat h1, ?_⟩
    refine ⟨pa, ps, rfl, .inr (SqT.of (by rw [upd_ne hpp, upd_ne hpp, upd_ne hpp, upd_ne hpp, upd_ne hpp]; exact hpa)), fun L nL => ?_⟩
    have hLp : p ≠ L := ne_of_none upd_same nL
    have nL0 : H L = none := by
      rw [upd_ne hLp.symm, upd_ne hLp.symm, upd_ne hLp.symm, upd_ne hLp.symm, upd_ne hLp.symm] at nL
      exact nL
    refine ⟨_, rfl, p, CB, dx, [(("family" : Str), pf), (("functions" : Str), fn), (("owner" : Str), ov), (("function" : Str), .ref fa), (("begun" : Str), .int 0)], rfl, (by rw [upd_ne hLp, upd_same]), T0.cl, T0.n6, (by show 5 < 1000; decide), ?_⟩
    refine q L _ nL0 ⟨dx, ?_⟩ (by rw [upd_ne hLp.symm, upd_same]) (fun b o hb e => ?_)
    · rw [upd_same]
      unfold lk
      rw [putNe (by decide +kernel), putNe (by decide +kernel), putNe (by decide +kernel), putNe (by decide +kernel), putNe (by decide +kernel), putNil]
    · rw [upd_ne hb, upd_ne (ne_of_none e nL0), upd_ne hb, upd_ne hb, upd_ne hb, upd_ne hb, upd_ne hb]
      exact e
def spBegin (CB : Addr) : Sp := fun vs H Q _ => ∃ (p : Addr) (pf fn ov fv : V) (b : Int) (L : Addr), vs = [.ref p] ∧ LkAt CB H p pf fn ov fv b L ∧ ∀ H', LkAt CB H' p pf fn ov fv (b + 1) L → Kp p H H' → Q (.int b) H'
theorem ok_begin {f : Addr} {fd : FuncData} (F : Fun K "begin" "BodyLook.begin" s_BodyLook_begin f fd) (T0 : BlC K mg CB) : FnOk P w K mg base CX0 1 f fd ["self"] (spBegin CB) := by
  refine F.ok sc_BodyLook_begin (fun vs H Q E h => ?_) (fun cdv A outer s H vs Q E hr h => ?_)
  · obtain ⟨p, pf, fn, ov, fv, b, L, rfl, _⟩ := h
    rfl
  · obtain ⟨p, pf, fn, ov, fv, b, L, rfl, ⟨dx, hp⟩, q⟩ := h
    refine ⟨_, pss_cons (ps_fldaug (pv 0) pe_int in_add) (pss_one (ps_ret (pe_op op_sub (pe_fld (pv 0) rfl) pe_int))), ?_⟩
    refine ⟨_, rfl, p, CB, dx, _, _, rfl, hp, T0.cl, T0.n5, lk_begun, ?_⟩
    refine ⟨b, 1, rfl, rfl, dx, _, hp, (by show 6 < 1000; decide), ?_⟩
    rw [put_begun]
    refine ⟨_, rfl, p, CB, dx, _, _, rfl, upd_same, T0.cl, T0.n5, lk_begun, _, _, rfl, rfl, ?_⟩
    show Q (.int (b + 1 - 1)) _
    rw [show b + 1 - 1 = b by omega]
    exact q _ ⟨dx, upd_same⟩ Kp.upd
/-- the look's defs -/
structure Lk (K : PySem.W.Frag) (w : World) (mg : Str → Option Value) (CB : Addr) : Prop where
  c : BlC K mg CB
  beg : ∃ f fd, Md K CB "begin" "BodyLook.begin" s_BodyLook_begin ["self"] f fd
  ini : ∃ f fd, Mk K CB f ∧ Fun K "__init__" "BodyLook.__init__" s_BodyLook_init f fd ∧ Binds K fd ["self", "family", "functions", "owner", "function"] []
  g : mg "BodyLook" = some (.ref CB)
  leaf : ∃ a es n t, mg "LEAF_KINDS" = some (.ref a) ∧ KDict K w a es n ∧ PySem.W.nsIn K a "truth" = some (some (.str "truth" t))
  ko : ∃ f fd, Gd K mg "kind_of" s_kind_of ["look", "expression"] f fd
  fit : ∃ f fd, Gd K mg "look_for_fit" s_look_for_fit ["look", "part", "wanted"] f fd
  blk : ∃ f fd, Gd K mg "look_at_block" s_look_at_block ["look", "block"] f fd
  wh : ∃ f fd, Gd K mg "look_at_while" s_look_at_while ["look", "statement", "at"] f fd ∧ ∃ a es n, mg "STATEMENT_RULES" = some (.ref a) ∧ KDict K w a es n ∧ PySem.W.nsIn K a "while" = some (some (.ref f))
  ie : ∃ f fd, Gd K mg "is_ended" s_is_ended ["block"] f fd
  eb : ∃ f fd, Gd K mg "ends_block" s_ends_block ["statement"] f fd
theorem KDict.dct {K : PySem.W.Frag} {w : World} {a : Addr} {es : Array DictEntry} {n : Nat} (D : KDict K w a es n) {x : Str} {v : V} {u : Value} (h : PySem.W.nsIn K a x = some (some u)) (r : RelV v u) : KDct K w a x v := ⟨es, n, u, D.at_, D.lit, h, r⟩
def spKof (CB : Addr) : Sp := fun vs H Q _ => ∃ (p : Addr) (v : V) (pf fn ov fv : V) (b : Int) (L : Addr), vs = [.ref p, v] ∧ LkAt CB H p pf fn ov fv b L ∧ Dv H v (Ex.truth true).py ∧ ∀ H', LkAt CB H' p pf fn ov fv (b + 1) L → Kp p H H' → Q (.str "truth") H'
theorem LkAt.tup {H H' : Hp} {p : Addr} {pf fn ov fv : V} {b : Int} {L : Addr} (h : LkAt CB H p pf fn ov fv b L) (k : Kp p H H') : TupSame H H' := fun a xs e => by
  obtain ⟨dx, hp⟩ := h
  exact k a _ (ne_of e hp (by intro z; cases z)) e
theorem ok_kof {f : Addr} {fd : FuncData} (F : Fun K "kind_of" "kind_of" s_kind_of f fd) (X : Lk K w mg CB) : FnOk P w K mg base CX0 2 f fd ["look", "expression"] (spKof CB) := by
  obtain ⟨fB, dB, MB⟩ := X.beg
  have GB : FnOk P w K mg base CX0 1 fB dB ["self"] (spBegin CB) := ok_begin MB.F X.c
  obtain ⟨aL, es, n, tk, gL, DL, nL⟩ := X.leaf
  refine F.ok sc_kind_of (fun vs H Q E h => ?_) (fun cdv A outer s H vs Q E hr h => ?_)
  · obtain ⟨p, v, pf, fn, ov, fv, b, L, rfl, _⟩ := h
    rfl
  · obtain ⟨p, v, pf, fn, ov, fv, b, L, rfl, hp, hv, q⟩ := h
    refine ⟨_, pss_cons (ps_set (i := 2) sc_kind_of.nd rfl (Or.inl rfl) (pe_meth0 (pv 0) X.c.cl MB.m GB hr MB.b .nil pass0))
      (pss_cons (ps_set (i := 3) sc_kind_of.nd rfl (Or.inl rfl) (pe_ix ix_tup (pv 1) pe_int (fun _ _ => rfl)))
      (pss_cons (ps_if (pt_cmpR (op_in_kd DL) (pv 3) (pe_glob (v := .ref aL) (by rfl) gL rfl) (by rfl)) (pss_one (ps_ret (pe_ix ix_kdict (pe_glob (v := .ref aL) (by rfl) gL rfl) (pv 3) (fun _ _ => rfl)))) pss_nil) pss_no)), ?_⟩
    obtain ⟨a, xs, rfl, ha, _, r1⟩ := hv.tupE
    obtain ⟨u0, us, rfl, h0, r2⟩ := r1.consE
    obtain ⟨rfl, _⟩ := h0.strE
    obtain ⟨dx, hp'⟩ := id hp
    refine ⟨_, rfl, p, dx, _, rfl, hp', lk_no (by decide +kernel) (by decide +kernel) (by decide +kernel) (by decide +kernel) (by decide +kernel) (by decide +kernel), ?_⟩
    refine ⟨p, pf, fn, ov, fv, b, L, rfl, hp, fun H1 hp1 k1 => ?_⟩
    have ha1 := hp.tup k1 _ _ ha
    refine ⟨_, rfl, a, _, 0, .str "truth", rfl, rfl, SqT.of ha1, atI_nat (j := 0) rfl, ?_⟩
    refine ⟨_, rfl, "truth", _, rfl, rfl, nL, _, rfl, iteT ?_⟩
    refine ⟨_, rfl, aL, "truth", .str "truth", rfl, rfl, KDict.dct DL nL ⟨_, rfl⟩, ?_⟩
    exact q H1 hp1 k1
def spFit1 (C CB : Addr) : Sp := fun vs H Q _ => ∃ (p pf : Addr) (v : V) (fn ov fv : V) (b : Int) (L : Addr) (cs : List Cl), vs = [.ref p, v, .str "truth"] ∧ LkAt CB H p (.ref pf) fn ov fv b L ∧ FamAt C H pf cs ∧ cs.length ≤ 12 ∧ Dv H v (Ex.truth true).py ∧
  ∀ H', LkAt CB H' p (.ref pf) fn ov fv (b + 1) L → Kp p H H' → Q .non H'
theorem FamAt.kp {H H' : Hp} {pf p : Addr} {cs : List Cl} {fn ov fv : V} {b : Int} {L : Addr} (f : FamAt C H pf cs) (h : LkAt CB H p (.ref pf) fn ov fv b L) (k : Kp p H H') : FamAt C H' pf cs := by
  obtain ⟨dx, d, kvs, h1, h2, h3⟩ := f
  obtain ⟨dy, hp⟩ := h
  have hne : pf ≠ p := ne_of h1 hp (by intro z; cases z)
  refine ⟨dx, d, kvs, k _ _ hne h1, k _ _ (ne_of h2 hp (by intro z; cases z)) h2, fun n => ?_⟩
  have := h3 n
  cases e : findC cs n with
  | none => rw [e] at this; exact this
  | some c =>
    rw [e] at this
    obtain ⟨u, a1, a2⟩ := this
    exact ⟨u, a1, a2.same fun a xs e => k a _ (ne_of e hp (by intro z; cases z)) e⟩
theorem ok_fit1 {f : Addr} {fd : FuncData} (F : Fun K "look_for_fit" "look_for_fit" s_look_for_fit f fd) (X : Lk K w mg CB) {fL fB fK fF fS : Addr} {dL dB dK dF dS : FuncData} (Y : Fits K C fL fB fK fF fS dL dB dK dF dS) (T0 : FmC K mg C) :
    FnOk P w K mg base CX0 5 f fd ["look", "part", "wanted"] (spFit1 C CB) := by
  obtain ⟨fO, dO, GO⟩ := X.ko
  have GK : FnOk P w K mg base CX0 2 fO dO ["look", "expression"] (spKof CB) := ok_kof GO.F X
  have GF : FnOk P w K mg base CX0 4 fF dF ["self", "kind", "other"] (spTwo C fitsB) := ok_fits Y T0
  refine F.ok sc_look_for_fit (fun vs H Q E h => ?_) (fun cdv A outer s H vs Q E hr h => ?_)
  · obtain ⟨p, pf, v, fn, ov, fv, b, L, cs, rfl, _⟩ := h
    rfl
  · obtain ⟨p, pf, v, fn, ov, fv, b, L, cs, rfl, hp, hf, hl, hv, q⟩ := h
    refine ⟨_, pss_cons (ps_set (i := 3) sc_look_for_fit.nd rfl (Or.inl rfl) (pe_fld (pv 0) rfl))
      (pss_cons (ps_set (i := 4) sc_look_for_fit.nd rfl (Or.inl rfl) (pe_call GK (hr.mono (by decide)) (by rfl) GO.g GO.F.kp GO.b .nil pass0 (pa_cons (pv 0) (pa_cons (pv 1) pa_nil))))
      (pss_one (ps_if (pt_not (pt_val (pe_meth (pe_fld (pv 0) rfl) T0.cl Y.f.m GF hr Y.f.b .nil pass0 (pa_cons (pv 4) (pa_cons (pv 2) pa_nil))))) pss_no pss_nil))), ?_⟩
    obtain ⟨dx, hp'⟩ := id hp
    refine ⟨_, rfl, p, CB, dx, _, _, rfl, hp', X.c.cl, X.c.n5, lk_begun, ?_⟩
    refine ⟨_, rfl, _, rfl, p, v, _, fn, ov, fv, b, L, rfl, hp, hv, fun H1 hp1 k1 => ?_⟩
    obtain ⟨dx1, hp1'⟩ := id hp1
    have hf1 := FamAt.kp hf hp k1
    obtain ⟨dy, d, kvs, a1, a2, a3⟩ := id hf1
    refine ⟨_, rfl, p, CB, dx1, _, _, rfl, hp1', X.c.cl, X.c.n1, lk_family, pf, dy, _, rfl, a1, rfl, _, rfl, _, rfl, ?_⟩
    refine ⟨pf, .str "truth", .str "truth", some .truth, some .truth, cs, rfl, hf1, hl, .str _ (by decide +kernel), .str _ (by decide +kernel), ⟨by decide, by decide⟩, ⟨by decide, by decide⟩, fun H2 s2 => ?_⟩
    have e1 : fitsB cs (some .truth) (some .truth) = true := by unfold fitsB; rw [if_pos rfl]
    rw [e1]
    refine ⟨true, rfl, iteF ?_⟩
    obtain ⟨dx1, hp1''⟩ := hp1
    exact q H2 ⟨dx1, s2 _ _ hp1''⟩ (k1.trans fun a o _ e => s2 a o e)
/-- an empty block -/
def spBlk0 (CB : Addr) : Sp := fun vs H Q _ => ∃ (p a : Addr) (pf fn ov fv : V) (b : Int) (L : Addr) (rs : List V), vs = [.ref p, .ref a] ∧ LkAt CB H p pf fn ov fv b L ∧ H L = some (.lst rs) ∧ H a = some (.tup []) ∧ rs.length ≤ 1000 ∧ ∀ H', (∀ c o, H c = some o → H' c = some o) → Q .non H'
theorem ok_blk0 {f : Addr} {fd : FuncData} (F : Fun K "look_at_block" "look_at_block" s_look_at_block f fd) (X : Lk K w mg CB) : FnOk P w K mg base CX0 1 f fd ["look", "block"] (spBlk0 CB) := by
  refine F.ok sc_look_at_block (fun vs H Q E h => ?_) (fun cdv A outer s H vs Q E hr h => ?_)
  · obtain ⟨p, a, pf, fn, ov, fv, b, L, rs, rfl, _⟩ := h
    rfl
  · obtain ⟨p, a, pf, fn, ov, fv, b, L, rs, rfl, hp, hL, ha, hn, q⟩ := h
    refine ⟨_, pss_cons (ps_set (i := 2) sc_look_at_block.nd rfl (Or.inl rfl) (pe_callB call_len_seq (by rfl) X.c.len PySem.boot_len (pa_cons (pe_fld (pv 0) rfl) pa_nil)))
      (pss_cons (ps_for PassesOwn.never rfl (pi_tup (pv 1)) (pg_name (i := 3) sc_look_at_block.nd rfl (Or.inl rfl)) pss_no)
      (pss_one (DS.ps_delTail (pe_fld (pv 0) rfl) (pv 2)))), ?_⟩
    obtain ⟨dx, hp'⟩ := id hp
    refine ⟨_, rfl, p, CB, dx, _, _, rfl, hp', X.c.cl, X.c.n6, lk_reach, L, rs, rfl, .inl (SqL.of hL), ?_⟩
    refine ⟨_, rfl, a, rfl, ⟨[], SqT.of ha⟩, ?_⟩
    refine for_tup (xs := []) (fun i σ H' => (∃ s3 s4, σ = [some (.ref p), some (.ref a), some (.int ((rs.length : Nat) : Int)), s3, s4]) ∧ H' = H) ⟨⟨_, _, rfl⟩, rfl⟩ (fun i σ H' _ h2 => by rw [h2.2]; exact SqT.of ha) ?_ ?_
    · rintro i x σ H1 hxi _
      cases i <;> cases hxi
    · rintro σ H1 ⟨⟨s3, s4, rfl⟩, rfl⟩
      refine ⟨_, rfl, p, CB, dx, _, _, rfl, hp', X.c.cl, X.c.n6, lk_reach, ?_⟩
      refine ⟨_, rfl, _, rfl, L, rs, _, rfl, rfl, hL, by omega, by omega, ?_⟩
      refine q _ fun c o e => ?_
      by_cases hc : c = L
      · subst hc
        rw [upd_same, Int.toNat_natCast, List.take_length, ← hL]
        exact e
      · rw [upd_ne hc]
        exact e
def spWhile1 (C CB : Addr) : Sp := fun vs H Q _ => ∃ (p pf : Addr) (v : V) (fn ov fv : V) (b i : Int) (L : Addr) (rs : List V) (cs : List Cl), vs = [.ref p, v, .int i] ∧ LkAt CB H p (.ref pf) fn ov fv b L ∧ H L = some (.lst rs) ∧ rs.length ≤ 1000 ∧ FamAt C H pf cs ∧ cs.length ≤ 12 ∧ Dv H v wst ∧
  ∀ H' b', LkAt CB H' p (.ref pf) fn ov fv b' L → Kp p H H' → Q .non H'
theorem ok_while1 {f : Addr} {fd : FuncData} (F : Fun K "look_at_while" "look_at_while" s_look_at_while f fd) (X : Lk K w mg CB) {fL fB fK fF fS : Addr} {dL dB dK dF dS : FuncData} (Y : Fits K C fL fB fK fF fS dL dB dK dF dS) (T0 : FmC K mg C) :
    FnOk P w K mg base CX0 6 f fd ["look", "statement", "at"] (spWhile1 C CB) := by
  obtain ⟨fO, dO, GO⟩ := X.fit
  obtain ⟨fQ, dQ, GQ⟩ := X.blk
  have G1 : FnOk P w K mg base CX0 5 fO dO ["look", "part", "wanted"] (spFit1 C CB) := ok_fit1 GO.F X Y T0
  have G2 : FnOk P w K mg base CX0 1 fQ dQ ["look", "block"] (spBlk0 CB) := ok_blk0 GQ.F X
  refine F.ok sc_look_at_while (fun vs H Q E h => ?_) (fun cdv A outer s H vs Q E hr h => ?_)
  · obtain ⟨p, pf, v, fn, ov, fv, b, i, L, rs, cs, rfl, _⟩ := h
    rfl
  · obtain ⟨p, pf, v, fn, ov, fv, b, i, L, rs, cs, rfl, hp, hL, hn, hf, hl, hv, q⟩ := h
    refine ⟨_, pss_cons (ps_expr (pe_call G1 hr (by rfl) GO.g GO.F.kp GO.b .nil pass0 (pa_cons (pv 0) (pa_cons (pe_ix ix_tup (pv 1) pe_int (fun _ _ => rfl)) (pa_cons pe_str pa_nil)))))
      (pss_one (ps_expr (pe_call G2 (hr.mono (by decide)) (by rfl) GQ.g GQ.F.kp GQ.b .nil pass0 (pa_cons (pv 0) (pa_cons (pe_ix ix_tup (pv 1) pe_int (fun _ _ => rfl)) pa_nil))))), ?_⟩
    obtain ⟨a, xs, rfl, ha, _, r1⟩ := hv.tupE
    obtain ⟨u0, us, rfl, h0, r2⟩ := r1.consE
    obtain ⟨u1, us, rfl, h1, r2⟩ := r2.consE
    obtain ⟨u2, us, rfl, h2, r2⟩ := r2.consE
    obtain rfl := r2.nilE
    obtain ⟨a2, ys, rfl, ha2, _, r3⟩ := h2.tupE
    obtain rfl := r3.nilE
    refine ⟨_, rfl, _, rfl, a, _, 1, u1, rfl, rfl, SqT.of ha, atI_nat (j := 1) rfl, ?_⟩
    refine ⟨p, pf, u1, fn, ov, fv, b, L, cs, rfl, hp, hf, hl, h1, fun H1 hp1 k1 => ?_⟩
    obtain ⟨dx, hp'⟩ := id hp
    have ha1 := hp.tup k1 _ _ ha
    have ha21 := hp.tup k1 _ _ ha2
    have hL1 := k1 _ _ (ne_of hL hp' (by intro z; cases z)) hL
    refine ⟨_, rfl, _, rfl, a, _, 2, .ref a2, rfl, rfl, SqT.of ha1, atI_nat (j := 2) rfl, ?_⟩
    refine ⟨p, a2, _, fn, ov, fv, b + 1, L, rs, rfl, hp1, hL1, ha21, hn, fun H2 s2 => ?_⟩
    obtain ⟨dx1, hp1'⟩ := id hp1
    exact q H2 (b + 1) ⟨dx1, s2 _ _ hp1'⟩ (k1.trans fun c o _ e => s2 c o e)
/-- the one body's block -/
def spBlk1 (C CB : Addr) : Sp := fun vs H Q _ => ∃ (p pf : Addr) (v : V) (fn ov fv : V) (b : Int) (L : Addr) (rs : List V) (cs : List Cl), vs = [.ref p, v] ∧ LkAt CB H p (.ref pf) fn ov fv b L ∧ H L = some (.lst rs) ∧ rs.length ≤ 1000 ∧ FamAt C H pf cs ∧ cs.length ≤ 12 ∧ Dv H v (.tuple WB.py) ∧
  ∀ H' b', LkAt CB H' p (.ref pf) fn ov fv b' L → Kp p H H' → Q .non H'
theorem ok_blk1 {f : Addr} {fd : FuncData} (F : Fun K "look_at_block" "look_at_block" s_look_at_block f fd) (X : Lk K w mg CB) {fL fB fK fF fS : Addr} {dL dB dK dF dS : FuncData} (Y : Fits K C fL fB fK fF fS dL dB dK dF dS) (T0 : FmC K mg C) :
    FnOk P w K mg base CX0 7 f fd ["look", "block"] (spBlk1 C CB) := by
  obtain ⟨fW, dW, GW, aR, es, n, gR, DR, nR⟩ := X.wh
  obtain ⟨fB, dB, MB⟩ := X.beg
  have G1 : FnOk P w K mg base CX0 6 fW dW ["look", "statement", "at"] (spWhile1 C CB) := ok_while1 GW.F X Y T0
  have GB : FnOk P w K mg base CX0 1 fB dB ["self"] (spBegin CB) := ok_begin MB.F X.c
  refine F.ok sc_look_at_block (fun vs H Q E h => ?_) (fun cdv A outer s H vs Q E hr h => ?_)
  · obtain ⟨p, pf, v, fn, ov, fv, b, L, rs, cs, rfl, _⟩ := h
    rfl
  · obtain ⟨p, pf, v, fn, ov, fv, b, L, rs, cs, rfl, hp, hL, hn, hf, hl, hv, q⟩ := h
    refine ⟨_, pss_cons (ps_set (i := 2) sc_look_at_block.nd rfl (Or.inl rfl) (pe_callB call_len_seq (by rfl) X.c.len PySem.boot_len (pa_cons (pe_fld (pv 0) rfl) pa_nil)))
      (pss_cons (ps_for PassesOwn.never rfl (pi_tup (pv 1)) (pg_name (i := 3) sc_look_at_block.nd rfl (Or.inl rfl))
        (pss_cons (ps_set (i := 4) sc_look_at_block.nd rfl (Or.inl rfl) (pe_ix ix_kdict (pe_glob (v := .ref aR) (by rfl) gR rfl) (pe_ix ix_tup (pv 3) pe_int (fun _ _ => rfl)) (fun _ _ => rfl)))
        (pss_one (ps_expr (ET.pe_callT (i := 4) (S := fun g sp => g = fW ∧ sp = spWhile1 C CB) (E := fun _ _ _ => False) (fun g sp e => ⟨dW, ["look", "statement", "at"], by rw [e.1, e.2]; exact G1, by rw [e.1]; exact GW.F.kp, GW.b⟩) hr rfl (Or.inl rfl) pass0
          (pa_cons (pv 0) (pa_cons (pv 3) (pa_cons (pe_meth0 (pv 0) X.c.cl MB.m GB (hr.mono (by decide)) MB.b .nil pass0) pa_nil))))))))
      (pss_one (DS.ps_delTail (pe_fld (pv 0) rfl) (pv 2)))), ?_⟩
    obtain ⟨dx, hp'⟩ := id hp
    obtain ⟨a, xs, rfl, ha, _, r1⟩ := hv.tupE
    obtain ⟨u0, us, rfl, h0, r2⟩ := r1.consE
    obtain rfl := r2.nilE
    refine ⟨_, rfl, p, CB, dx, _, _, rfl, hp', X.c.cl, X.c.n6, lk_reach, L, rs, rfl, .inl (SqL.of hL), ?_⟩
    refine ⟨_, rfl, a, rfl, ⟨[u0], SqT.of ha⟩, ?_⟩
    have hLp : L ≠ p := ne_of hL hp' (by intro z; cases z)
    refine for_tup (xs := [u0]) (fun i σ H' => (∃ s3 s4, σ = [some (.ref p), some (.ref a), some (.int ((rs.length : Nat) : Int)), s3, s4]) ∧ Kp p H H' ∧ ∃ b', LkAt CB H' p (.ref pf) fn ov fv b' L) ⟨⟨_, _, rfl⟩, Kp.refl H, b, hp⟩ (fun i σ H' _ h2 => SqT.of (hp.tup h2.2.1 _ _ ha)) ?_ ?_
    · rintro i x σ H1 hxi ⟨⟨s3, s4, rfl⟩, k1, b1, hp1⟩
      obtain rfl : x = u0 := by
        cases i with
        | zero => exact (Option.some.inj hxi).symm
        | succ i => cases hxi
      have h01 := h0.same (hp.tup k1)
      obtain ⟨a1, ys, rfl, ha1, _, r3⟩ := id h01.tupE
      obtain ⟨w0, ws, rfl, g0, r4⟩ := r3.consE
      obtain ⟨rfl, _⟩ := g0.strE
      refine ⟨_, rfl, a1, _, 0, .str "while", rfl, rfl, SqT.of ha1, atI_nat (j := 0) rfl, aR, "while", .ref fW, rfl, rfl, KDict.dct DR nR rfl, ?_⟩
      obtain ⟨dx1, hp1'⟩ := id hp1
      refine ⟨fW, _, rfl, ⟨rfl, rfl⟩, _, rfl, _, rfl, _, rfl, p, dx1, _, rfl, hp1', lk_no (by decide +kernel) (by decide +kernel) (by decide +kernel) (by decide +kernel) (by decide +kernel) (by decide +kernel), ?_⟩
      refine ⟨p, _, fn, ov, fv, b1, L, rfl, hp1, fun H2 hp2 k2 => ?_⟩
      have k12 := k1.trans k2
      refine ⟨p, pf, .ref a1, fn, ov, fv, b1 + 1, b1, L, rs, cs, rfl, hp2, k12 _ _ hLp hL, hn, FamAt.kp hf hp k12, hl, h0.same (hp.tup k12), fun H3 b3 hp3 k3 => ?_⟩
      exact ⟨⟨_, _, rfl⟩, k12.trans k3, b3, hp3⟩
    · rintro σ H1 ⟨⟨s3, s4, rfl⟩, k1, b1, hp1⟩
      obtain ⟨dx1, hp1'⟩ := id hp1
      have hL1 := k1 _ _ hLp hL
      refine ⟨_, rfl, p, CB, dx1, _, _, rfl, hp1', X.c.cl, X.c.n6, lk_reach, ?_⟩
      refine ⟨_, rfl, _, rfl, L, rs, _, rfl, rfl, hL1, by omega, by omega, ?_⟩
      have s2 : ∀ c o, H1 c = some o → (upd H1 L (.lst (rs.take ((rs.length : Nat) : Int).toNat))) c = some o := fun c o e => by
        by_cases hc : c = L
        · subst hc
          rw [upd_same, Int.toNat_natCast, List.take_length, ← hL1]
          exact e
        · rw [upd_ne hc]
          exact e
      exact q _ b1 ⟨dx1, s2 _ _ hp1'⟩ (k1.trans fun c o _ e => s2 c o e)
/-- ends_block of the one statement, is_ended of the one body: True -/
def spEb : Sp := fun vs H Q _ => ∃ (v : V), vs = [v] ∧ Dv H v wst ∧ ∀ H', Same H H' → Q (.bl true) H'
theorem eqv_tt : PyData.eqv (Ex.truth true).py (.tuple [.str "truth", .bool true]) = true := by decide +kernel
theorem ok_eb {f : Addr} {fd : FuncData} (F : Fun K "ends_block" "ends_block" s_ends_block f fd) : FnOk P w K mg base CX0 1 f fd ["statement"] spEb := by
  refine F.ok sc_ends_block (fun vs H Q E h => ?_) (fun cdv A outer s H vs Q E hr h => ?_)
  · obtain ⟨v, rfl, _⟩ := h
    rfl
  · obtain ⟨v, rfl, hv, q⟩ := h
    refine ⟨_, pss_cons (ps_set (i := 1) sc_ends_block.nd rfl (Or.inl rfl) (pe_ix ix_tup (pv 0) pe_int (fun _ _ => rfl)))
      (pss_cons (ps_if (PW.pt (pw_or (pt_cmpR op_eq (pv 1) pe_str (nomark _)) (pw_or1 (pt_cmpR op_eq (pv 1) pe_str (nomark _))))) pss_no pss_nil)
      (pss_cons (ps_if (pt_cmpR op_eq (pv 1) pe_str (nomark _)) pss_no pss_nil)
      (pss_cons (ps_if (pt_cmpR op_eq (pv 1) pe_str (nomark _)) pss_no pss_nil)
      (pss_one (ps_ret (pe_and (pe_cmpR op_eq (pv 1) pe_str (nomark _)) (pe_one (pe_cmpR (op_eqD hr.units) (pe_ix ix_tup (pv 0) pe_int (fun _ _ => rfl)) (pe_tup (pa_cons pe_str (pa_cons pe_bl pa_nil))) (nomark _))))))))), ?_⟩
    obtain ⟨a, xs, rfl, ha, _, r1⟩ := hv.tupE
    obtain ⟨u0, us, rfl, h0, r2⟩ := r1.consE
    obtain ⟨u1, us, rfl, h1, r2⟩ := r2.consE
    obtain ⟨rfl, _⟩ := h0.strE
    refine ⟨_, rfl, a, _, 0, .str "while", rfl, rfl, SqT.of ha, atI_nat (j := 0) rfl, ?_⟩
    have d0 : ∀ z : Str, ("while" : Str) ≠ z → decide (V.str "while" = V.str z) = false := fun z h => decide_eq_false fun e => h (by injection e)
    refine ⟨_, rfl, rfl, _, rfl, ?_⟩
    rw [d0 "return" (by decide +kernel)]
    refine iteF ⟨_, rfl, rfl, _, rfl, ?_⟩
    rw [d0 "throw" (by decide +kernel)]
    refine iteF ⟨_, rfl, rfl, _, rfl, ?_⟩
    rw [d0 "if" (by decide +kernel)]
    refine iteF ⟨_, rfl, rfl, _, rfl, ?_⟩
    rw [d0 "try" (by decide +kernel)]
    refine iteF ⟨_, rfl, rfl, true, (by rw [decide_eq_true rfl]), ?_⟩
    refine ⟨_, rfl, a, _, 1, u1, rfl, rfl, SqT.of ha, atI_nat (j := 1) rfl, by show 2 ≤ sizeLine; decide, fun t nt => ?_⟩
    have s1 : Same H (upd H t (.tup [.str "truth", .bl true])) := fun b o e => by rw [upd_ne (ne_of_none e nt)]; exact e
    refine ⟨(Ex.truth true).py, .tuple [.str "truth", .bool true], (h1.same (TupSame.of s1)).dp K, .tup (SqT.of upd_same) (.cons (.str _) (.cons (.bl _) .nil)), by decide +kernel, by decide +kernel, ?_⟩
    rw [eqv_tt]
    exact q _ s1
def spIe : Sp := fun vs H Q _ => ∃ (v : V), vs = [v] ∧ Dv H v (.tuple WB.py) ∧ ∀ H', Same H H' → Q (.bl true) H'
theorem ok_ie {f : Addr} {fd : FuncData} (F : Fun K "is_ended" "is_ended" s_is_ended f fd) (X : Lk K w mg CB) : FnOk P w K mg base CX0 2 f fd ["block"] spIe := by
  obtain ⟨fE, dE, GE⟩ := X.eb
  have G1 : FnOk P w K mg base CX0 1 fE dE ["statement"] spEb := ok_eb GE.F
  refine F.ok sc_is_ended (fun vs H Q E h => ?_) (fun cdv A outer s H vs Q E hr h => ?_)
  · obtain ⟨v, rfl, _⟩ := h
    rfl
  · obtain ⟨v, rfl, hv, q⟩ := h
    refine ⟨_, pss_cons (ps_for PassesOwn.never rfl (pi_tup (pv 0)) (pg_name (i := 1) sc_is_ended.nd rfl (Or.inl rfl))
        (pss_one (ps_if (pt_val (pe_call G1 hr (by rfl) GE.g GE.F.kp GE.b .nil pass0 (pa_cons (pv 1) pa_nil))) (pss_one (ps_ret pe_bl)) pss_nil))) pss_no, ?_⟩
    obtain ⟨a, xs, rfl, ha, _, r1⟩ := hv.tupE
    obtain ⟨u0, us, rfl, h0, r2⟩ := r1.consE
    obtain rfl := r2.nilE
    refine ⟨_, rfl, a, rfl, ⟨[u0], SqT.of ha⟩, ?_⟩
    refine for_tup (xs := [u0]) (fun i σ H' => (∃ s3, σ = [some (.ref a), s3]) ∧ H' = H ∧ i = 0) ⟨⟨_, rfl⟩, rfl, rfl⟩ (fun i σ H' _ h2 => by rw [h2.2.1]; exact SqT.of ha) ?_ ?_
    · rintro i x σ H1 hxi ⟨⟨s3, rfl⟩, rfl, rfl⟩
      obtain rfl : x = u0 := (Option.some.inj hxi).symm
      refine ⟨_, rfl, x, rfl, h0, fun H2 s2 => ⟨true, rfl, iteT ?_⟩⟩
      exact q H2 s2
    · rintro σ H1 ⟨_, _, e⟩
      cases e
/-- a function whose body is the one -/
def spBodyL (C CB : Addr) : Sp := fun vs H Q _ => ∃ (pf : Addr) (fn ov v : V) (f : Fn) (cs : List Cl), vs = [.ref pf, fn, ov, v] ∧ FamAt C H pf cs ∧ cs.length ≤ 12 ∧ Dv H v f.py ∧ f.body = WB ∧ f.params.length ≤ 6 ∧ ∀ H', Same H H' → Q .non H'
theorem ok_bodyL {f : Addr} {fd : FuncData} (F : Fun K "look_at_body" "look_at_body" s_look_at_body f fd) (X : Lk K w mg CB) {fL fB fK fF fS : Addr} {dL dB dK dF dS : FuncData} (Y : Fits K C fL fB fK fF fS dL dB dK dF dS) (T0 : FmC K mg C) :
    FnOk P w K mg base CX0 8 f fd ["family", "functions", "owner", "function"] (spBodyL C CB) := by
  obtain ⟨fI, dI, MK, FI, bI⟩ := X.ini
  obtain ⟨fQ, dQ, GQ⟩ := X.blk
  obtain ⟨fE, dE, GE⟩ := X.ie
  have GI : FnOk P w K mg base CX0 1 fI dI ["self", "family", "functions", "owner", "function"] (spInitL CB) := ok_initL FI X.c
  have G1 : FnOk P w K mg base CX0 7 fQ dQ ["look", "block"] (spBlk1 C CB) := ok_blk1 GQ.F X Y T0
  have G2 : FnOk P w K mg base CX0 2 fE dE ["block"] spIe := ok_ie GE.F X
  refine F.ok sc_look_at_body (fun vs H Q E h => ?_) (fun cdv A outer s H vs Q E hr h => ?_)
  · obtain ⟨pf, fn, ov, v, f, cs, rfl, _⟩ := h
    rfl
  · obtain ⟨pf, fn, ov, v, f, cs, rfl, hf, hl, hv, hb, hps, q⟩ := h
    refine ⟨_, pss_cons (ps_set (i := 4) sc_look_at_body.nd rfl (Or.inl rfl) (pe_make MK GI (hr.mono (by decide)) (by rfl) X.g bI .nil pass0 (pa_cons (pv 0) (pa_cons (pv 1) (pa_cons (pv 2) (pa_cons (pv 3) pa_nil))))))
      (pss_cons (ps_expr (pe_call G1 hr (by rfl) GQ.g GQ.F.kp GQ.b .nil pass0 (pa_cons (pv 4) (pa_cons (pe_ix ix_tup (pv 3) pe_int (fun _ _ => rfl)) pa_nil))))
      (pss_one (ps_if (PW.pt (pw_and (pt_cmpR op_notN (pe_ix ix_tup (pv 3) pe_int (fun _ _ => rfl)) pe_non (nomark _)) (pw_and1 (pt_not (pt_val (pe_call G2 (hr.mono (by decide)) (by rfl) GE.g GE.F.kp GE.b .nil pass0 (pa_cons (pe_ix ix_tup (pv 3) pe_int (fun _ _ => rfl)) pa_nil)))))))
        pss_no pss_nil))), ?_⟩
    obtain ⟨a, xs, rfl, ha, hxl, r1⟩ := hv.tupE
    obtain ⟨u0, us, rfl, h0, r2⟩ := r1.consE
    obtain ⟨u1, us, rfl, h1, r2⟩ := r2.consE
    obtain ⟨u2, us, rfl, h2, r2⟩ := r2.consE
    obtain ⟨u3, us, rfl, h3, r2⟩ := r2.consE
    obtain rfl := r2.nilE
    rw [hb] at h3
    obtain ⟨pa, ps, rfl, hpa, hpl, r3⟩ := h1.tupE
    refine ⟨_, rfl, _, rfl, _, rfl, _, rfl, fun p dx np nd ne => ?_⟩
    have s0 : Same H (upd (upd H dx (.own p)) p (.ins CB dx [])) := fun b o e => by rw [upd_ne (ne_of_none e np), upd_ne (ne_of_none e nd)]; exact e
    refine ⟨p, dx, a, pa, .ref pf, fn, ov, _, ps, rfl, upd_same, s0 _ _ ha, rfl, s0 _ _ hpa, hxl, fun L H1 nL hp1 hL1 k1 => ⟨rfl, ?_⟩⟩
    have s1 : Same H H1 := fun b o e => k1 b o (ne_of_none e np) (s0 b o e)
    have hf1 : FamAt C H1 pf cs := hf.still (Still.of s1)
    have hlen : ps.length ≤ 1000 := hpl
    refine ⟨_, rfl, _, rfl, a, _, 3, u3, rfl, rfl, SqT.of (s1 _ _ ha), atI_nat (j := 3) rfl, ?_⟩
    refine ⟨p, pf, u3, fn, ov, .ref a, 0, L, ps, cs, rfl, hp1, hL1, hlen, hf1, hl, h3.same (TupSame.of s1), fun H2 b2 hp2 k2 => ?_⟩
    have s2 : Same H H2 := fun b o e => k2 b o (ne_of_none e np) (s1 b o e)
    refine ⟨_, rfl, a, _, 2, u2, rfl, rfl, SqT.of (s2 _ _ ha), atI_nat (j := 2) rfl, ?_⟩
    refine ⟨rfl, _, rfl, ?_⟩
    by_cases hn : u2 = .non
    · rw [decide_eq_true hn]
      exact iteF (q H2 s2)
    · rw [decide_eq_false hn]
      refine iteT ?_
      refine ⟨_, rfl, a, _, 3, u3, rfl, rfl, SqT.of (s2 _ _ ha), atI_nat (j := 3) rfl, ?_⟩
      refine ⟨u3, rfl, h3.same (TupSame.of s2), fun H3 s3 => ⟨true, rfl, iteF (q H3 (s2.trans s3))⟩⟩
end
end BL

/-! y = {k: v for ..}. -/
namespace DS
open PySem PySem.Spec PyProof.Rows L2
section
variable {X : Cx}
theorem sw_trueD {kx vx : Expr} {gs : List Comprehension} {scope : Scope} {pos py : Pos} {y : Str} {l : Nat} {env : Env} (hk : env.scope.kind = .function) (hy : env.scope.names.lookup y = some .local) (hl : (py.line == pos.line) = true)
    (ha : (scope.names.any fun (n, k) => n == y && (k == .local || k == .cell)) = false) : swapsWith (.DictComp kx vx gs scope pos) (some (.Name y py)) l env = pure true := by
  have ky : env.kindOf y = some .local := hy
  have hb : env.blockKind = .function := by unfold Env.blockKind; rw [hk]; rfl
  unfold swapsWith
  simp only [hb, ky, ha, Expr.pos, hl]
  rfl
theorem ps_setDc {i : Nat} {y : Str} {py : Pos} {kx vx tg iter : Expr} {ifs : List Expr} {scope : Scope} {own : List (Str × Nat)} {pos spos : Pos} {wi : TI} {g : TG} {tt : TT} {tk tv : TE} (hc : X.calm = true) (hN : X.N.Nodup) (hy : X.N[i]? = some y) (hyl : X.env.scope.names.lookup y = some .local)
    (hsw : swapsWith (.DictComp kx vx [⟨tg, iter, ifs, 0⟩] scope pos) (some (.Name y py)) spos.line X.env = pure true) (hi : PI X tg iter wi) (ok : BlkOk X.N X.env.scope scope own)
    (hg : ∀ (s : Shared) (H : Hp) (C : Addr) (cl : List (Str × Addr)) (fp : List Addr), PG (X.blk s H scope (compEnvC scope cl C X.env) fp) tg g) (ht : ∀ (s : Shared) (H : Hp) (C : Addr) (cl : List (Str × Addr)) (fp : List Addr), PTs (X.blk s H scope (compEnvC scope cl C X.env) fp) ifs tt)
    (hk : ∀ (s : Shared) (H : Hp) (C : Addr) (cl : List (Str × Addr)) (fp : List Addr), PE (X.blk s H scope (compEnvC scope cl C X.env) fp) kx tk)
    (he : ∀ (s : Shared) (H : Hp) (C : Addr) (cl : List (Str × Addr)) (fp : List Addr), PE (X.blk s H scope (compEnvC scope cl C X.env) fp) vx tv) (hs : ∀ x, foldedSetIterable iter X.env x = pure x := by intro _; rfl) :
    PS X (.Assign [.Name y py] (.DictComp kx vx [⟨tg, iter, ifs, 0⟩] scope pos) spos) (tAsg (tDc wi g tt tk tv (own.map (·.2))) (gName i)) := by
  refine ⟨fun pins s σ H D I h => ?_⟩
  rw [exec_Assign_Name_used _ _ _ _ hsw]
  refine wpAny_bind (wpAny_standAt (wpAny_bind ?_))
  show wpAny _ X.A (do let _ ← comprehension (.DictComp kx vx [⟨tg, iter, ifs, 0⟩] scope pos) scope X.env (firstIterPos [⟨tg, iter, ifs, 0⟩] pos) newDict false (eval iter X.env) (some (assign (.Name y py) X.env))) _ _ s
  have h : tDc wi g tt tk tv (own.map (·.2)) σ H (fun x H1 => gName i x σ H1 D.nx) := h
  refine wpAny_bind (thn (dc_core (Qf := fun _ s' => SP X pins D .next s') hc hN I hi ok hg ht hk he hs h fun L C s' m H' I' q hn f => ?_) fun _ s' hq => wpAny_pure (wpAny_pure hq))
  show wpAny _ _ (assign (.Name y py) X.env (.ref L)) _ _ _
  refine wpAny_assign_Name (store_ok2 (v := V.ref L) I' hN hy (.inl hyl) rfl (fun s2 I2 ⟨a, sb, ha⟩ => ?_) (.inr hyl))
  obtain ⟨f0, f1, f2, f3, f4, f5⟩ := f
  have haC : C ≠ a := by
    rcases ha with z | z
    · rw [z]; exact f1
    · exact fun e => f4 y a z e.symm
  refine ⟨m, hn.sameBut sb haC, fun h3 sb3 => ?_⟩
  exact ⟨_, H', I2.turned (t' := s2.toks) (fun b o hb e => (sb3.2 b hb).trans e) f0 f1 f3 f4 f5, q⟩
end
end DS

/-! checked and check. -/
namespace CK
open PySem PySem.Spec PyProof.Rows L2 PV PF T ET PB PP FM KE0 KR WR BL
def seqW : Option Wrong → Option Wrong → Option Wrong
  | some w, _ => some w
  | none, r => r
def checkW (cs : List Cl) (fs : List Fn) : Option Wrong := seqW (clsW cs [] cs) (seqW (cs.findSome? fun c => methsW cs c [] c.methods) (seqW (headsW cs none [] fs) (mainW fs)))
theorem out_seq {CN : Addr} {H H1 : Hp} {r1 r2 : Option Wrong} {Q Q' : VK} {E : XK} (s : Same H H1) (q : Out CN H (seqW r1 r2) Q E) (k : ∀ H', Same H1 H' → r1 = none → Out CN H r2 Q E → Q' .non H') : Out CN H1 r1 Q' E := by
  cases r1 with
  | some w => exact fun d H' s' t => q d H' (s.trans s') t
  | none => exact fun H' s' => k H' s' rfl q
theorem out_found {CN : Addr} {H H1 : Hp} {r1 r : Option Wrong} {Q Q' : VK} {E : XK} (s : Same H H1) (q : Out CN H r Q E) (h : ∀ w, r1 = some w → r = some w) (k : ∀ H', Same H1 H' → r1 = none → Q' .non H') : Out CN H1 r1 Q' E := by
  cases r1 with
  | some w =>
    rw [h w rfl] at q
    exact fun d H' s' t => q d H' (s.trans s') t
  | none => exact fun H' s' => k H' s' rfl
theorem name_so {z : Str} (h : nameB z = true) : PyData.strOk z = true := by
  have := (name_fine h).2
  unfold PyData.strOk
  rw [← Array.all_toList]
  refine List.all_eq_true.mpr fun c hc => ?_
  have l : ∀ c ∈ letters.cps.toList ++ digits.cps.toList, c < 0x110000 := by decide +kernel
  unfold nameB at h
  simp only [Bool.and_eq_true, decide_eq_true_eq] at h
  obtain ⟨h1, h2, h3, h4, h5⟩ := h
  have hs := (List.all_eq_true.mp h5) c hc
  unfold signOk at hs
  simp only [Bool.or_eq_true, decide_eq_true_eq] at hs
  exact decide_eq_true (l c (List.mem_append.mpr hs))
theorem kind_rows : ∀ (k : Kd) (r : Nat), kindOk k r = true → rows k ≤ r ∧ so k = true
  | .int, r, _ => ⟨Nat.zero_le _, rfl⟩
  | .truth, r, _ => ⟨Nat.zero_le _, rfl⟩
  | .text, r, _ => ⟨Nat.zero_le _, rfl⟩
  | .nil, r, h => by cases h
  | .of n, r, h => ⟨Nat.zero_le _, name_so (by
      have : (nameB n && decide (n.length ≤ 1000)) = true := h
      exact (Bool.and_eq_true_iff.mp this).1)⟩
  | .row k, 0, h => by cases h
  | .row k, r + 1, h => by
    obtain ⟨h1, h2⟩ := kind_rows k r h
    exact ⟨Nat.succ_le_succ h1, h2⟩
theorem fn_hd {f : Fn} (h : fnOk f) : hdOk f ∧ mOk f ∧ parSo f.params = true := by
  obtain ⟨h1, ⟨h2, h3⟩, h4, _⟩ := h
  have hr : rowsO f.result < 5 ∧ soO f.result = true := by
    cases e : f.result with
    | none => exact ⟨by decide, rfl⟩
    | some k =>
      rw [e] at h4
      obtain ⟨a, b⟩ := kind_rows k 3 h4
      exact ⟨by show rows k < 5; omega, b⟩
  refine ⟨⟨h1, h2, fun p hp => ?_, hr.1⟩, ⟨⟨fun k hk => ?_, by omega, hr.2⟩, h2⟩, ?_⟩
  · have := (kind_rows _ 3 (h3 p hp).2).1
    omega
  · obtain ⟨p, hp, rfl⟩ := List.mem_map.mp hk
    obtain ⟨a, b⟩ := kind_rows _ 3 (h3 p hp).2
    exact ⟨b, by omega⟩
  · refine List.all_eq_true.mpr fun p hp => ?_
    obtain ⟨a, b⟩ := kind_rows _ 3 (h3 p hp).2
    rw [name_so (h3 p hp).1, b, decide_eq_true (by omega : rows p.2 ≤ 50)]
    rfl
theorem cl_hd {c : Cl} (h : clOk c) : clHdOk c := by
  obtain ⟨h1, _, ⟨h2, h3⟩, _⟩ := h
  refine ⟨h1, h2, fun p hp => ?_⟩
  have := (kind_rows _ 3 (h3 p hp).2).1
  omega
def bodies (cs : List Cl) (fs : List Fn) : Prop := (∀ c ∈ cs, ∀ f ∈ c.methods, f.body = WB) ∧ ∀ f ∈ fs, f.body = WB
structure ChP (P : Program) (K : PySem.W.Frag) (w : World) (mg : Str → Option Value) (CN C CB : Addr) : Prop where
  pg : Pg K w mg
  nl : Nl P K mg CN
  xf : XfC K CN
  te : PySem.W.exmOne K (.ref CN) (.ref CN) = some true
  fm : FmC K mg C
  mkf : ∃ f d, Mk K C f ∧ Fun K "__init__" "Family.__init__" s_Family_init f d ∧ Binds K d ["self", "classes"] []
  gF : mg "Family" = some (.ref C)
  has : ∃ f d, Md K C "has" "Family.has" s_Family_has ["self", "name"] f d
  kno : ∃ f d, Md K C "knows" "Family.knows" s_Family_knows ["self", "kind"] f d
  fk : ∃ f d, Md K C "field_kind" "Family.field_kind" s_Family_field_kind ["self", "name", "field"] f d
  ft : ∃ fL fB fK fF fS dL dB dK dF dS, Fits K C fL fB fK fF fS dL dB dK dF dS
  lk : Lk K w mg CB
  isp : ∃ f d, Gd K mg "is_program" s_is_program ["thing"] f d
  lac : ∃ f d, Gd K mg "look_at_classes" s_look_at_classes ["classes", "family"] f d
  lfi : ∃ f d, Gd K mg "look_at_fields" s_look_at_fields ["name", "above", "fields", "family"] f d
  lam : ∃ f d, Gd K mg "look_at_methods" s_look_at_methods ["each", "family"] f d
  lah : ∃ f d, Gd K mg "look_at_head" s_look_at_head ["family", "owner", "ahead", "function"] f d
  lao : ∃ f d, Gd K mg "look_at_override" s_look_at_override ["family", "owner", "above", "method"] f d
  hk : ∃ f d, Gd K mg "head_kinds" s_head_kinds ["function"] f d
  laf : ∃ f d, Gd K mg "look_at_functions" s_look_at_functions ["functions", "family"] f d
  lfm : ∃ f d, Gd K mg "look_for_main" s_look_for_main ["functions"] f d
  lab : ∃ f d, Gd K mg "look_at_body" s_look_at_body ["family", "functions", "owner", "function"] f d
section
variable {P : Program} {w : World} {K : PySem.W.Frag} {mg : Str → Option Value} {base : Heap} {CN C CB : Addr}
def spChecked (CN : Addr) : Sp := fun vs H Q E => ∃ (v : V) (cs : List Cl) (fs : List Fn), vs = [v] ∧ Dv H v (progPy cs fs) ∧ progOk cs fs ∧ bodies cs fs ∧ Out CN H (checkW cs fs) Q E
theorem ok_checked {f : Addr} {fd : FuncData} (F : Fun K "checked" "checked" s_checked f fd) (X : ChP P K w mg CN C CB) : FnOk P w K mg base (L2.CX P w) 93 f fd ["program"] (spChecked CN) := by
  obtain ⟨fP, dP, GP⟩ := X.isp
  obtain ⟨fI, dI, MK, FI, bI⟩ := X.mkf
  obtain ⟨fC, dC, GC⟩ := X.lac
  obtain ⟨fX, dX, GX⟩ := X.lfi
  obtain ⟨fM, dM, GM⟩ := X.lam
  obtain ⟨fH, dH, GH⟩ := X.lah
  obtain ⟨fO, dO, GO⟩ := X.lao
  obtain ⟨fG, dG, GG⟩ := X.hk
  obtain ⟨fU, dU, GU⟩ := X.laf
  obtain ⟨fN, dN, GN⟩ := X.lfm
  obtain ⟨fB, dB, GB⟩ := X.lab
  obtain ⟨f1, d1, M1⟩ := X.has
  obtain ⟨f2, d2, M2⟩ := X.kno
  obtain ⟨f3, d3, M3⟩ := X.fk
  obtain ⟨fL, fBb, fK, fF, fS, dL, dBb, dK, dF, dS, Y⟩ := X.ft
  have HP : FnOk P w K mg base CX0 92 fP dP ["thing"] spProg := ok_prog GP.F X.pg
  have HI : FnOk P w K mg base CX0 1 fI dI ["self", "classes"] (spInitF C) := ok_initF FI X.fm
  have HC : FnOk P w K mg base (L2.CX P w) 10 fC dC ["classes", "family"] (spClasses CN C) := ok_classes GC.F X.nl M2 M1 M3 Y.l Y.b GX X.fm
  have HM : FnOk P w K mg base (L2.CX P w) 10 fM dM ["each", "family"] (spMeths CN C) := ok_meths GM.F X.nl M2 M1 Y.l GH GO GG X.fm
  have HU : FnOk P w K mg base (L2.CX P w) 10 fU dU ["functions", "family"] (spFuns CN C) := ok_funs GU.F GH X.nl M2 M1 X.fm
  have HN : FnOk P w K mg base (L2.CX P w) 3 fN dN ["functions"] (spMain CN) := ok_main GN.F X.nl
  have HB : FnOk P w K mg base CX0 8 fB dB ["family", "functions", "owner", "function"] (spBodyL C CB) := ok_bodyL GB.F X.lk Y X.fm
  refine F.okX sc_checked (fun vs H Q E h => ?_) (fun cdv A outer s H vs Q E hr h => ?_)
  · obtain ⟨v, cs, fs, rfl, _⟩ := h
    rfl
  · obtain ⟨v, cs, fs, rfl, hv, hok, hb, q⟩ := h
    refine ⟨_, pss_cons (ps_if (pt_not (pt_val (pe_call HP hr (by rfl) GP.g GP.F.kp GP.b .nil pass0 (pa_cons (pv 0) pa_nil)))) pss_no pss_nil)
      (pss_cons (ps_asg (pv 0) (pg_tup rfl (pgs_cons (pg_name (i := 1) sc_checked.nd rfl (Or.inl rfl)) (pgs_cons (pg_name (i := 2) sc_checked.nd rfl (Or.inl rfl)) pgs_nil))))
      (pss_cons (ps_set (i := 3) sc_checked.nd rfl (Or.inl rfl) (pe_make MK HI (hr.mono (by decide)) (by rfl) X.gF bI .nil pass0 (pa_cons (pv 1) pa_nil)))
      (pss_cons (ps_expr (pe_callS HC (hr.mono (by decide)) (by rfl) GC.g GC.F.kp GC.b (fun σ => passAt (takes_of rfl rfl rfl rfl) σ) (by exact (pa_cons (pv 1) (pa_cons (pv 3) pa_nil)))))
      (pss_cons (ps_for (passes_of rfl) rfl (pi_tup (pv 1)) (pg_name (i := 4) sc_checked.nd rfl (Or.inl rfl))
        (pss_one (ps_expr (pe_callS HM (hr.mono (by decide)) (by rfl) GM.g GM.F.kp GM.b (fun σ => passAt (takes_of rfl rfl rfl rfl) σ) (by exact (pa_cons (pv 4) (pa_cons (pv 3) pa_nil)))))))
      (pss_cons (ps_expr (pe_callS HU (hr.mono (by decide)) (by rfl) GU.g GU.F.kp GU.b (fun σ => passAt (takes_of rfl rfl rfl rfl) σ) (by exact (pa_cons (pv 2) (pa_cons (pv 3) pa_nil)))))
      (pss_cons (ps_expr (pe_callS HN (hr.mono (by decide)) (by rfl) GN.g GN.F.kp GN.b (fun σ => passAt (takes_of rfl rfl rfl rfl) σ) (by exact (pa_cons (pv 2) pa_nil))))
      (pss_cons (DS.ps_setDc (i := 5) (own := [("function", 6)]) (g := gName 6) (tt := tYes) (tk := tOp (rIxT K) (tVar 6) (tC (.int 0))) (tv := tVar 6) rfl sc_checked.nd rfl rfl (DS.sw_trueD rfl rfl rfl (by decide +kernel)) (pi_tup (pv 2))
          (blkOk_by (N := ["program", "classes", "functions", "family", "each", "by_name", "function", "name", "_", "methods", "method"]) (sc := defScope s_checked) (by decide +kernel)) (fun _ _ _ _ _ => pg_name (i := 6) sc_checked.nd rfl (Or.inl rfl)) (fun _ _ _ _ _ => pts_nil)
          (fun _ _ _ _ _ => pe_ix ix_tup (pv 6) pe_int (fun _ _ => rfl)) (fun _ _ _ _ _ => pv 6))
      (pss_cons (ps_for (passes_of rfl) rfl (pi_tup (pv 1)) (pg_tup rfl (pgs_cons (pg_name (i := 7) sc_checked.nd rfl (Or.inl rfl)) (pgs_cons (pg_name (i := 8) sc_checked.nd rfl (Or.inl rfl)) (pgs_cons (pg_name (i := 8) sc_checked.nd rfl (Or.inl rfl)) (pgs_cons (pg_name (i := 9) sc_checked.nd rfl (Or.inl rfl)) pgs_nil)))))
        (pss_one (ps_for (passes_of rfl) rfl (pi_tup (pv 9)) (pg_name (i := 10) sc_checked.nd rfl (Or.inl rfl))
          (pss_one (ps_expr (pe_call HB (hr.mono (by decide)) (by rfl) GB.g GB.F.kp GB.b .nil pass0 (pa_cons (pv 3) (pa_cons (pv 5) (pa_cons (pv 7) (pa_cons (pv 10) pa_nil))))))))))
      (pss_one (ps_for (passes_of rfl) rfl (pi_tup (pv 2)) (pg_name (i := 6) sc_checked.nd rfl (Or.inl rfl))
        (pss_one (ps_expr (pe_call HB (hr.mono (by decide)) (by rfl) GB.g GB.F.kp GB.b .nil pass0 (pa_cons (pv 3) (pa_cons (pv 5) (pa_cons pe_non (pa_cons (pv 6) pa_nil))))))))))))))))), ?_⟩
    obtain ⟨o1, o2, o3, o4⟩ := id hok
    have hme : ∀ c ∈ cs, ∀ f ∈ c.methods, fnOk f := fun c hc f hf => (o3 c hc).2.2.2.2 f hf
    obtain ⟨a, xs, rfl, ha, _, r1⟩ := id hv.tupE
    obtain ⟨u0, us, rfl, g0, r2⟩ := r1.consE
    obtain ⟨u1, us, rfl, g1, r2⟩ := r2.consE
    obtain rfl := r2.nilE
    refine ⟨_, rfl, .ref a, cs, fs, rfl, hv, hok, fun H1 s1 => ⟨true, rfl, iteF ?_⟩⟩
    have ha1 := s1 _ _ ha
    refine ⟨_, rfl, a, _, rfl, SqT.of ha1, rfl, _, _, rfl, _, _, rfl, rfl, ?_⟩
    have g01 := g0.same (TupSame.of s1)
    have g11 := g1.same (TupSame.of s1)
    refine ⟨_, rfl, fun p dx np nd ne => ?_⟩
    have s2 : Same H1 (upd (upd H1 dx (.own p)) p (.ins C dx [])) := fun b o e => by rw [upd_ne (ne_of_none e np), upd_ne (ne_of_none e nd)]; exact e
    refine ⟨p, dx, u0, cs, rfl, upd_same, g01.same (TupSame.of s2), o1, fun H2 hf k2 => ⟨rfl, ?_⟩⟩
    have s3 : Same H H2 := fun b o e => k2 b o (s2 _ _ (s1 _ _ e)) (ne_of_none (s1 _ _ e) np)
    obtain ⟨a0, ys, rfl, ha0, _, r3⟩ := id g0.tupE
    obtain ⟨a1', zs, rfl, ha1', _, r4⟩ := id g1.tupE
    have hyl : ys.length = cs.length := by rw [r3.len, List.length_map]
    have hzl : zs.length = fs.length := by rw [r4.len, List.length_map]
    -- classes
    refine ⟨_, rfl, _, rfl, p, .ref a0, cs, rfl, hf, o1, g0.same (TupSame.of s3), fun c hc => cl_hd (o3 c hc), ?_⟩
    refine out_seq s3 q fun H3 s4 e1 q1 => ?_
    -- methods
    have t3 : Same H H3 := s3.trans s4
    have hf3 : FamAt C H3 p cs := hf.still (Still.of s4)
    refine ⟨_, rfl, a0, rfl, ⟨ys, SqT.of (t3 _ _ ha0)⟩, ?_⟩
    refine for_tup (xs := ys) (fun i σ H' => (∃ s4, σ = [some (.ref a), some (.ref a0), some (.ref a1'), some (.ref p), s4, none, none, none, none, none, none]) ∧ Same H3 H' ∧ (cs.take i).findSome? (fun c => methsW cs c [] c.methods) = none) ⟨⟨_, rfl⟩, fun _ _ e => e, rfl⟩ (fun i σ H' _ h => SqT.of (h.2.1 _ _ (t3 _ _ ha0))) ?_ ?_
    · rintro i x σ H4 hxi ⟨⟨s4', rfl⟩, k4, hn⟩
      have hi : i < cs.length := by
        have := (List.getElem?_eq_some_iff.mp hxi).1
        omega
      obtain ⟨v2, hv2, dv⟩ := r3.get (i := i) (d := cs[i].py) (by rw [List.getElem?_map, List.getElem?_eq_getElem hi]; rfl)
      obtain rfl : x = v2 := by
        rw [hxi] at hv2
        exact Option.some.inj hv2
      have hmem := List.getElem_mem hi
      refine ⟨_, rfl, _, rfl, p, x, cs[i], cs, rfl, hf3.still (Still.of k4), o1, dv.same (TupSame.of (t3.trans k4)), (o3 _ hmem).1, (o3 _ hmem).2.2.2.1, fun f hf => ⟨(fn_hd (hme _ hmem f hf)).1, (fn_hd (hme _ hmem f hf)).2.1⟩, fun d hd f hf => (fn_hd (hme d hd f hf)).2.1, ?_⟩
      refine out_found (t3.trans k4) q1 (fun w hw => ?_) fun H5 s5 e5 => ?_
      · rw [show cs.findSome? (fun c => methsW cs c [] c.methods) = some w from findSome_at hi hn hw]
        rfl
      · refine ⟨⟨_, rfl⟩, k4.trans s5, ?_⟩
        rw [List.take_add_one, List.getElem?_eq_getElem hi, List.findSome?_append, hn]
        show (none : Option Wrong).or ([cs[i]].findSome? _) = none
        simp [e5]
    rintro σ H4 ⟨⟨s4', rfl⟩, k4, hn⟩
    rw [hyl, List.take_length] at hn
    rw [hn] at q1
    have t4 := t3.trans k4
    -- functions
    refine ⟨_, rfl, _, rfl, p, .ref a1', fs, cs, rfl, hf3.still (Still.of k4), g1.same (TupSame.of t4), fun f hf => (fn_hd (o4 f hf)).1, by omega, ?_⟩
    refine out_seq t4 q1 fun H5 s5 e5 q2 => ?_
    have t5 := t4.trans s5
    refine ⟨_, rfl, .ref a1', fs, rfl, g1.same (TupSame.of t5), fun f hf => (fn_hd (o4 f hf)).2.2, ?_⟩
    have q3 : Out CN H (seqW (mainW fs) none) Q E := by
      have e : seqW (mainW fs) none = mainW fs := by cases mainW fs <;> rfl
      rw [e]
      exact q2
    refine out_seq t5 q3 fun H6 s6 e6 q4 => ?_
    have t6 := t5.trans s6
    have hf6 : FamAt C H6 p cs := ((hf3.still (Still.of k4)).still (Still.of s5)).still (Still.of s6)
    -- by_name
    refine ⟨_, rfl, a1', rfl, ⟨zs, SqT.of (t6 _ _ ha1')⟩, fun D nD => ?_⟩
    refine dc_tup (xs := zs) (fun i H' => Same H6 H' ∧ ∃ kvs, H' D = some (.dK kvs) ∧ kvs.length ≤ i) ⟨fun b o e => by rw [upd_ne (ne_of_none e nD)]; exact e, [], upd_same, Nat.le_refl _⟩ (fun i H' _ h => SqT.of (h.1 _ _ (t6 _ _ ha1'))) ?_ ?_
    · rintro i x H7 hxi ⟨k7, kvs, hD, hkl⟩
      have hi : i < fs.length := by
        have := (List.getElem?_eq_some_iff.mp hxi).1
        omega
      obtain ⟨v2, hv2, dv⟩ := r4.get (i := i) (d := fs[i].py) (by rw [List.getElem?_map, List.getElem?_eq_getElem hi]; rfl)
      obtain rfl : x = v2 := by
        rw [hxi] at hv2
        exact Option.some.inj hv2
      obtain ⟨b0, ws, rfl, hb0, _, w1⟩ := (dv.same (TupSame.of (t6.trans k7))).tupE
      obtain ⟨w0, us, rfl, w2, _⟩ := w1.consE
      obtain ⟨rfl, _⟩ := w2.strE
      refine ⟨rfl, iteT (B := Same H6 H7 ∧ ∃ kvs, H7 D = some (.dK kvs) ∧ kvs.length ≤ i + 1) ?_⟩
      refine ⟨_, rfl, b0, _, 0, .str fs[i].name, rfl, rfl, SqT.of hb0, atI_nat (j := 0) rfl, _, rfl, kvs, Sum.inr fs[i].name, rfl, hD, Nat.lt_of_le_of_lt (by omega : kvs.length ≤ 30) (by decide), ?_⟩
      refine ⟨fun b o e => by rw [upd_ne (ne_of_none e nD)]; exact k7 b o e, _, upd_same, ?_⟩
      have := putK_len kvs (Sum.inr fs[i].name) (.ref b0)
      omega
    rintro H7 ⟨k7, kvs, hD, hkl⟩
    have t7 := t6.trans k7
    -- bodies of methods
    refine ⟨_, rfl, a0, rfl, ⟨ys, SqT.of (t7 _ _ ha0)⟩, ?_⟩
    refine for_tup (xs := ys) (fun i σ H' => (∃ s4 s6 s7 s8 s9 s10, σ = [some (.ref a), some (.ref a0), some (.ref a1'), some (.ref p), s4, some (.ref D), s6, s7, s8, s9, s10]) ∧ Same H7 H') ⟨⟨_, _, _, _, _, _, rfl⟩, fun _ _ e => e⟩ (fun i σ H' _ h => SqT.of (h.2 _ _ (t7 _ _ ha0))) ?_ ?_
    · rintro i x σ H8 hxi ⟨⟨s4, s6, s7, s8, s9, s10, rfl⟩, k8⟩
      have hi : i < cs.length := by
        have := (List.getElem?_eq_some_iff.mp hxi).1
        omega
      obtain ⟨v2, hv2, dv⟩ := r3.get (i := i) (d := cs[i].py) (by rw [List.getElem?_map, List.getElem?_eq_getElem hi]; rfl)
      obtain rfl : x = v2 := by
        rw [hxi] at hv2
        exact Option.some.inj hv2
      have t8 := t7.trans k8
      obtain ⟨b0, ws, rfl, hb0, _, w1⟩ := (dv.same (TupSame.of t8)).tupE
      obtain ⟨w0, us, rfl, x0, w1⟩ := w1.consE
      obtain ⟨w1', us, rfl, x1, w1⟩ := w1.consE
      obtain ⟨w2', us, rfl, x2, w1⟩ := w1.consE
      obtain ⟨w3', us, rfl, x3, w1⟩ := w1.consE
      obtain rfl := w1.nilE
      obtain ⟨b3, ms, rfl, hb3, _, m1⟩ := x3.tupE
      have hml : ms.length = cs[i].methods.length := by rw [m1.len, List.length_map]
      refine ⟨b0, _, rfl, SqT.of hb0, rfl, _, _, rfl, _, _, rfl, _, _, rfl, _, _, rfl, rfl, ?_⟩
      refine ⟨_, rfl, b3, rfl, ⟨ms, SqT.of hb3⟩, ?_⟩
      refine for_tup (xs := ms) (fun j σ H' => (∃ s10, σ = [some (.ref a), some (.ref a0), some (.ref a1'), some (.ref p), s4, some (.ref D), s6, some w0, some w2', some (.ref b3), s10]) ∧ Same H8 H') ⟨⟨_, rfl⟩, fun _ _ e => e⟩ (fun j σ H' _ h => SqT.of (h.2 _ _ hb3)) ?_ ?_
      · rintro j y σ H9 hyj ⟨⟨s10, rfl⟩, k9⟩
        have hj : j < cs[i].methods.length := by
          have := (List.getElem?_eq_some_iff.mp hyj).1
          omega
        obtain ⟨v3, hv3, dm⟩ := m1.get (i := j) (d := cs[i].methods[j].py) (by rw [List.getElem?_map, List.getElem?_eq_getElem hj]; rfl)
        obtain rfl : y = v3 := by
          rw [hyj] at hv3
          exact Option.some.inj hv3
        refine ⟨_, rfl, _, rfl, _, rfl, _, rfl, p, .ref D, w0, y, cs[i].methods[j], cs, rfl, ((hf6.still (Still.of k7)).still (Still.of k8)).still (Still.of k9), o1, dm.same (TupSame.of k9), hb.1 _ (List.getElem_mem hi) _ (List.getElem_mem hj), (hme _ (List.getElem_mem hi) _ (List.getElem_mem hj)).2.1.1, fun H10 s10 => ?_⟩
        exact ⟨⟨_, rfl⟩, k9.trans s10⟩
      · rintro σ H9 ⟨⟨s10, rfl⟩, k9⟩
        exact ⟨⟨_, _, _, _, _, _, rfl⟩, k8.trans k9⟩
    rintro σ H8 ⟨⟨s4, s6, s7, s8, s9, s10, rfl⟩, k8⟩
    have t8 := t7.trans k8
    -- bodies of functions
    refine ⟨_, rfl, a1', rfl, ⟨zs, SqT.of (t8 _ _ ha1')⟩, ?_⟩
    refine for_tup (xs := zs) (fun i σ H' => (∃ s6, σ = [some (.ref a), some (.ref a0), some (.ref a1'), some (.ref p), s4, some (.ref D), s6, s7, s8, s9, s10]) ∧ Same H8 H') ⟨⟨_, rfl⟩, fun _ _ e => e⟩ (fun i σ H' _ h => SqT.of (h.2 _ _ (t8 _ _ ha1'))) ?_ ?_
    · rintro i x σ H9 hxi ⟨⟨s6, rfl⟩, k9⟩
      have hi : i < fs.length := by
        have := (List.getElem?_eq_some_iff.mp hxi).1
        omega
      obtain ⟨v2, hv2, dv⟩ := r4.get (i := i) (d := fs[i].py) (by rw [List.getElem?_map, List.getElem?_eq_getElem hi]; rfl)
      obtain rfl : x = v2 := by
        rw [hxi] at hv2
        exact Option.some.inj hv2
      refine ⟨_, rfl, _, rfl, _, rfl, p, .ref D, .non, x, fs[i], cs, rfl, ((hf6.still (Still.of k7)).still (Still.of k8)).still (Still.of k9), o1, dv.same (TupSame.of (t8.trans k9)), hb.2 _ (List.getElem_mem hi), (o4 _ (List.getElem_mem hi)).2.1.1, fun H10 s10 => ?_⟩
      exact ⟨⟨_, rfl⟩, k9.trans s10⟩
    rintro σ H9 ⟨_, k9⟩
    exact q4 H9 (t8.trans k9)
end
end CK

/-! f(k = v) that may raise; check; _law_told. -/
namespace DS
open PySem PySem.Spec PyProof.Rows L2
section
variable {X : Cx} {CX : CXT} {k n : Nat} {f : Addr} {fd : FuncData} {ps ks : List Str} {sp : Sp} {x : Str} {p pos : Pos} {kws : List Keyword} {tk : TA} {g : List Value → List Value → List Value} {gV : List V → List V → List V}
theorem run_fnNS {E : L2.St → XK} {pins : List (Addr × Obj)} {σ : L2.St} {H : Hp} {s : Shared} {Q : VK} {us ws : List Value} {vs zs : List V} (F : FnOk X.prog X.w X.K X.mg X.base CX k f fd ps sp) (hr : Room k X.A) (hb : KBn X.K fd ps n ks g gV) (hx : PassesAt CX X σ (E σ))
    (I : Inv X pins σ H s) (r : Vals vs us) (rz : Vals zs ws) (l1 : vs.length = n) (l2 : zs.length = ks.length) (h : sp (gV vs zs) H Q (E σ)) : wpAny (model X.prog X.w) X.A (call (.ref f) us (ks.zip ws)) (EP X pins σ Q) X.xe s := by
  have r2 := hb.rel r rz
  refine wpAny_call (codeAny_mono (F.run X.A X.stack s H ⟨us, ks.zip ws⟩ (g us ws) (gV vs zs) Q (E σ) hr I.env0 (hb.to s us ws I.kIn (r.length.symm.trans l1) (rz.length.symm.trans l2)) r2 h) fun r s' hq => ?_)
  cases r with
  | error e => exact hx pins H s e s' I hq
  | ok fl =>
    cases fl with
    | ret u => exact I.after hq
    | next => exact False.elim hq
    | brk => exact False.elim hq
    | cont => exact False.elim hq
def tCallNS0 (m : Nat) (sp : Sp) (gV : List V → List V → List V) (E : L2.St → XK) (tk : TA) : TE := fun σ H Q => tk σ H fun zs H2 => zs.length = m ∧ sp (gV [] zs) H2 Q (E σ)
theorem pe_callNS0 {E : L2.St → XK} (F : FnOk X.prog X.w X.K X.mg X.base CX k f fd ps sp) (hr : Room k X.A) (hg : Gl X x) (hm : X.mg x = some (.ref f)) (hk : PySem.W.keepIn X.K (.ref f) = true) (hb : KBn X.K fd ps 0 ks g gV) (hx : ∀ σ, PassesAt CX X σ (E σ)) (hkw : PK X kws tk)
    (hall : (backToKw pos (keywordEach kws X.env)).all (·.1.isSome) = true := by rfl) (hks : (backToKw pos (keywordEach kws X.env)).filterMap (·.1) = ks := by rfl) (hdb : (x == ("__debug__" : Str)) = false := by decide)
    (hpl : ((backTo pos (starEach [] X.env)).any (·.1) || (backToKw pos (keywordEach kws X.env)).any (·.1.isNone)) = false := by rfl) :
    PE X (.Call (.Name x p) [] kws pos) (tCallNS0 ks.length sp gV E tk) := by
  refine ⟨fun pins s σ H Q I h => ?_⟩
  refine wpAny_Call_Name_kw (ld_glob I hg hm ?_ hdb)
  refine PySem.W.callWith_KW0 (h₀ := X.base) I.ok.mod.kin hk hall ?_ hpl
  refine thn (hkw.run pos pins s σ H _ I h) fun ws s2 ⟨zs, H2, I2, rz, l2, q2⟩ => ⟨I2.kIn, ?_⟩
  rw [hks]
  exact run_fnNS (us := []) (vs := []) F hr hb (hx σ) I2 .nil rz rfl l2 q2
end
/-- a def of one parameter, called by its name -/
theorem kb_one {K : PySem.W.Frag} {x qual : Str} {st : Stmt} {f : Addr} {fd : FuncData} {p : Str} (F : Fun K x qual st f fd)
    (h : ∀ (kV doc pm : Value) (an : Option Addr) (cdv ct : Value) (w : Value), bindArgs (PySem.W.fnOf x qual (defArgs st) (defBody st) (defScope st) .none kV doc pm an cdv ct) ⟨[], [(p, w)]⟩ = pure [(p, w)]) : KBn K fd [p] 0 [p] (fun us ws => us ++ ws) (fun vs zs => vs ++ zs) := by
  obtain ⟨oc, od, kV, doc, pm, an, cdv, ct, osl, rfl, lk, hcd⟩ := F.ex
  refine ⟨fun s us ws X l1 l2 => ?_, fun r1 r2 => r1.append r2⟩
  obtain rfl := List.length_eq_zero_iff.mp l1
  obtain ⟨w, rfl⟩ := List.length_eq_one_iff.mp l2
  exact .of_eq (h kV doc pm an cdv ct w)
end DS
namespace CK
open PySem PySem.Spec PyProof.Rows L2 PV PF T ET PB PP FM KE0 KR WR BL
/-! ### what is told may be compared -/
def wOk (w : Wrong) : Prop := PyData.strOk w.word = true ∧ ∀ z, w.owner = some z ∨ w.name = some z → PyData.strOk z = true
theorem so1 : PyData.strOk ("double" : Str) = true := by decide +kernel
theorem so2 : PyData.strOk ("class" : Str) = true := by decide +kernel
theorem so3 : PyData.strOk ("override" : Str) = true := by decide +kernel
theorem wOk_cls {n : Str} (h : nameB n = true) {wd : Str} (hw : wd = "double" ∨ wd = "class" ∨ wd = "override") : wOk ⟨wd, some n, none, none⟩ := by
  refine ⟨by rcases hw with rfl | rfl | rfl <;> first | exact so1 | exact so2 | exact so3, fun z hz => ?_⟩
  rcases hz with e | e
  · cases e; exact name_so h
  · cases e
theorem wOk_hd {o : Option Str} {n : Str} (ho : ∀ z, o = some z → nameB z = true) (h : nameB n = true) {wd : Str} (hw : wd = "double" ∨ wd = "class" ∨ wd = "override") : wOk ⟨wd, o, some n, none⟩ := by
  refine ⟨by rcases hw with rfl | rfl | rfl <;> first | exact so1 | exact so2 | exact so3, fun z hz => ?_⟩
  rcases hz with e | e
  · exact name_so (ho z e)
  · cases e; exact name_so h
theorem fldWord_w {cs : List Cl} {above : Option Str} : ∀ (l : List (Str × Kd)) (t : List Str) (w : Str), fldWord cs above t l = some w → w = "double" ∨ w = "class" ∨ w = "override"
  | [], t, w, h => by cases h
  | p :: r, t, w, h => by
    have e : fldWord cs above t (p :: r) = (if p.1 ∈ t ∨ (fieldK cs above p.1).isSome = true then some ("double" : Str) else if knows cs p.2 = true then fldWord cs above (t ++ [p.1]) r else some ("class" : Str)) := rfl
    rw [e] at h
    split at h
    · cases h; exact .inl rfl
    · split at h
      · exact fldWord_w r _ w h
      · cases h; exact .inr (.inl rfl)
theorem parW_w {cs : List Cl} : ∀ (l : List (Str × Kd)) (t : List Str) (w : Str), parW cs t l = some w → w = "double" ∨ w = "class" ∨ w = "override"
  | [], t, w, h => by cases h
  | p :: r, t, w, h => by
    have e : parW cs t (p :: r) = (if p.1 ∈ t then some ("double" : Str) else if knows cs p.2 = true then parW cs (t ++ [p.1]) r else some ("class" : Str)) := rfl
    rw [e] at h
    split at h
    · cases h; exact .inl rfl
    · split at h
      · exact parW_w r _ w h
      · cases h; exact .inr (.inl rfl)
theorem headW_ok {cs : List Cl} {o : Option Str} {ahead : List Str} {f : Fn} {w : Wrong} (ho : ∀ z, o = some z → nameB z = true) (hf : nameB f.name = true) (h : headW cs o ahead f = some w) : wOk w := by
  unfold headW at h
  obtain ⟨wd, h1, rfl⟩ := Option.map_eq_some_iff.mp h
  refine wOk_hd ho hf ?_
  unfold headWord at h1
  split at h1
  · cases h1; exact .inl rfl
  · split at h1
    · rename_i w2 e
      cases h1
      exact parW_w _ _ _ e
    · split at h1
      · cases h1
      · cases h1; exact .inr (.inl rfl)
theorem headsW_ok {cs : List Cl} {o : Option Str} (ho : ∀ z, o = some z → nameB z = true) : ∀ (l : List Fn) (t : List Str) (w : Wrong), (∀ f ∈ l, nameB f.name = true) → headsW cs o t l = some w → wOk w
  | [], t, w, _, h => by cases h
  | f :: r, t, w, hn, h => by
    have e : headsW cs o t (f :: r) = (match headW cs o t f with | some w => some w | none => headsW cs o (t ++ [f.name]) r) := rfl
    rw [e] at h
    cases e1 : headW cs o t f with
    | some w2 =>
      rw [e1] at h
      cases h
      exact headW_ok ho (hn f List.mem_cons_self) e1
    | none =>
      rw [e1] at h
      exact headsW_ok ho r _ w (fun g hg => hn g (List.mem_cons_of_mem _ hg)) h
theorem methsW_ok {cs : List Cl} {c : Cl} (hc : nameB c.name = true) : ∀ (l : List Fn) (t : List Str) (w : Wrong), (∀ f ∈ l, nameB f.name = true) → methsW cs c t l = some w → wOk w
  | [], t, w, _, h => by cases h
  | f :: r, t, w, hn, h => by
    have e : methsW cs c t (f :: r) = (match methW1 cs c t f with | some w => some w | none => methsW cs c (t ++ [f.name]) r) := rfl
    rw [e] at h
    have ho : ∀ z, some c.name = some z → nameB z = true := fun z e => by cases e; exact hc
    cases e1 : methW1 cs c t f with
    | some w2 =>
      rw [e1] at h
      cases h
      unfold methW1 at e1
      cases e2 : headW cs (some c.name) t f with
      | some w3 =>
        rw [e2] at e1
        cases e1
        exact headW_ok ho (hn f List.mem_cons_self) e2
      | none =>
        rw [e2] at e1
        have e1 : overW cs (some c.name) c.above f = some w := e1
        unfold overW at e1
        split at e1
        · cases e1
          exact wOk_hd ho (hn f List.mem_cons_self) (.inr (.inr rfl))
        · cases e1
    | none =>
      rw [e1] at h
      exact methsW_ok hc r _ w (fun g hg => hn g (List.mem_cons_of_mem _ hg)) h
theorem clsW_ok {cs : List Cl} : ∀ (l : List Cl) (t : List Str) (w : Wrong), (∀ c ∈ l, nameB c.name = true) → clsW cs t l = some w → wOk w
  | [], t, w, _, h => by cases h
  | c :: r, t, w, hn, h => by
    have e : clsW cs t (c :: r) = (match clsW1 cs t c with | some w => some w | none => clsW cs (t ++ [c.name]) r) := rfl
    rw [e] at h
    have hc := hn c List.mem_cons_self
    cases e1 : clsW1 cs t c with
    | some w2 =>
      rw [e1] at h
      cases h
      unfold clsW1 at e1
      split at e1
      · cases e1; exact wOk_cls hc (.inl rfl)
      · split at e1
        · cases e1; exact wOk_cls hc (.inr (.inl rfl))
        · unfold fldW at e1
          obtain ⟨wd, h1, rfl⟩ := Option.map_eq_some_iff.mp e1
          exact wOk_cls hc (fldWord_w _ _ _ h1)
    | none =>
      rw [e1] at h
      exact clsW_ok r _ w (fun g hg => hn g (List.mem_cons_of_mem _ hg)) h
theorem seqW_some {a b : Option Wrong} {w : Wrong} (h : seqW a b = some w) : a = some w ∨ b = some w := by
  cases a with
  | some x => exact .inl h
  | none => exact .inr h
theorem checkW_ok {cs : List Cl} {fs : List Fn} {w : Wrong} (hok : progOk cs fs) (h : checkW cs fs = some w) : wOk w := by
  obtain ⟨o1, o2, o3, o4⟩ := hok
  unfold checkW at h
  rcases seqW_some h with h | h
  · exact clsW_ok cs [] w (fun c hc => (o3 c hc).1) h
  · rcases seqW_some h with h | h
    · obtain ⟨c, hc, h⟩ := List.exists_of_findSome?_eq_some h
      exact methsW_ok (o3 c hc).1 _ [] w (fun f hf => ((o3 c hc).2.2.2.2 f hf).1) h
    · rcases seqW_some h with h | h
      · exact headsW_ok (fun z e => by cases e) _ [] w (fun f hf => (o4 f hf).1) h
      · unfold mainW at h
        split at h
        · cases h
        · cases h
          exact ⟨by decide +kernel, fun z hz => by rcases hz with e | e <;> cases e⟩
def optW : Option Wrong → PyData
  | none => .none
  | some w => w.py
def tupW (r : Option Wrong) : PyData := .tuple (match r with | none => [] | some w => [w.py])
theorem strD {z : Str} (h : PyData.strOk z = true) : (PyData.str z).canLay0 = true := by simpa [PyData.canLay0] using h
theorem optS_good {o : Option Str} (h : ∀ z, o = some z → PyData.strOk z = true) : (optS o).canLay0 = true ∧ (optS o).depth = 0 ∧ KI.nodes (optS o) = 1 := by
  cases o with
  | none => exact ⟨rfl, rfl, rfl⟩
  | some z => exact ⟨strD (h z rfl), rfl, rfl⟩
theorem optI_good (o : Option Nat) : (optI o).canLay0 = true ∧ (optI o).depth = 0 ∧ KI.nodes (optI o) = 1 := by
  cases o with
  | none => exact ⟨rfl, rfl, rfl⟩
  | some z => exact ⟨rfl, rfl, rfl⟩
theorem wpy_good {w : Wrong} (h : wOk w) : w.py.canLay0 = true ∧ w.py.depth ≤ 3 ∧ KI.nodes w.py ≤ 10 := by
  obtain ⟨a1, a2, a3⟩ := optS_good fun z e => h.2 z (.inl e)
  obtain ⟨b1, b2, b3⟩ := optS_good fun z e => h.2 z (.inr e)
  obtain ⟨c1, c2, c3⟩ := optI_good w.at_
  refine ⟨?_, ?_, ?_⟩
  · show ((PyData.str w.word).canLay0 && (((optS w.owner).canLay0 && ((optS w.name).canLay0 && ((optI w.at_).canLay0 && true))) && true)) = true
    rw [strD h.1, a1, b1, c1]
    rfl
  · show max (PyData.str w.word).depth (max (max (optS w.owner).depth (max (optS w.name).depth (max (optI w.at_).depth 0)) + 1) 0) + 1 ≤ 3
    rw [a2, b2, c2]
    show max 0 (max (max 0 (max 0 (max 0 0)) + 1) 0) + 1 ≤ 3
    decide
  · show 1 + (1 + ((1 + (KI.nodes (optS w.owner) + (KI.nodes (optS w.name) + (KI.nodes (optI w.at_) + 0)))) + 0)) ≤ 10
    rw [a3, b3, c3]
    decide
theorem optW_good {r : Option Wrong} (h : ∀ w, r = some w → wOk w) : KI.Good (optW r) ∧ KI.nodes (optW r) ≤ 1000 := by
  cases r with
  | none => exact ⟨⟨rfl, by decide⟩, by decide⟩
  | some w =>
    obtain ⟨a, b, c⟩ := wpy_good (h w rfl)
    exact ⟨⟨a, Nat.le_trans b (by decide)⟩, Nat.le_trans c (by decide)⟩
theorem tupW_good {r : Option Wrong} (h : ∀ w, r = some w → wOk w) : KI.Good (tupW r) ∧ KI.nodes (tupW r) ≤ 1000 := by
  cases r with
  | none => exact ⟨⟨rfl, by decide⟩, by decide⟩
  | some w =>
    obtain ⟨a, b, c⟩ := wpy_good (h w rfl)
    refine ⟨⟨?_, ?_⟩, ?_⟩
    · show (w.py.canLay0 && true) = true
      rw [a]
      rfl
    · show max w.py.depth 0 + 1 ≤ 20
      omega
    · show 1 + (KI.nodes w.py + 0) ≤ 1000
      omega
theorem optW_non {H : Hp} {v : V} {r : Option Wrong} (h : Dv H v (optW r)) : decide (v = V.non) = r.isNone := by
  cases r with
  | none => cases h; rfl
  | some w => cases h; exact decide_eq_false (fun e => by cases e)
section
variable {P : Program} {w : World} {K : PySem.W.Frag} {mg : Str → Option Value} {base : Heap} {CN C CB : Addr}
def spCheck : Sp := fun vs H Q _ => ∃ (v : V) (cs : List Cl) (fs : List Fn), vs = [v] ∧ Dv H v (progPy cs fs) ∧ progOk cs fs ∧ bodies cs fs ∧ ∀ u H', Same H H' → Dv H' u (optW (checkW cs fs)) → Q u H'
theorem ok_check {f : Addr} {fd : FuncData} (F : Fun K "check" "check" s_check f fd) {fC : Addr} {dC : FuncData} (GC : Gd K mg "checked" s_checked ["program"] fC dC) (X : ChP P K w mg CN C CB) : FnOk P w K mg base CX0 94 f fd ["program"] spCheck := by
  have HC : FnOk P w K mg base (L2.CX P w) 93 fC dC ["program"] (spChecked CN) := ok_checked GC.F X
  refine F.ok sc_check (fun vs H Q E h => ?_) (fun cdv A outer s H vs Q E hr h => ?_)
  · obtain ⟨v, cs, fs, rfl, _⟩ := h
    rfl
  · obtain ⟨v, cs, fs, rfl, hv, hok, hb, q⟩ := h
    refine ⟨_, pss_cons (ps_try_as (i := 1) (tb := fun W => tDrop (tCallS (spChecked CN) (WE W) (tCons (tVar 0) tNil))) (ts := fun a cls d => tRet (tXf a cls d CN "what" (tVar 1))) (Wout := fun _ _ _ _ => False) rfl rfl sc_check.nd rfl rfl ⟨rfl, by decide, Or.inl X.nl.gC⟩ takes0
        (fun W pn xe tk _ => pss_one (ps_expr (by exact (pe_callS HC hr rfl GC.g GC.F.kp GC.b (fun σ => passAt tk σ) (by exact (pa_cons (pv 0) pa_nil))))))
        (fun a oe cls d pn hz hf => by
          obtain ⟨f1, c1, c2, T1⟩ := X.nl.ex
          exact pss_one (ps_ret (by exact (pe_xf X.xf X.nl.no hz hf (pv 1))))))
      (pss_one (ps_ret pe_non)), ?_⟩
    refine ⟨_, rfl, v, cs, fs, rfl, hv, hok, hb, ?_⟩
    unfold Out
    cases e : checkW cs fs with
    | none =>
      intro H' s'
      rw [e] at q
      exact q _ H' s' .non
    | some w =>
      intro d H' s' t
      rw [e] at q
      refine ⟨true, X.te, fun _ a na => ?_, fun z => nomatch z⟩
      obtain ⟨dd, u, rfl, hd, hu⟩ := t
      exact ⟨_, rfl, rfl, rfl, dd, _, u, rfl, hd, rfl, q u H' s' hu⟩
/-- what check tells, asked twice; by name or by place -/
def spTold : Sp := fun vs H Q _ => ∃ (v : V) (b : Bool) (cs : List Cl) (fs : List Fn), vs = [v, .bl b] ∧ Dv H v (progPy cs fs) ∧ progOk cs fs ∧ bodies cs fs ∧ ∀ u H', Same H H' → Dv H' u (optW (checkW cs fs)) → Q u H'
structure Tl (P : Program) (K : PySem.W.Frag) (w : World) (mg : Str → Option Value) (CN C CB : Addr) : Prop where
  x : ChP P K w mg CN C CB
  chd : ∃ f d, Gd K mg "checked" s_checked ["program"] f d
  ch : ∃ f d, Gd K mg "check" s_check ["program"] f d
  al : ∃ f d, Gd K mg "_law_alike" s_law_alike ["_law_found", "_law_due"] f d
  isi : mg "isinstance" = none
  bool : mg "bool" = none
  tup : mg "tuple" = none
  len : mg "len" = none
  rng : mg "range" = none
theorem ok_told {f : Addr} {fd : FuncData} (F : Fun K "_law_told" "_law_told" s_law_told f fd) (X : Tl P K w mg CN C CB) : FnOk P w K mg base CX0 95 f fd ["_law_program", "_law_by_name"] spTold := by
  obtain ⟨fC, dC, GC⟩ := X.chd
  obtain ⟨fD, dD, GD⟩ := X.ch
  obtain ⟨fA, dA, GA⟩ := X.al
  have HC : FnOk P w K mg base (L2.CX P w) 93 fC dC ["program"] (spChecked CN) := ok_checked GC.F X.x
  have HD : FnOk P w K mg base CX0 94 fD dD ["program"] spCheck := ok_check GD.F GC X.x
  have HA : FnOk P w K mg base CX0 1 fA dA ["_law_found", "_law_due"] KI.spAlike := KI.ok_alike GA.F X.isi X.bool X.tup X.len X.rng
  have kC : KBn K dC ["program"] 0 ["program"] (fun us ws => us ++ ws) (fun vs zs => vs ++ zs) := DS.kb_one GC.F fun _ _ _ _ _ _ _ => rfl
  have kD : KBn K dD ["program"] 0 ["program"] (fun us ws => us ++ ws) (fun vs zs => vs ++ zs) := DS.kb_one GD.F fun _ _ _ _ _ _ _ => rfl
  refine F.ok sc_law_told (fun vs H Q E h => ?_) (fun cdv A outer s H vs Q E hr h => ?_)
  · obtain ⟨v, b, cs, fs, rfl, _⟩ := h
    rfl
  · obtain ⟨v, b, cs, fs, rfl, hv, hok, hb, q⟩ := h
    refine ⟨_, pss_cons (ps_par (i := 2) (j := 3) rfl sc_law_told.nd rfl rfl (by decide) rfl rfl (pa_cons (pe_ifExp (pt_val (pv 1)) (DS.pe_callN0 HD hr (by rfl) GD.g GD.F.kp kD pass0 (pk_cons (pv 0) pk_nil)) (pe_call HD hr (by rfl) GD.g GD.F.kp GD.b .nil pass0 (pa_cons (pv 0) pa_nil))) (pa_cons (pe_tup pa_nil) pa_nil)) (by rfl))
      (pss_cons (ps_try_as (i := 4) (tb := fun W => tIfS (tB (tVar 1)) (tDrop (DS.tCallNS0 (["program"] : List Str).length (spChecked CN) (fun vs zs => vs ++ zs) (WE W) (tCons (tVar 0) tNil))) (tDrop (tCallS (spChecked CN) (WE W) (tCons (tVar 0) tNil))))
          (ts := fun a cls d => tAsg (tTup (tCons (tXf a cls d CN "what" (tVar 4)) tNil)) (gName 3)) (Wout := fun _ _ _ _ => False) rfl rfl sc_law_told.nd rfl rfl ⟨rfl, by decide, Or.inl X.x.nl.gC⟩ takes0
        (fun W pn xe tk _ => pss_one (ps_if (by exact (pt_val (pv 1))) (by exact (pss_one (ps_expr (by exact (DS.pe_callNS0 HC (hr.mono (by decide)) (by rfl) GC.g GC.F.kp kC (fun σ => passAt tk σ) (by exact (pk_cons (pv 0) pk_nil)))))))
          (by exact (pss_one (ps_expr (by exact (pe_callS HC (hr.mono (by decide)) rfl GC.g GC.F.kp GC.b (fun σ => passAt tk σ) (by exact (pa_cons (pv 0) pa_nil)))))))))
        (fun a oe cls d pn hz hf => pss_one (ps_set (i := 3) sc_law_told.nd rfl (Or.inl rfl) (by exact (pe_tup (pa_cons (pe_xf X.x.xf X.x.nl.no hz hf (pv 4)) pa_nil))))))
      (pss_cons (ps_if (pt_not (pt_val (pe_call HA (hr.mono (by decide)) (by rfl) GA.g GA.F.kp GA.b .nil pass0 (pa_cons (pv 3) (pa_cons (pe_ifExp (pt_cmpR op_isN (pv 2) pe_non (nomark _)) (pe_tup pa_nil) (pe_tup (pa_cons (pv 2) pa_nil))) pa_nil))))) pss_no pss_nil)
      (pss_one (ps_ret (pv 2))))), ?_⟩
    have new : ∀ {H1 : Hp} {t : Addr} {o : HO}, H1 t = none → Same H1 (upd H1 t o) := fun n b o e => by rw [upd_ne (ne_of_none e n)]; exact e
    have hgood : ∀ w, checkW cs fs = some w → wOk w := fun w e => checkW_ok hok e
    -- behind both askings: found is u, refused is at t
    have last : ∀ (u : V) (t : Addr) (H2 : Hp) (σ : L2.St), σ = [some v, some (.bl b), some u, some (.ref t), none] → Same H H2 → Dv H2 u (optW (checkW cs fs)) → Dv H2 (.ref t) (tupW (checkW cs fs)) →
        tSeq (tIfS (tNot (tB (tCall KI.spAlike [] (fun _ _ _ => False) (tCons (tVar 3) (tCons (tIf (tTest (tOp (fun x y H Q => y = .non ∧ Q (.bl (decide (x = .non))) H) (tVar 2) (tC .non))) (tTup tNil) (tTup (tCons (tVar 2) tNil))) tNil))))) tNo tNext) (tRet (tVar 2)) { nx := fun _ H' => Q .non H', rt := Q } σ H2 := by
      rintro u t H2 σ rfl s2 hu ht
      obtain ⟨tg, tn⟩ := tupW_good hgood
      refine ⟨_, rfl, _, rfl, rfl, _, rfl, ?_⟩
      rw [optW_non hu]
      cases e : checkW cs fs with
      | none =>
        rw [e] at ht tg tn hu
        refine iteT ⟨Nat.zero_le _, fun t2 n2 => ?_⟩
        refine ⟨.ref t, .ref t2, tupW none, rfl, ht.same (TupSame.of (new n2)), .tup upd_same (Nat.zero_le _) .nil, tg, tn, fun H3 s3 => ⟨true, rfl, iteF ?_⟩⟩
        have s23 := (new n2).trans s3
        refine ⟨_, rfl, q u H3 (s2.trans s23) ?_⟩
        rw [e]
        exact hu.same (TupSame.of s23)
      | some w =>
        rw [e] at ht tg tn hu
        refine iteF ⟨_, rfl, (by show 1 ≤ sizeLine; decide), fun t2 n2 => ?_⟩
        refine ⟨.ref t, .ref t2, tupW (some w), rfl, ht.same (TupSame.of (new n2)), .tup upd_same (by show 1 ≤ 1000; decide) (.cons (hu.same (TupSame.of (new n2))) .nil), tg, tn, fun H3 s3 => ⟨true, rfl, iteF ?_⟩⟩
        have s23 := (new n2).trans s3
        refine ⟨_, rfl, q u H3 (s2.trans s23) ?_⟩
        rw [e]
        exact hu.same (TupSame.of s23)
    have mid : ∀ (u : V) (t : Addr) (H2 : Hp), Same H H2 → Dv H2 u (optW (checkW cs fs)) → H2 t = some (.tup []) → ∀ (Q2 : VK) (E2 : XK), (∀ H', Same H2 H' → checkW cs fs = none → Q2 .non H') → (∀ w d H', checkW cs fs = some w → Same H2 H' → Tells CN H' d w → E2 (.ref CN) d H') → spChecked CN [v] H2 Q2 E2 := by
      intro u t H2 s2 hu ht Q2 E2 k1 k2
      refine ⟨v, cs, fs, rfl, hv.same (TupSame.of s2), hok, hb, ?_⟩
      unfold Out
      cases e : checkW cs fs with
      | none => exact fun H' s' => k1 H' s' e
      | some w => exact fun d H' s' t => k2 w d H' e s' t
    have fin1 : ∀ (u : V) (t : Addr) (H2 : Hp), Same H H2 → Dv H2 u (optW (checkW cs fs)) → H2 t = some (.tup []) → ∀ H3, Same H2 H3 → checkW cs fs = none → Same H H3 ∧ Dv H3 u (optW (checkW cs fs)) ∧ Dv H3 (.ref t) (tupW (checkW cs fs)) := fun u t H2 s2 hu ht H3 s3 e =>
      ⟨s2.trans s3, hu.same (TupSame.of s3), by rw [e]; exact .tup (s3 _ _ ht) (Nat.zero_le _) .nil⟩
    have fin2 : ∀ (u : V) (t : Addr) (H2 : Hp), Same H H2 → Dv H2 u (optW (checkW cs fs)) → ∀ H3 t3 (u2 : V) (w : Wrong), Same H2 H3 → checkW cs fs = some w → Dv H3 u2 w.py → H3 t3 = none → Same H (upd H3 t3 (.tup [u2])) ∧ Dv (upd H3 t3 (.tup [u2])) u (optW (checkW cs fs)) ∧ Dv (upd H3 t3 (.tup [u2])) (.ref t3) (tupW (checkW cs fs)) := fun u t H2 s2 hu H3 t3 u2 w s3 e d2 n3 =>
      ⟨(s2.trans s3).trans (new n3), hu.same (TupSame.of (s3.trans (new n3))), by rw [e]; exact .tup upd_same (by show 1 ≤ 1000; decide) (.cons (d2.same (TupSame.of (new n3))) .nil)⟩
    refine ⟨_, rfl, b, rfl, ?_⟩
    cases b with
    | true =>
      refine iteT ⟨_, rfl, rfl, v, cs, fs, rfl, hv, hok, hb, fun u H1 s1 hu => ?_⟩
      refine ⟨Nat.zero_le _, fun t nt => ⟨u, .ref t, rfl, ?_⟩⟩
      have s2 := s1.trans (new (o := .tup []) nt)
      have hu2 := hu.same (TupSame.of (new (o := .tup []) nt))
      have ht2 : (upd H1 t (.tup [])) t = some (.tup []) := upd_same
      generalize upd H1 t (.tup []) = H2 at s2 hu2 ht2
      refine ⟨_, rfl, true, rfl, iteT ⟨_, rfl, rfl, ?_⟩⟩
      refine mid u t H2 s2 hu2 ht2 _ _ (fun H3 s3 e => ?_) fun w d H3 e s3 tl => ?_
      · obtain ⟨a1, a2, a3⟩ := fin1 u t H2 s2 hu2 ht2 H3 s3 e
        exact last u t H3 _ rfl a1 a2 a3
      · refine ⟨true, X.x.te, fun _ a na => ?_, fun z => nomatch z⟩
        obtain ⟨dd, u2, rfl, hd, hu3⟩ := tl
        refine ⟨_, rfl, rfl, rfl, dd, _, u2, rfl, hd, rfl, (by show 1 ≤ sizeLine; decide), fun t3 n3 => ?_⟩
        obtain ⟨a1, a2, a3⟩ := fin2 u t H2 s2 hu2 H3 t3 u2 w s3 e hu3 n3
        exact last u t3 _ _ rfl a1 a2 a3
    | false =>
      refine iteF ⟨_, rfl, v, cs, fs, rfl, hv, hok, hb, fun u H1 s1 hu => ?_⟩
      refine ⟨Nat.zero_le _, fun t nt => ⟨u, .ref t, rfl, ?_⟩⟩
      have s2 := s1.trans (new (o := .tup []) nt)
      have hu2 := hu.same (TupSame.of (new (o := .tup []) nt))
      have ht2 : (upd H1 t (.tup [])) t = some (.tup []) := upd_same
      generalize upd H1 t (.tup []) = H2 at s2 hu2 ht2
      refine ⟨_, rfl, false, rfl, iteF ⟨_, rfl, ?_⟩⟩
      refine mid u t H2 s2 hu2 ht2 _ _ (fun H3 s3 e => ?_) fun w d H3 e s3 tl => ?_
      · obtain ⟨a1, a2, a3⟩ := fin1 u t H2 s2 hu2 ht2 H3 s3 e
        exact last u t H3 _ rfl a1 a2 a3
      · refine ⟨true, X.x.te, fun _ a na => ?_, fun z => nomatch z⟩
        obtain ⟨dd, u2, rfl, hd, hu3⟩ := tl
        refine ⟨_, rfl, rfl, rfl, dd, _, u2, rfl, hd, rfl, (by show 1 ≤ sizeLine; decide), fun t3 n3 => ?_⟩
        obtain ⟨a1, a2, a3⟩ := fin2 u t H2 s2 hu2 H3 t3 u2 w s3 e hu3 n3
        exact last u t3 _ _ rfl a1 a2 a3
end
end CK

/-! _law_lacks, _law_wrong_classes. -/
namespace WL
open PySem PySem.Spec PyProof.Rows L2 PV PF T ET PB PP FM AM AB WR CK WF
def takenB (cs : List Cl) (c : Cl) (j : Nat) (nm : Str) : Bool := decide (nm ∈ (c.fields.take j).map (·.1)) || (L cs c.name).any fun m => match findC cs m with
  | some d => decide (nm ∈ d.fields.map (·.1))
  | none => false
def wcF (cs : List Cl) (i : Nat) (c : Cl) (j : Nat) : List En := match c.fields[j]? with
  | some p => (if takenB cs c j p.1 = true then [⟨0, i, 2 + 2 * j, ⟨"double", some c.name, none, none⟩⟩] else []) ++ (if knows cs p.2 = true then [] else [⟨0, i, 3 + 2 * j, ⟨"class", some c.name, none, none⟩⟩])
  | none => []
def lawBad (cs : List Cl) (c : Cl) : Bool := match c.above with
  | some a => !hasC cs a || decide (c.name ∈ L cs c.name)
  | none => false
def wcC (cs : List Cl) (i : Nat) : List En := match cs[i]? with
  | some c => (if c.name ∈ (cs.take i).map Cl.name then [(⟨0, i, 0, ⟨"double", some c.name, none, none⟩⟩ : En)] else []) ++ ((if lawBad cs c = true then [(⟨0, i, 1, ⟨"class", some c.name, none, none⟩⟩ : En)] else []) ++ (List.range c.fields.length).flatMap (wcF cs i c))
  | none => []
def wrongC (cs : List Cl) : List En := (List.range cs.length).flatMap (wcC cs)
theorem range_snoc {α : Type} (n : Nat) (g : Nat → List α) : (List.range (n + 1)).flatMap g = (List.range n).flatMap g ++ g n := by
  rw [List.range_succ, List.flatMap_append]
  simp
/-- what _law_above has made -/
structure Up (H : Hp) (cs : List Cl) (d1 d2 : Addr) (A : Str → Addr) (R : Str → List Str) : Prop where
  kv : ∃ kvs1, H d1 = some (.dK kvs1) ∧ Holds H kvs1 cs
  rows : RowsAt H d2 A R (there cs) 12
  same : ∀ n, there cs n → ∀ m, m ∈ R n ↔ m ∈ L cs n
  len : ∀ n, there cs n → (R n).length ≤ 12
theorem Up.keep {H H' : Hp} {cs : List Cl} {d1 d2 : Addr} {A : Str → Addr} {R : Str → List Str} (u : Up H cs d1 d2 A R) (s : Same H H') : Up H' cs d1 d2 A R := by
  obtain ⟨kvs1, h1, h2⟩ := u.kv
  exact ⟨⟨kvs1, s _ _ h1, h2.same (TupSame.of s)⟩, u.rows.keep fun a kvs e => s _ _ e, u.same, u.len⟩
theorem mem_there {cs : List Cl} {c : Cl} (h : c ∈ cs) : there cs c.name := by
  cases e : findC cs c.name with
  | some d => exact ⟨d, e⟩
  | none =>
    have := (List.find?_eq_none.mp e) c h
    simp at this
structure Wl (K : PySem.W.Frag) (mg : Str → Option Value) : Prop where
  isi : mg "isinstance" = none
  tup : mg "tuple" = none
  len : mg "len" = none
  rng : mg "range" = none
  lk : ∃ f d, Gd K mg "_law_lacks" s_law_lacks ["_law_first", "_law_kind_here"] f d
section
variable {P : Program} {w : World} {K : PySem.W.Frag} {mg : Str → Option Value} {base : Heap}
def spLk : Sp := fun vs H Q _ => ∃ (d1 : Addr) (v : V) (k : Option Kd) (cs : List Cl) (kvs1 : List (Key × V)), vs = [.ref d1, v] ∧ H d1 = some (.dK kvs1) ∧ Holds H kvs1 cs ∧ Dv H v (optK k) ∧ Q (.bl (!knowsO cs k)) H
theorem ok_lk {f : Addr} {fd : FuncData} (F : Fun K "_law_lacks" "_law_lacks" s_law_lacks f fd) (X : Wl K mg) : FnOk P w K mg base CX0 1 f fd ["_law_first", "_law_kind_here"] spLk := by
  refine F.ok sc_law_lacks (fun vs H Q E h => ?_) (fun cdv A outer s H vs Q E hr h => ?_)
  · obtain ⟨d1, v, k, cs, kvs1, rfl, _⟩ := h
    rfl
  · obtain ⟨d1, v, k0, cs, kvs1, rfl, hd, hh, hv, q⟩ := h
    have hu := hu_of hr
    refine ⟨_, pss_cons (ps_while PassesOwn.never (PW.pt (pw_and (pt_val (pe_callB call_isi (by rfl) X.isi (by decide +kernel) (pa_cons (pv 1) (pa_cons (pe_bltn (by rfl) X.tup (v := .ty "tuple") (by decide +kernel) rfl) pa_nil)))) (pw_and1 (pt_cmpR op_eq (pe_ix ix_tup (pv 1) pe_int (fun _ _ => rfl)) pe_str (nomark _)))))
        (pss_one (ps_set (i := 1) sc_law_lacks.nd rfl (Or.inl rfl) (pe_ix ix_tup (pv 1) pe_int (fun _ _ => rfl)))))
      (pss_one (ps_ret (pe_and (pe_callB call_isi (by rfl) X.isi (by decide +kernel) (pa_cons (pv 1) (pa_cons (pe_bltn (by rfl) X.tup (v := .ty "tuple") (by decide +kernel) rfl) pa_nil))) (pe_one (pe_cmp (pc_dnotin hu (pe_ix ix_tup (pv 1) pe_int (fun _ _ => rfl)) (pv 0)) rfl))))), ?_⟩
    refine ⟨fun m σ H' => ∃ (v : V) (k : Option Kd), σ = [some (.ref d1), some v] ∧ H' = H ∧ Dv H v (optK k) ∧ knowsO cs k = knowsO cs k0 ∧ rowsO k = m, ⟨rowsO k0, v, k0, rfl, rfl, hv, rfl, rfl⟩, ?_⟩
    rintro m σ H1 ⟨v, k, rfl, rfl, hv, hk, hm⟩
    rcases kdCases (K := K) hv with ⟨t, t1, t2, n1, n2⟩ | ⟨a, n, rfl, rfl, ha⟩ | ⟨a, u, j, rfl, rfl, ha, hu'⟩
    · refine ⟨_, rfl, _, _, _, _, _, rfl, .ty _, t1, t2, false, rfl, iteF ?_⟩
      refine ⟨_, rfl, _, _, _, _, _, rfl, .ty _, t1, t2, false, rfl, ?_⟩
      have e : knowsO cs k = true := by
        cases k with
        | none => rfl
        | some k => cases k <;> first | rfl | exact absurd rfl (n1 _) | exact absurd rfl (n2 _)
      rw [← hk, e] at q
      exact q
    · obtain ⟨t, t1, t2, _⟩ := tupTy (K := K) ha
      refine ⟨_, rfl, _, _, _, _, _, rfl, .ty _, t1, t2, true, rfl, iteT ?_⟩
      refine ⟨_, rfl, a, _, 0, .str "of", rfl, rfl, SqT.of ha, rfl, rfl, _, rfl, iteF ?_⟩
      refine ⟨_, rfl, _, _, _, _, _, rfl, .ty _, t1, t2, true, rfl, ?_⟩
      refine ⟨_, rfl, a, _, 1, .str n, rfl, rfl, SqT.of ha, rfl, _, rfl, d1, _, rfl, DGet.k (k := Sum.inr n) hd, ?_⟩
      rw [Holds.some hh n]
      rw [← hk] at q
      exact q
    · obtain ⟨t, t1, t2, _⟩ := tupTy (K := K) ha
      refine ⟨_, rfl, _, _, _, _, _, rfl, .ty _, t1, t2, true, rfl, iteT ?_⟩
      refine ⟨_, rfl, a, _, 0, .str "row", rfl, rfl, SqT.of ha, rfl, rfl, _, rfl, iteT ?_⟩
      refine ⟨fun σ' H' => ∃ (v : V) (k : Option Kd), σ' = [some (.ref d1), some v] ∧ H' = H1 ∧ Dv H1 v (optK k) ∧ knowsO cs k = knowsO cs k0 ∧ rowsO k < m, fun σ' H' ⟨v, k, a1, a2, a3, a4, a5⟩ => ⟨rowsO k, a5, v, k, a1, a2, a3, a4, rfl⟩, ?_⟩
      refine ⟨_, rfl, a, _, 1, u, rfl, rfl, SqT.of ha, rfl, u, some j, rfl, rfl, hu', hk, ?_⟩
      rw [← hm]
      exact Nat.lt_succ_self _
def spWc : Sp := fun vs H Q _ => ∃ (v : V) (d1 d2 : Addr) (cs : List Cl) (A : Str → Addr) (R : Str → List Str), vs = [v, .ref d1, .ref d2] ∧ Dv H v (.tuple (cs.map Cl.py)) ∧ cs.length ≤ 12 ∧ (∀ c ∈ cs, clOk c) ∧ Up H cs d1 d2 A R ∧
  ∀ (Fl : Addr) (xs : List V) (H' : Hp), Same H H' → H Fl = none → H' Fl = some (.lst xs) → DvAll H' xs ((wrongC cs).map En.py) → xs.length ≤ 300 → Q (.ref Fl) H'
abbrev wcN : List Str := ["_law_classes", "_law_first", "_law_rows", "_law_found", "_law_i", "_law_name_here", "_law_above_here", "_law_fields", "_law_methods", "_law_where", "_law_one_here", "_law_j", "_law_taken", "_law_pair", "_law_other"]
theorem ok_wc {f : Addr} {fd : FuncData} (F : Fun K "_law_wrong_classes" "_law_wrong_classes" s_law_wrong_classes f fd) (X : Wl K mg) : FnOk P w K mg base CX0 2 f fd ["_law_classes", "_law_first", "_law_rows"] spWc := by
  obtain ⟨fL, dL, GL⟩ := X.lk
  have HL : FnOk P w K mg base CX0 1 fL dL ["_law_first", "_law_kind_here"] spLk := ok_lk GL.F X
  refine F.ok sc_law_wrong_classes (fun vs H Q E h => ?_) (fun cdv A outer s H vs Q E hr h => ?_)
  · obtain ⟨v, d1, d2, cs, A, R, rfl, _⟩ := h
    rfl
  · obtain ⟨v, d1, d2, cs, A, R, rfl, hv, hcs, hok, hup, q⟩ := h
    have hu := hu_of hr
    refine ⟨_, pss_cons (ps_set (i := 3) sc_law_wrong_classes.nd rfl (Or.inl rfl) (pe_lst pa_nil))
      (pss_cons (ps_for PassesOwn.never rfl (pi_range1 (by rfl) X.rng (pa_cons (pe_callB call_len_seq (by rfl) X.len PySem.boot_len (pa_cons (pv 0) pa_nil)) pa_nil)) (pg_name (i := 4) sc_law_wrong_classes.nd rfl (Or.inl rfl))
        (pss_cons (ps_asg (pe_ix ix_tup (pv 0) (pv 4) (fun _ _ => rfl)) (pg_tup rfl (pgs_cons (pg_name (i := 5) sc_law_wrong_classes.nd rfl (Or.inl rfl)) (pgs_cons (pg_name (i := 6) sc_law_wrong_classes.nd rfl (Or.inl rfl)) (pgs_cons (pg_name (i := 7) sc_law_wrong_classes.nd rfl (Or.inl rfl)) (pgs_cons (pg_name (i := 8) sc_law_wrong_classes.nd rfl (Or.inl rfl)) pgs_nil))))))
        (pss_cons (ps_set (i := 9) sc_law_wrong_classes.nd rfl (Or.inl rfl) (pe_tup (pa_cons (pv 5) (pa_cons pe_non (pa_cons pe_non pa_nil)))))
        (pss_cons (ps_if (pt_cmpR op_in_seq (pv 5) (pe_lc (own := [("_law_one_here", 10)]) (g := gName 10) (tt := tYes) (te := tOp (rIxT K) (tVar 10) (tC (.int 0))) rfl sc_law_wrong_classes.nd (pi_tup (pe_slice sl_tup (pv 0) po_none (po_some (pv 4))))
            (blkOk_by (N := wcN) (sc := defScope s_law_wrong_classes) (by decide +kernel)) (fun _ _ _ _ _ => pg_name (i := 10) sc_law_wrong_classes.nd rfl (Or.inl rfl)) (fun _ _ _ _ _ => pts_nil) (fun _ _ _ _ _ => pe_ix ix_tup (pv 10) pe_int (fun _ _ => rfl))) (by rfl))
          (pss_one (ps_expr (pe_bm PySem.F.plainAttrs_list PySem.F.slot_list_append PySem.F.type_list_append mt_append (pv 3) (pa_cons (pe_tup (pa_cons (pe_tup (pa_cons pe_int (pa_cons (pv 4) (pa_cons pe_int pa_nil)))) (pa_cons pe_str (pa_cons (pv 9) pa_nil)))) pa_nil)))) pss_nil)
        (pss_cons (ps_if (PW.pt (pw_and (pt_cmpR op_notN (pv 6) pe_non (nomark _)) (pw_and1 (PW.pt (pw_or (pt_cmp (pc_dnotin hu (pv 6) (pv 1))) (pw_or1 (pt_cmp (pc_din hu (pv 5) (pe_dget hu (pv 2) (pv 5) (fun _ _ => rfl))))))))))
          (pss_one (ps_expr (pe_bm PySem.F.plainAttrs_list PySem.F.slot_list_append PySem.F.type_list_append mt_append (pv 3) (pa_cons (pe_tup (pa_cons (pe_tup (pa_cons pe_int (pa_cons (pv 4) (pa_cons pe_int pa_nil)))) (pa_cons pe_str (pa_cons (pv 9) pa_nil)))) pa_nil)))) pss_nil)
        (pss_one (ps_for PassesOwn.never rfl (pi_range1 (by rfl) X.rng (pa_cons (pe_callB call_len_seq (by rfl) X.len PySem.boot_len (pa_cons (pv 7) pa_nil)) pa_nil)) (pg_name (i := 11) sc_law_wrong_classes.nd rfl (Or.inl rfl))
          (pss_cons (ps_setLc (i := 12) (own := [("_law_pair", 13)]) (g := gName 13) (tt := tYes) (te := tOp (rIxT K) (tVar 13) (tC (.int 0))) rfl sc_law_wrong_classes.nd rfl rfl (sw_true rfl rfl rfl (by decide +kernel)) (pi_tup (pe_slice sl_tup (pv 7) po_none (po_some (pv 11))))
              (blkOk_by (N := wcN) (sc := defScope s_law_wrong_classes) (by decide +kernel)) (fun _ _ _ _ _ => pg_name (i := 13) sc_law_wrong_classes.nd rfl (Or.inl rfl)) (fun _ _ _ _ _ => pts_nil) (fun _ _ _ _ _ => pe_ix ix_tup (pv 13) pe_int (fun _ _ => rfl)))
          (pss_cons (ps_lock (ps_for PassesOwn.never rfl (pi_keys (pe_dget hu (pv 2) (pv 5) (fun _ _ => rfl))) (pg_name (i := 14) sc_law_wrong_classes.nd rfl (Or.inl rfl))
            (pss_one (ps_expr (pe_bm PySem.F.plainAttrs_list PySem.F.slot_list_extend PySem.F.type_list_extend mt_extend (pv 12) (pa_cons (pe_lc (own := [("_law_pair", 13)]) (g := gName 13) (tt := tYes) (te := tOp (rIxT K) (tVar 13) (tC (.int 0))) rfl sc_law_wrong_classes.nd
                (pi_tup (pe_ix ix_tup (pe_dget hu (pv 1) (pv 14) (fun _ _ => rfl)) pe_int (fun _ _ => rfl)))
                (blkOk_by (N := wcN) (sc := defScope s_law_wrong_classes) (by decide +kernel)) (fun _ _ _ _ _ => pg_name (i := 13) sc_law_wrong_classes.nd rfl (Or.inl rfl)) (fun _ _ _ _ _ => pts_nil) (fun _ _ _ _ _ => pe_ix ix_tup (pv 13) pe_int (fun _ _ => rfl))) pa_nil))))))
          (pss_cons (ps_if (pt_cmpR op_in_seq (pe_ix ix_tup (pe_ix ix_tup (pv 7) (pv 11) (fun _ _ => rfl)) pe_int (fun _ _ => rfl)) (pv 12) (by rfl))
            (pss_one (ps_expr (pe_bm PySem.F.plainAttrs_list PySem.F.slot_list_append PySem.F.type_list_append mt_append (pv 3) (pa_cons (pe_tup (pa_cons (pe_tup (pa_cons pe_int (pa_cons (pv 4) (pa_cons (pe_op op_add pe_int (pe_op op_mul pe_int (pv 11))) pa_nil)))) (pa_cons pe_str (pa_cons (pv 9) pa_nil)))) pa_nil)))) pss_nil)
          (pss_one (ps_if (pt_val (pe_call HL hr (by rfl) GL.g GL.F.kp GL.b .nil pass0 (pa_cons (pv 1) (pa_cons (pe_ix ix_tup (pe_ix ix_tup (pv 7) (pv 11) (fun _ _ => rfl)) pe_int (fun _ _ => rfl)) pa_nil))))
            (pss_one (ps_expr (pe_bm PySem.F.plainAttrs_list PySem.F.slot_list_append PySem.F.type_list_append mt_append (pv 3) (pa_cons (pe_tup (pa_cons (pe_tup (pa_cons pe_int (pa_cons (pv 4) (pa_cons (pe_op op_add pe_int (pe_op op_mul pe_int (pv 11))) pa_nil)))) (pa_cons pe_str (pa_cons (pv 9) pa_nil)))) pa_nil)))) pss_nil))))))))))))
      (pss_one (ps_ret (pv 3)))), ?_⟩
    obtain ⟨a, ws, rfl, ha, _, r1⟩ := hv.tupE
    have hwl : ws.length = cs.length := by rw [r1.len, List.length_map]
    refine ⟨Nat.zero_le _, fun Fl nF => ?_⟩
    refine ⟨_, rfl, a, ws, rfl, .inr (SqT.of (same_new nF _ _ ha)), _, rfl, by omega, by omega, ?_⟩
    refine for_range (lo := 0) (n := ((ws.length : Nat) : Int).toNat) (fun i σ H' => ∃ (xs : List V) (s4 s5 s6 s7 s8 s9 s10 s11 s12 s13 s14 : Option V), σ = [some (.ref a), some (.ref d1), some (.ref d2), some (.ref Fl), s4, s5, s6, s7, s8, s9, s10, s11, s12, s13, s14] ∧ H' Fl = some (.lst xs) ∧ DvAll H' xs (((List.range i).flatMap (wcC cs)).map En.py) ∧ xs.length ≤ 18 * i ∧ Same H H')
      ⟨[], _, _, _, _, _, _, _, _, _, _, _, rfl, upd_same, .nil, Nat.zero_le _, same_new nF⟩ ?_ ?_
    · rintro i σ H1 hi ⟨xs, s4, s5, s6, s7, s8, s9, s10, s11, s12, s13, s14, rfl, hF, hx, hxl, k1⟩
      have hi : i < cs.length := by omega
      have hgi : cs[i]? = some cs[i] := List.getElem?_eq_getElem hi
      have hcm : cs[i] ∈ cs := List.getElem_mem hi
      obtain ⟨hnm, _, ⟨hfl, hfo⟩, _⟩ := hok _ hcm
      generalize cs[i] = c at hgi hcm hnm hfl hfo
      obtain ⟨x, hxi, dx⟩ := r1.get (i := i) (d := c.py) (by rw [List.getElem?_map, hgi]; rfl)
      obtain ⟨ca, cv, rfl, hca, hcl, r2⟩ := dx.tupE
      obtain ⟨u0, us, rfl, g0, r3⟩ := r2.consE
      obtain ⟨u1, us, rfl, g1, r3⟩ := r3.consE
      obtain ⟨u2, us, rfl, g2, r3⟩ := r3.consE
      obtain ⟨u3, us, rfl, g3, r3⟩ := r3.consE
      obtain rfl := r3.nilE
      obtain ⟨rfl, hcn⟩ := g0.strE
      obtain rfl := optS_nameV g1
      obtain ⟨fa, ys, rfl, hfa, _, r4⟩ := g2.tupE
      have hyl : ys.length = c.fields.length := by rw [r4.len, List.length_map]
      have e0 : (0 + (i : Int)) = i := Int.zero_add _
      rw [e0]
      refine ⟨_, rfl, _, rfl, a, ws, i, .ref ca, rfl, rfl, SqT.of (k1 _ _ ha), atI_nat hxi, ca, _, rfl, SqT.of (k1 _ _ hca), rfl, _, _, rfl, _, _, rfl, _, _, rfl, _, _, rfl, rfl, ?_⟩
      refine ⟨_, rfl, by show 3 ≤ sizeLine; decide, fun wh nw => ?_⟩
      have k2 : Same H (upd H1 wh (.tup [.str c.name, .non, .non])) := k1.trans (same_new nw)
      have hF2 := same_new (o := .tup [.str c.name, .non, .non]) nw _ _ hF
      have hx2 := hx.same (TupSame.of (same_new (o := .tup [.str c.name, .non, .non]) nw))
      have hwh : (upd H1 wh (.tup [.str c.name, .non, .non])) wh = some (.tup [.str c.name, .non, .non]) := upd_same
      generalize upd H1 wh (.tup [.str c.name, .non, .non]) = H2 at k2 hF2 hx2 hwh
      have dwh : ∀ (H' : Hp) (wd : Str), H' wh = some (.tup [.str c.name, .non, .non]) → Dv H' (.ref wh) (Wrong.where_ ⟨wd, some c.name, none, none⟩) := fun H' wd h => .tup h (by show 3 ≤ 1000; decide) (.cons (.str _ hcn) (.cons .non (.cons .non .nil)))
      show gName 9 _ _ _ _
      refine gName_of ?_
      refine nx_of ?_
      refine seq_of ?_
      refine put_if (F := 3) (Fl := Fl) (e := ⟨0, i, 0, ⟨"double", some c.name, none, none⟩⟩) (b := decide (c.name ∈ (cs.take i).map Cl.name)) (n := 18 * i) rfl hF2 hx2 hxl (by omega) (show ("double" : Str).length ≤ 1000 by decide) (fun Q q => ?_)
        (fun H' Q _ q => q) (fun H' Q _ q => ⟨_, rfl, q⟩) (fun H' Q _ q => q) (fun H' Q _ q => q) (fun H' Q s q => ⟨_, rfl, q _ _ (fun _ _ e => e) (dwh _ _ (s _ _ hwh))⟩) fun xs3 H3 kf3 hF3 hx3 hl3 => ?_
      · have lw : i < ws.length := by omega
        refine ⟨_, rfl, _, rfl, _, rfl, _, rfl, a, ws, rfl, SqT.of (k2 _ _ ha), cut_not lw, fun p np => ⟨p, rfl, ⟨_, SqT.of upd_same⟩, fun D nD => ?_⟩⟩
        rw [cut_take lw] at nD ⊢
        refine lc_fst (ns := (cs.take i).map Cl.name) nD (show 10 < 15 by decide) upd_same (by simp [hwl]) (by simp; omega) (fst_at (ds := (cs.take i).map Cl.py) ?_ ?_) fun H' s' hD => ?_
        · have := ((r1.same (TupSame.of k2)).same (TupSame.of (same_new (o := .tup (ws.take i)) np))).takeL i
          rw [← List.map_take] at this
          exact this
        · intro j d hj
          rw [List.getElem?_map] at hj ⊢
          cases e : (cs.take i)[j]? with
          | none => rw [e] at hj; cases hj
          | some c' =>
            rw [e] at hj
            cases hj
            exact ⟨c'.name, _, rfl, rfl⟩
        · refine ⟨D, _, rfl, .inl (SqL.of hD), rfl, flat_strs _, _, rfl, ?_⟩
          rw [if_neg (by decide), inV_str]
          exact q _ ((same_new np).trans s')
      obtain ⟨⟨kvs1, hd1, hh1⟩, ⟨⟨kvs2, hd2, hl2, hv2⟩, hrow, hinj⟩, hsm, hrl⟩ := id hup
      have hth := mem_there hcm
      have kk3 : Same H H3 := Same.by k2 nF kf3
      have getRow : ∀ H', H' d2 = some (.dK kvs2) → DGet H' d2 (.str c.name) (some (.ref (A c.name))) := fun H' h => by
        have := DGet.k (k := Sum.inr c.name) h
        rw [hv2 _ hth] at this
        exact this
      refine nx_of ?_
      refine seq_of ?_
      refine put_if (F := 3) (Fl := Fl) (e := ⟨0, i, 1, ⟨"class", some c.name, none, none⟩⟩) (b := lawBad cs c) (n := 18 * i + 1) rfl hF3 hx3 hl3 (by omega) (show ("class" : Str).length ≤ 1000 by decide) (fun Q q => ?_)
        (fun H' Q _ q => q) (fun H' Q _ q => ⟨_, rfl, q⟩) (fun H' Q _ q => q) (fun H' Q _ q => q) (fun H' Q s q => ⟨_, rfl, q _ _ (fun _ _ e => e) (dwh _ _ (s _ _ (kf3 _ _ (by rintro rfl; rw [hwh] at hF2; cases hF2) hwh)))⟩) fun xs4 H4 kf4 hF4 hx4 hl4 => ?_
      · unfold lawBad at q
        cases hab : c.above with
        | none =>
          rw [hab] at q
          exact ⟨_, rfl, rfl, false, rfl, iteF (q _ (fun _ _ e => e))⟩
        | some ab =>
          rw [hab] at q
          refine ⟨_, rfl, rfl, true, rfl, iteT ?_⟩
          refine ⟨.str ab, rfl, _, rfl, d1, _, rfl, DGet.k (k := Sum.inr ab) (kk3 _ _ hd1), _, rfl, ?_⟩
          rw [Holds.some hh1 ab]
          show if (!hasC cs ab) = true then _ else _
          have q : Q (!hasC cs ab || decide (c.name ∈ L cs c.name)) H3 := q _ (fun _ _ e => e)
          cases hh : hasC cs ab with
          | false =>
            rw [hh] at q
            exact q
          | true =>
            rw [hh] at q
            refine iteF ?_
            refine ⟨_, rfl, _, rfl, _, rfl, d2, _, rfl, getRow _ (kk3 _ _ hd2), A c.name, _, rfl, DGet.k (k := Sum.inr c.name) (kk3 _ _ (hrow _ hth)), _, rfl, ?_⟩
            rw [rw_val]
            have e : (if c.name ∈ R c.name then some (V.bl true) else none).isSome = decide (c.name ∈ L cs c.name) := by
              have := hsm _ hth c.name
              by_cases h : c.name ∈ R c.name
              · rw [if_pos h, decide_eq_true (this.mp h)]; rfl
              · rw [if_neg h, decide_eq_false (fun z => h (this.mpr z))]; rfl
            rw [e]
            exact q
      have kk4 : Same H H4 := Same.by kk3 nF kf4
      have hwh4 : H4 wh = some (.tup [.str c.name, .non, .non]) := kf4 _ _ (by rintro rfl; rw [hwh] at hF2; cases hF2) (kf3 _ _ (by rintro rfl; rw [hwh] at hF2; cases hF2) hwh)
      have hx5 : DvAll H4 xs4 (((List.range i).flatMap (wcC cs) ++ ((if c.name ∈ (cs.take i).map Cl.name then [(⟨0, i, 0, ⟨"double", some c.name, none, none⟩⟩ : En)] else []) ++ ((if lawBad cs c = true then [(⟨0, i, 1, ⟨"class", some c.name, none, none⟩⟩ : En)] else []) ++ (List.range 0).flatMap (wcF cs i c)))).map En.py) := by
        have e : (List.range 0).flatMap (wcF cs i c) = [] := rfl
        rw [e, List.append_nil, ← List.append_assoc]
        simpa only [decide_eq_true_eq] using hx4
      refine nx_of ?_
      refine ⟨_, rfl, fa, ys, rfl, .inr (SqT.of (kk4 _ _ hfa)), _, rfl, by omega, by omega, ?_⟩
      refine for_range (lo := 0) (n := ((ys.length : Nat) : Int).toNat) (fun j σ H' => ∃ (xs' : List V) (s10 s11 s12 s13 s14 : Option V), σ = [some (.ref a), some (.ref d1), some (.ref d2), some (.ref Fl), some (.int i), some (.str c.name), some (nameV c.above), some (.ref fa), some u3, some (.ref wh), s10, s11, s12, s13, s14] ∧ H' Fl = some (.lst xs') ∧
          DvAll H' xs' (((List.range i).flatMap (wcC cs) ++ ((if c.name ∈ (cs.take i).map Cl.name then [(⟨0, i, 0, ⟨"double", some c.name, none, none⟩⟩ : En)] else []) ++ ((if lawBad cs c = true then [(⟨0, i, 1, ⟨"class", some c.name, none, none⟩⟩ : En)] else []) ++ (List.range j).flatMap (wcF cs i c)))).map En.py) ∧ xs'.length ≤ 18 * i + 2 + 2 * j ∧ KeptF Fl H4 H')
        ⟨xs4, _, _, _, _, _, rfl, hF4, hx5, by omega, fun _ _ _ e => e⟩ ?_ ?_
      · rintro j σ H5 hj ⟨xs5, s10, s11, s12, s13, s14, rfl, hF5, hx5, hl5, kf5⟩
        have hj : j < c.fields.length := by omega
        have lj : j < ys.length := by omega
        have e0 : (0 + (j : Int)) = j := Int.zero_add _
        rw [e0]
        have hpj : c.fields[j]? = some c.fields[j] := List.getElem?_eq_getElem hj
        generalize c.fields[j] = pr at hpj
        obtain ⟨y, hyj, dy⟩ := r4.get (i := j) (d := pair pr) (by rw [List.getElem?_map, hpj]; rfl)
        obtain ⟨pa, pv, rfl, hpa, _, p2⟩ := dy.tupE
        obtain ⟨v0, us, rfl, w0, p3⟩ := p2.consE
        obtain ⟨v1, us, rfl, w1, p3⟩ := p3.consE
        obtain rfl := p3.nilE
        obtain ⟨rfl, _⟩ := w0.strE
        have kk5 : Same H H5 := Same.by kk4 nF kf5
        refine ⟨_, rfl, _, rfl, _, rfl, fa, ys, rfl, SqT.of (kk5 _ _ hfa), cut_not lj, fun p np => ⟨p, rfl, ⟨_, SqT.of upd_same⟩, fun T nT => ?_⟩⟩
        rw [cut_take lj] at nT ⊢
        have nT5 : H5 T = none := by
          by_cases h : T = p
          · rw [h]; exact np
          · rw [upd_ne h] at nT
            exact nT
        refine lc_fst (ns := (c.fields.take j).map (·.1)) nT (show 13 < 15 by decide) upd_same (by simp [hyl]) (by simp; omega) (fst_at (ds := (c.fields.take j).map pair) ?_ ?_) fun H6 s6 hT6 => ?_
        · have := ((r4.same (TupSame.of kk5)).same (TupSame.of (same_new (o := .tup (ys.take j)) np))).takeL j
          rw [← List.map_take] at this
          exact this
        · intro m d hm
          rw [List.getElem?_map] at hm ⊢
          cases e : (c.fields.take j)[m]? with
          | none => rw [e] at hm; cases hm
          | some c' =>
            rw [e] at hm
            cases hm
            exact ⟨c'.1, _, rfl, rfl⟩
        have s56 : Same H5 H6 := (same_new np).trans s6
        have kk6 : Same H H6 := kk5.trans s56
        have hrow6 : H6 (A c.name) = some (.dK (rw_ (R c.name))) := kk6 _ _ (hrow _ hth)
        have nAd2 : A c.name ≠ d2 := hup.rows.ne hth rw_true
        have nTA : T ≠ A c.name := by
          rintro rfl
          rw [kk5 _ _ (hrow _ hth)] at nT5
          cases nT5
        have nTF : Fl ≠ T := by
          rintro rfl
          rw [hF5] at nT5
          cases nT5
        have nFA : Fl ≠ A c.name := by
          rintro rfl
          rw [hrow _ hth] at nF
          cases nF
        refine ⟨A c.name, .dK (rw_ (R c.name)), hrow6, trivial, fun od => ?_⟩
        refine ⟨_, rfl, _, rfl, d2, _, rfl, getRow _ (by rw [upd_ne nAd2.symm]; exact kk6 _ _ hd2), A c.name, od, rfl, .inl ⟨rw_ (R c.name), upd_same, ?_⟩⟩
        refine for_keys (fun m σ H' => ∃ (s13 s14 : Option V) (acc : List Str), σ = [some (.ref a), some (.ref d1), some (.ref d2), some (.ref Fl), some (.int i), some (.str c.name), some (nameV c.above), some (.ref fa), some u3, some (.ref wh), s10, some (.int j), some (.ref T), s13, s14] ∧ H' T = some (.lst (acc.map V.str)) ∧ H' (A c.name) = some (.frz od (.dK (rw_ (R c.name)))) ∧
            (∀ b o, b ≠ T → b ≠ A c.name → H6 b = some o → H' b = some o) ∧ acc.length ≤ 8 + 8 * m ∧ ∀ z, z ∈ acc ↔ z ∈ (c.fields.take j).map (·.1) ∨ ∃ o ∈ (R c.name).take m, ∃ d, findC cs o = some d ∧ z ∈ d.fields.map (·.1))
          ⟨_, _, (c.fields.take j).map (·.1), rfl, by rw [upd_ne nTA]; exact hT6, upd_same, fun b o _ n e => by rw [upd_ne n]; exact e, by simp; omega, fun z => ⟨fun h => .inl h, fun h => h.elim id fun ⟨o, ho, _⟩ => by cases ho⟩⟩ (fun m σ H' _ h => by obtain ⟨_, _, _, _, _, h, _⟩ := h; exact h) ?_ ?_
        · rintro m k v σ H7 hkm ⟨s13, s14, acc, rfl, hT7, hA7, hk7, hal, hz⟩
          obtain ⟨o, ho, rfl⟩ : ∃ o, (R c.name)[m]? = some o ∧ k = Sum.inr o := by
            unfold rw_ at hkm
            rw [List.getElem?_map] at hkm
            cases e : (R c.name)[m]? with
            | none => rw [e] at hkm; cases hkm
            | some o =>
              rw [e] at hkm
              cases hkm
              exact ⟨o, rfl, rfl⟩
          obtain ⟨d, hd⟩ := L_there ((hsm _ hth o).mp (List.mem_of_getElem? ho))
          obtain ⟨v1', hv1, dv1⟩ := Holds.get hh1 hd
          obtain ⟨ba, bs, rfl, hba, _, b2⟩ := dv1.tupE
          obtain ⟨t0, us, rfl, _, b3⟩ := b2.consE
          obtain ⟨t1, us, rfl, _, b3⟩ := b3.consE
          obtain ⟨t2, us, rfl, bf, b3⟩ := b3.consE
          obtain ⟨fb, zs, rfl, hfb, _, bf2⟩ := bf.tupE
          have live : ∀ b o, H b = some o → b ≠ A c.name → H7 b = some o := fun b o e n => hk7 b o (by rintro rfl; rw [kk5 _ _ e] at nT5; cases nT5) n (kk6 _ _ e)
          have n1 : d1 ≠ A c.name := by
            intro e
            have := hrow _ hth
            rw [← e, hd1] at this
            cases this
            have := rw_true _ _ hv1
            cases this
          have tupL : TupSame H H7 := fun b xs e => live b _ e (by rintro rfl; rw [hrow _ hth] at e; cases e)
          have g1 : DGet H7 d1 (kV (Sum.inr o)) (some (.ref ba)) := by
            have := DGet.k (k := Sum.inr o) (live _ _ hd1 n1)
            rw [hv1] at this
            exact this
          refine ⟨_, rfl, .inl ⟨rfl, _, SqL.of hT7⟩, _, rfl, _, rfl, d1, _, rfl, g1, ba, _, 2, .ref fb, rfl, rfl, SqT.of (tupL _ _ hba), atI_nat (j := 2) rfl, fb, rfl, ⟨zs, SqT.of (tupL _ _ hfb)⟩, fun D nD => ?_⟩
          have hdc : d ∈ cs := List.mem_of_find?_eq_some hd
          obtain ⟨_, _, ⟨hdl, _⟩, _⟩ := hok _ hdc
          refine lc_fst (ns := d.fields.map (·.1)) nD (show 13 < 15 by decide) (tupL _ _ hfb) (by rw [bf2.len]; simp) (by simp; omega) (fst_at (bf2.same tupL) ?_) fun H8 s8 hD8 => ?_
          · intro m' x hm
            rw [List.getElem?_map] at hm ⊢
            cases e : d.fields[m']? with
            | none => rw [e] at hm; cases hm
            | some c' =>
              rw [e] at hm
              cases hm
              exact ⟨c'.1, _, rfl, rfl⟩
          have hT8 := s8 _ _ hT7
          refine ⟨T, D, _, _, rfl, rfl, hT8, hD8, Nat.le_trans (show _ ≤ 200 from ?_) (by decide), _, _, acc ++ d.fields.map (·.1), rfl, ?_, ?_, ?_, ?_, ?_⟩
          · have := hrl _ hth
            have := (List.getElem?_eq_some_iff.mp ho).1
            simp
            omega
          · rw [upd_same, List.map_append]
          · rw [upd_ne nTA.symm]
            exact s8 _ _ hA7
          · intro b x nb nA e
            rw [upd_ne nb]
            exact s8 _ _ (hk7 b x nb nA e)
          · simp
            omega
          · intro z
            rw [List.mem_append, hz z, List.take_add_one, ho]
            constructor
            · rintro ((h | ⟨o', ho', r⟩) | h)
              · exact .inl h
              · exact .inr ⟨o', List.mem_append.mpr (.inl ho'), r⟩
              · exact .inr ⟨o, List.mem_append.mpr (.inr (by simp)), d, hd, h⟩
            · rintro (h | ⟨o', ho', d', hd', r⟩)
              · exact .inl (.inl h)
              · rcases List.mem_append.mp ho' with ho' | ho'
                · exact .inl (.inr ⟨o', ho', d', hd', r⟩)
                · have : o' = o := by simpa using ho'
                  subst this
                  rw [hd] at hd'
                  cases hd'
                  exact .inr r
        rintro σ H7 ⟨s13, s14, acc, rfl, hT7, hA7, hk7, hal, hz⟩
        rw [rw_len, List.take_length] at hz
        refine ⟨hA7, ?_⟩
        have hT9 : (upd H7 (A c.name) (.dK (rw_ (R c.name)))) T = some (.lst (acc.map V.str)) := by rw [upd_ne nTA]; exact hT7
        have k69 : ∀ b o, b ≠ T → H6 b = some o → (upd H7 (A c.name) (.dK (rw_ (R c.name)))) b = some o := fun b o n e => by
          by_cases h : b = A c.name
          · rw [h, upd_same]
            rw [h, hrow6] at e
            exact e
          · rw [upd_ne h]
            exact hk7 b o n h e
        generalize upd H7 (A c.name) (.dK (rw_ (R c.name))) = H9 at hT9 k69
        have k59 : ∀ b o, H5 b = some o → H9 b = some o := fun b o e => k69 b o (by rintro rfl; rw [nT5] at e; cases e) (s56 _ _ e)
        have kk9 : Same H H9 := fun b o e => k59 b o (kk5 b o e)
        have hF9 := k59 _ _ hF5
        have hx9 := hx5.same (TupSame.of k59)
        have ht : decide (pr.1 ∈ acc) = takenB cs c j pr.1 := by
          unfold takenB
          rw [Bool.eq_iff_iff, decide_eq_true_eq, hz, Bool.or_eq_true, decide_eq_true_eq, List.any_eq_true]
          refine or_congr (by rw [List.map_take]) ⟨fun ⟨o, ho, d, hd, hm⟩ => ⟨o, (hsm _ hth o).mp ho, by rw [hd]; exact decide_eq_true hm⟩, fun ⟨o, ho, h⟩ => ?_⟩
          obtain ⟨d, hd⟩ := L_there ho
          rw [hd] at h
          exact ⟨o, (hsm _ hth o).mpr ho, d, hd, of_decide_eq_true h⟩
        have hwh9 : H9 wh = some (.tup [.str c.name, .non, .non]) := k59 _ _ (kf5 _ _ (by rintro rfl; rw [hF4] at hwh4; cases hwh4) hwh4)
        refine nx_of ?_
        refine seq_of ?_
        refine put_if (F := 3) (Fl := Fl) (e := ⟨0, i, 2 + 2 * j, ⟨"double", some c.name, none, none⟩⟩) (b := takenB cs c j pr.1) (n := 18 * i + 2 + 2 * j) rfl hF9 hx9 hl5 (by omega) (show ("double" : Str).length ≤ 1000 by decide) (fun Q q => ?_)
          (fun H' Q _ q => q) (fun H' Q _ q => ⟨_, rfl, q⟩) (fun H' Q _ q => ?_) (fun H' Q _ q => q) (fun H' Q s q => ⟨_, rfl, q _ _ (fun _ _ e => e) (dwh _ _ (s _ _ hwh9))⟩) fun xsA HA kfA hFA hxA hlA => ?_
        · refine ⟨_, rfl, _, rfl, fa, ys, j, .ref pa, rfl, rfl, SqT.of (kk9 _ _ hfa), atI_nat hyj, pa, _, 0, .str pr.1, rfl, rfl, SqT.of (kk9 _ _ hpa), atI_nat (j := 0) rfl, _, rfl, T, _, rfl, .inl (SqL.of hT9), rfl, flat_strs _, _, rfl, ?_⟩
          rw [if_neg (by decide), inV_str, ht]
          exact q _ fun _ _ e => e
        · have q : Q (.int ((2 + 2 * j : Nat) : Int)) H' := q
          rw [show ((2 + 2 * j : Nat) : Int) = 2 + 2 * (j : Int) by omega] at q
          exact ⟨_, rfl, _, _, rfl, rfl, .inl ⟨by decide, by decide⟩, _, _, rfl, rfl, q⟩
        have kkA : Same H HA := Same.by kk9 nF kfA
        have hwhA : HA wh = some (.tup [.str c.name, .non, .non]) := kfA _ _ (by rintro rfl; rw [hF9] at hwh9; cases hwh9) hwh9
        refine nx_of ?_
        refine put_if (F := 3) (Fl := Fl) (e := ⟨0, i, 3 + 2 * j, ⟨"class", some c.name, none, none⟩⟩) (b := !knows cs pr.2) (n := 18 * i + 2 + 2 * j + 1) rfl hFA hxA hlA (by omega) (show ("class" : Str).length ≤ 1000 by decide) (fun Q q => ?_)
          (fun H' Q _ q => q) (fun H' Q _ q => ⟨_, rfl, q⟩) (fun H' Q _ q => ?_) (fun H' Q _ q => q) (fun H' Q s q => ⟨_, rfl, q _ _ (fun _ _ e => e) (dwh _ _ (s _ _ hwhA))⟩) fun xsB HB kfB hFB hxB hlB => ?_
        · refine ⟨_, rfl, _, rfl, _, rfl, fa, ys, j, .ref pa, rfl, rfl, SqT.of (kkA _ _ hfa), atI_nat hyj, pa, _, 1, v1, rfl, rfl, SqT.of (kkA _ _ hpa), atI_nat (j := 1) rfl, ?_⟩
          exact ⟨d1, v1, some pr.2, cs, kvs1, rfl, kkA _ _ hd1, hh1.same (TupSame.of kkA), w1.same (TupSame.of kkA), _, rfl, q _ fun _ _ e => e⟩
        · have q : Q (.int ((3 + 2 * j : Nat) : Int)) H' := q
          rw [show ((3 + 2 * j : Nat) : Int) = 3 + 2 * (j : Int) by omega] at q
          exact ⟨_, rfl, _, _, rfl, rfl, .inl ⟨by decide, by decide⟩, _, _, rfl, rfl, q⟩
        refine ⟨xsB, _, _, _, _, _, rfl, hFB, ?_, by omega, (kf5.trans (KeptF.of k59)).trans (kfA.trans kfB)⟩
        rw [range_snoc]
        have e : wcF cs i c j = (if takenB cs c j pr.1 = true then [(⟨0, i, 2 + 2 * j, ⟨"double", some c.name, none, none⟩⟩ : En)] else []) ++ (if (!knows cs pr.2) = true then [(⟨0, i, 3 + 2 * j, ⟨"class", some c.name, none, none⟩⟩ : En)] else []) := by
          unfold wcF
          rw [hpj]
          show (if takenB cs c j pr.1 = true then _ else _) ++ (if knows cs pr.2 = true then _ else _) = _
          cases knows cs pr.2 <;> rfl
        rw [e]
        simpa only [List.append_assoc] using hxB
      · rintro σ H5 ⟨xs5, s10, s11, s12, s13, s14, rfl, hF5, hx5, hl5, kf5⟩
        rw [Int.toNat_natCast, hyl] at hx5 hl5
        refine ⟨xs5, _, _, _, _, _, _, _, _, _, _, _, rfl, hF5, ?_, by omega, Same.by kk4 nF kf5⟩
        rw [range_snoc]
        have e : wcC cs i = ((if c.name ∈ (cs.take i).map Cl.name then [(⟨0, i, 0, ⟨"double", some c.name, none, none⟩⟩ : En)] else []) ++ ((if lawBad cs c = true then [(⟨0, i, 1, ⟨"class", some c.name, none, none⟩⟩ : En)] else []) ++ (List.range c.fields.length).flatMap (wcF cs i c))) := by
          unfold wcC
          rw [hgi]
        rw [e]
        exact hx5
    · rintro σ H1 ⟨xs, s4, s5, s6, s7, s8, s9, s10, s11, s12, s13, s14, rfl, hF, hx, hxl, k1⟩
      rw [Int.toNat_natCast, hwl] at hx hxl
      exact ⟨_, rfl, q Fl xs H1 k1 nF hF hx (by omega)⟩
end
end WL

/-! Helpers for the law's own list of wrong heads. -/
namespace WM
open PySem PySem.Spec PyProof.Rows L2 PV PF T ET PB PP FM AM AB WR CK WF WL
/-- [e for x in t], each item told -/
theorem lc_genT {K : PySem.W.Frag} {a D : Addr} {xs : List V} {es : List PyData} {H : Hp} {σ : L2.St} {vs : List Nat} {g : TG} {te : TE} {Qd : Hp → Prop} (hD : H D = none) (ha : H a = some (.tup xs)) (hl : xs.length = es.length) (hs : es.length ≤ 1000)
    (he : ∀ (i : Nat) x, xs[i]? = some x → ∃ d, es[i]? = some d ∧ ∀ (H' : Hp) (Pq : V → Hp → Prop) (B : Hp → Prop), Same H H' → (∀ v H'', Same H' H'' → Dv H'' v d → Pq v H'') → g x (wipe σ vs) H' fun σ2 H2 => wipe σ2 vs = wipe σ vs ∧ if true = true then te σ2 H2 Pq else B H2)
    (q : ∀ H' zs, Same H H' → H' D = some (.lst zs) → DvAll H' zs es → Qd H') :
    ∃ W : Nat → Nat → Hp → Prop, (∃ m, W 0 m (upd H D (.lst []))) ∧ ∀ i m1 H', W i m1 H' →
      ((Itt K a).stop i H' ∧ Qd H') ∨ ((Itt K a).go i H' ∧ ∃ Nx : Hp → Prop, (∀ H', Nx H' → ∃ m', m' < m1 ∧ W (i + 1) m' H') ∧ ∀ x H1, (Itt K a).yld i H' x H1 → g x (wipe σ vs) H1 fun σ2 H2 => wipe σ2 vs = wipe σ vs ∧ tYes σ2 H2 fun b H3 =>
        if b = true then te σ2 H3 fun y H4 => ∃ acc, H4 D = some (.lst acc) ∧ acc.length < sizeLine ∧ Nx (upd H4 D (.lst (acc ++ [y]))) else Nx H3) := by
  refine lc_tup (xs := xs) (fun i H2 => ∃ zs, H2 D = some (.lst zs) ∧ DvAll H2 zs (es.take i) ∧ Same H H2) ⟨[], upd_same, .nil, same_new hD⟩ (fun i H2 _ h => by obtain ⟨_, _, _, h⟩ := h; exact SqT.of (h _ _ ha)) ?_ ?_
  · rintro i x H2 hx ⟨zs, h1, h2, k⟩
    obtain ⟨d, hd, h⟩ := he i x hx
    refine h H2 _ (fun H3 => ∃ zs, H3 D = some (.lst zs) ∧ DvAll H3 zs (es.take (i + 1)) ∧ Same H H3) k fun v H3 s dv => ⟨zs, s _ _ h1, ?_, zs ++ [v], upd_same, ?_, fun c o e => by rw [upd_ne (ne_of_none e hD)]; exact s _ _ (k c o e)⟩
    · have := h2.len
      rw [List.length_take] at this
      exact Nat.lt_of_le_of_lt (by omega : zs.length ≤ 1000) (by decide)
    · have ts : TupSame H3 (upd H3 D (.lst (zs ++ [v]))) := fun b o z => by rw [upd_ne (ne_of z (s _ _ h1) (by intro y; cases y))]; exact z
      rw [List.take_add_one, hd]
      exact (((h2.same (TupSame.of s)).same ts)).app (.cons (dv.same ts) .nil)
  · rintro H2 ⟨zs, h1, h2, k⟩
    rw [hl, List.take_length] at h2
    exact q H2 zs k h1 h2
theorem lc_genL {K : PySem.W.Frag} {a D : Addr} {xs : List V} {es : List PyData} {H : Hp} {σ : L2.St} {vs : List Nat} {g : TG} {te : TE} {Qd : Hp → Prop} (hD : H D = none) (ha : H a = some (.lst xs)) (hl : xs.length = es.length) (hs : es.length ≤ 1000)
    (he : ∀ (i : Nat) x, xs[i]? = some x → ∃ d, es[i]? = some d ∧ ∀ (H' : Hp) (Pq : V → Hp → Prop) (B : Hp → Prop), Same H H' → (∀ v H'', Same H' H'' → Dv H'' v d → Pq v H'') → g x (wipe σ vs) H' fun σ2 H2 => wipe σ2 vs = wipe σ vs ∧ if true = true then te σ2 H2 Pq else B H2)
    (q : ∀ H' zs, Same H H' → H' D = some (.lst zs) → DvAll H' zs es → Qd H') :
    ∃ W : Nat → Nat → Hp → Prop, (∃ m, W 0 m (upd H D (.lst []))) ∧ ∀ i m1 H', W i m1 H' →
      ((Itl K a).stop i H' ∧ Qd H') ∨ ((Itl K a).go i H' ∧ ∃ Nx : Hp → Prop, (∀ H', Nx H' → ∃ m', m' < m1 ∧ W (i + 1) m' H') ∧ ∀ x H1, (Itl K a).yld i H' x H1 → g x (wipe σ vs) H1 fun σ2 H2 => wipe σ2 vs = wipe σ vs ∧ tYes σ2 H2 fun b H3 =>
        if b = true then te σ2 H3 fun y H4 => ∃ acc, H4 D = some (.lst acc) ∧ acc.length < sizeLine ∧ Nx (upd H4 D (.lst (acc ++ [y]))) else Nx H3) := by
  refine lc_list (xs := xs) (fun i H2 => ∃ zs, H2 D = some (.lst zs) ∧ DvAll H2 zs (es.take i) ∧ Same H H2) ⟨[], upd_same, .nil, same_new hD⟩ (fun i H2 _ h => by obtain ⟨_, _, _, h⟩ := h; exact SqL.of (h _ _ ha)) ?_ ?_
  · rintro i x H2 hx ⟨zs, h1, h2, k⟩
    obtain ⟨d, hd, h⟩ := he i x hx
    refine h H2 _ (fun H3 => ∃ zs, H3 D = some (.lst zs) ∧ DvAll H3 zs (es.take (i + 1)) ∧ Same H H3) k fun v H3 s dv => ⟨zs, s _ _ h1, ?_, zs ++ [v], upd_same, ?_, fun c o e => by rw [upd_ne (ne_of_none e hD)]; exact s _ _ (k c o e)⟩
    · have := h2.len
      rw [List.length_take] at this
      exact Nat.lt_of_le_of_lt (by omega : zs.length ≤ 1000) (by decide)
    · have ts : TupSame H3 (upd H3 D (.lst (zs ++ [v]))) := fun b o z => by rw [upd_ne (ne_of z (s _ _ h1) (by intro y; cases y))]; exact z
      rw [List.take_add_one, hd]
      exact (((h2.same (TupSame.of s)).same ts)).app (.cons (dv.same ts) .nil)
  · rintro H2 ⟨zs, h1, h2, k⟩
    rw [hl, List.take_length] at h2
    exact q H2 zs k h1 h2
theorem at_of {H : Hp} {xs : List V} {ds : List PyData} (r : DvAll H xs ds) {i : Nat} {x : V} (h : xs[i]? = some x) : ∃ d, ds[i]? = some d ∧ Dv H x d := by
  have hi : i < ds.length := by
    have := (List.getElem?_eq_some_iff.mp h).1
    rw [r.len] at this
    exact this
  obtain ⟨v2, hv2, dv⟩ := r.get (i := i) (d := ds[i]) (List.getElem?_eq_getElem hi)
  rw [h] at hv2
  cases hv2
  exact ⟨ds[i], List.getElem?_eq_getElem hi, dv⟩
/-- (owner, name) -/
def onD (h : Option Str × Str) : PyData := .tuple [optS h.1, .str h.2]
theorem on_eqv (a b : Option Str × Str) : PyData.eqv (onD a) (onD b) = decide (a = b) := by
  obtain ⟨o, x⟩ := a
  obtain ⟨p, y⟩ := b
  have e : PyData.eqv (onD (o, x)) (onD (p, y)) = (PyData.eqv (optS o) (optS p) && ((x == y) && true)) := rfl
  have e2 : PyData.eqv (optS o) (optS p) = decide (o = p) := by
    cases o with
    | none => cases p <;> rfl
    | some a => cases p with
      | none => rfl
      | some b =>
        show (a == b) = decide (some a = some b)
        by_cases h : a = b <;> simp [h]
  rw [e, e2]
  by_cases h1 : o = p <;> by_cases h2 : x = y <;> simp [h1, h2]
theorem on_any (b : Option Str × Str) : ∀ l : List (Option Str × Str), ((l.map onD).any fun z => PyData.eqv z (onD b)) = decide (b ∈ l)
  | [] => rfl
  | a :: l => by
    rw [List.map_cons, List.any_cons, on_any b l, on_eqv]
    by_cases h : a = b
    · simp [h]
    · have h2 : ¬ b = a := fun z => h z.symm
      simp [h, h2]
theorem on_good {h : Option Str × Str} (h1 : ∀ z, h.1 = some z → PyData.strOk z = true) (h2 : PyData.strOk h.2 = true) : (onD h).canLay0 = true ∧ (onD h).depth ≤ 2 := by
  obtain ⟨o, x⟩ := h
  have e2 : (PyData.str x).canLay0 = true := CK.strD h2
  cases o with
  | none =>
    refine ⟨?_, by show max 0 (max 0 0) + 1 ≤ 2; decide⟩
    show (true && ((PyData.str x).canLay0 && true)) = true
    rw [e2]; rfl
  | some z =>
    have e1 : (PyData.str z).canLay0 = true := CK.strD (h1 z rfl)
    refine ⟨?_, by show max 0 (max 0 0) + 1 ≤ 2; decide⟩
    show ((PyData.str z).canLay0 && ((PyData.str x).canLay0 && true)) = true
    rw [e1, e2]; rfl
theorem ons_shaped {l : List (Option Str × Str)} (h : ∀ a ∈ l, (∀ z, a.1 = some z → PyData.strOk z = true) ∧ PyData.strOk a.2 = true) : SeqAt.shaped (.list (l.map onD)) = true := by
  have g : PyData.canLayAll0 (l.map onD) = true ∧ PyData.depthAll (l.map onD) ≤ 2 :=
    ⟨KI.canAll.mpr fun d hd => by obtain ⟨a, ha, rfl⟩ := List.mem_map.mp hd; exact (on_good (h a ha).1 (h a ha).2).1, KI.depthAll_le.mpr fun d hd => by obtain ⟨a, ha, rfl⟩ := List.mem_map.mp hd; exact (on_good (h a ha).1 (h a ha).2).2⟩
  unfold SeqAt.shaped
  show (PyData.canLayAll0 (l.map onD) && decide (PyData.depthAll (l.map onD) + 1 ≤ 64)) = true
  rw [g.1, decide_eq_true (by omega)]
  rfl
theorem parts_shaped {x y : PyData} (h : SeqAt.shaped (.tuple [x, y]) = true) : SeqAt.shaped x = true ∧ SeqAt.shaped y = true := by
  have h1 := SeqAt.canLay_of_shaped h
  have h2 := SeqAt.depth_of_shaped h
  have h1 : (x.canLay0 && (y.canLay0 && true)) = true := h1
  have h2 : max x.depth (max y.depth 0) + 1 ≤ 64 := h2
  simp only [Bool.and_true, Bool.and_eq_true] at h1
  unfold SeqAt.shaped
  rw [h1.1, h1.2, decide_eq_true (by omega), decide_eq_true (by omega)]
  exact ⟨rfl, rfl⟩
/-- (params, result) -/
def mD (f : Fn) : PyData := .tuple [.tuple (f.params.map pair), optK f.result]
theorem kd_good {k : Kd} (h : kindOk k 3 = true) : k.py.canLay0 = true ∧ k.py.depth ≤ 5 := by
  obtain ⟨h1, h2⟩ := kind_rows k 3 h
  obtain ⟨k1, k2⟩ := kd_lay k h2
  exact ⟨k1, by omega⟩
theorem mD_good {f : Fn} (h : fnOk f) : (mD f).canLay0 = true ∧ (mD f).depth ≤ 8 := by
  obtain ⟨_, ⟨_, h2⟩, h3, _⟩ := h
  have g1 : PyData.canLayAll0 (f.params.map pair) = true ∧ PyData.depthAll (f.params.map pair) ≤ 6 := by
    refine ⟨KI.canAll.mpr fun d hd => ?_, KI.depthAll_le.mpr fun d hd => ?_⟩
    · obtain ⟨p, hp, rfl⟩ := List.mem_map.mp hd
      obtain ⟨a, b⟩ := h2 p hp
      show ((PyData.str p.1).canLay0 && (p.2.py.canLay0 && true)) = true
      rw [CK.strD (name_so a), (kd_good b).1]
      rfl
    · obtain ⟨p, hp, rfl⟩ := List.mem_map.mp hd
      obtain ⟨a, b⟩ := h2 p hp
      have := (kd_good b).2
      show max 0 (max p.2.py.depth 0) + 1 ≤ 6
      omega
  have g2 : (optK f.result).canLay0 = true ∧ (optK f.result).depth ≤ 5 := by
    cases e : f.result with
    | none => exact ⟨rfl, Nat.zero_le _⟩
    | some k =>
      rw [e] at h3
      exact kd_good h3
  refine ⟨?_, ?_⟩
  · show (PyData.canLayAll0 (f.params.map pair) && ((optK f.result).canLay0 && true)) = true
    rw [g1.1, g2.1]
    rfl
  · show max (PyData.depthAll (f.params.map pair) + 1) (max (optK f.result).depth 0) + 1 ≤ 8
    omega
theorem mDs_shaped {fs : List Fn} (h : ∀ f ∈ fs, fnOk f) : SeqAt.shaped (.list (fs.map mD)) = true := by
  have g : PyData.canLayAll0 (fs.map mD) = true ∧ PyData.depthAll (fs.map mD) ≤ 8 :=
    ⟨KI.canAll.mpr fun d hd => by obtain ⟨a, ha, rfl⟩ := List.mem_map.mp hd; exact (mD_good (h a ha)).1, KI.depthAll_le.mpr fun d hd => by obtain ⟨a, ha, rfl⟩ := List.mem_map.mp hd; exact (mD_good (h a ha)).2⟩
  unfold SeqAt.shaped
  show (PyData.canLayAll0 (fs.map mD) && decide (PyData.depthAll (fs.map mD) + 1 ≤ 64)) = true
  rw [g.1, decide_eq_true (by omega)]
  rfl
def isM (f : Fn) : Bool := decide (f.name = "main")
theorem main_any : ∀ fs : List Fn, ((fs.filter isM).map mD).any (fun z => PyData.eqv z (.tuple [.tuple [], .none])) = fs.any isMain
  | [] => rfl
  | f :: fs => by
    have e : PyData.eqv (mD f) (.tuple [.tuple [], .none]) = (f.params.isEmpty && f.result.isNone) := by
      have e1 : PyData.eqv (mD f) (.tuple [.tuple [], .none]) = (PyData.eqv (.tuple (f.params.map pair)) (.tuple []) && (PyData.eqv (optK f.result) .none && true)) := rfl
      rw [e1, par_eqv]
      cases f.result with
      | none => rfl
      | some k => cases k <;> rfl
    rw [List.any_cons, ← main_any fs]
    by_cases h : isM f = true
    · rw [List.filter_cons, if_pos h, List.map_cons, List.any_cons, e]
      unfold isMain
      have : decide (f.name = "main") = true := h
      rw [this]
      rfl
    · rw [List.filter_cons, if_neg h]
      unfold isMain
      have : decide (f.name = "main") = false := by
        unfold isM at h
        simpa using h
      rw [this]
      rfl
theorem snd_at {H : Hp} {ps : List (Str × Kd)} {vs : List V} {j : Nat} {x : V} (r : DvAll H vs (ps.map pair)) (h : vs[j]? = some x) : ∃ kd, (ps.map (·.2))[j]? = some kd ∧ ∃ (b : Addr) (u v : V), x = .ref b ∧ H b = some (.tup [u, v]) ∧ Dv H v kd.py := by
  obtain ⟨_, hd, dy⟩ := at_of r h
  rw [List.getElem?_map] at hd
  cases e : ps[j]? with
  | none => rw [e] at hd; cases hd
  | some pr =>
    rw [e] at hd
    cases hd
    obtain ⟨b, ws, rfl, hb, _, r1⟩ := dy.tupE
    obtain ⟨u, us, rfl, _, r2⟩ := r1.consE
    obtain ⟨v, us, rfl, m1, r2⟩ := r2.consE
    obtain rfl := r2.nilE
    exact ⟨pr.2, by rw [List.getElem?_map, e]; rfl, b, u, v, rfl, hb, m1⟩
/-- [p[1] for p in params] -/
theorem lc_snd {K : PySem.W.Frag} {a D : Addr} {xs : List V} {f : Fn} {H : Hp} {σ : L2.St} {m : Nat} {Qd : Hp → Prop} (hD : H D = none) (hm : m < σ.length) (ha : H a = some (.tup xs)) (r : DvAll H xs (f.params.map pair)) (hp : f.params.length ≤ 6)
    (q : ∀ H' zs, Same H H' → H' D = some (.lst zs) → DvAll H' zs ((ks f).map Kd.py) → Qd H') :
    ∃ W : Nat → Nat → Hp → Prop, (∃ m, W 0 m (upd H D (.lst []))) ∧ ∀ i m1 H', W i m1 H' →
      ((Itt K a).stop i H' ∧ Qd H') ∨ ((Itt K a).go i H' ∧ ∃ Nx : Hp → Prop, (∀ H', Nx H' → ∃ m', m' < m1 ∧ W (i + 1) m' H') ∧ ∀ x H1, (Itt K a).yld i H' x H1 → gName m x (wipe σ [m]) H1 fun σ2 H2 => wipe σ2 [m] = wipe σ [m] ∧ tYes σ2 H2 fun b H3 =>
        if b = true then tOp (rIxT K) (tVar m) (tC (.int 1)) σ2 H3 fun y H4 => ∃ acc, H4 D = some (.lst acc) ∧ acc.length < sizeLine ∧ Nx (upd H4 D (.lst (acc ++ [y]))) else Nx H3) := by
  refine lc_genT (es := (ks f).map Kd.py) hD ha (by rw [r.len]; unfold ks; simp) (by unfold ks; simp; omega) (fun j x hj => ?_) q
  obtain ⟨kd, hk, b, u, v, rfl, hb, dv⟩ := snd_at r hj
  refine ⟨kd.py, by unfold ks; rw [List.getElem?_map, hk]; rfl, fun H' Pq B s' k => ⟨?_, iteT ⟨.ref b, ?_, b, _, 1, v, rfl, rfl, SqT.of (s' _ _ hb), atI_nat (j := 1) rfl, k _ _ (fun _ _ e => e) (dv.same (TupSame.of s'))⟩⟩⟩
  · show ((wipe σ [m]).set m (some (.ref b))).set m none = wipe σ [m]
    rw [List.set_set]
    show ((σ.set m none).set m none) = σ.set m none
    rw [List.set_set]
  · rw [List.getElem?_set]
    have g : (wipe σ [m]).length = σ.length := wipe_length _ _
    simp [g, hm]
theorem ks_shaped {f : Fn} (h : HkOk f) : SeqAt.shaped (.list ((ks f).map Kd.py)) = true ∧ SeqAt.shaped (optK f.result) = true := parts_shaped (headD_shaped h)
end WM

/-! _law_wrong_heads. -/
namespace WH
open PySem PySem.Spec PyProof.Rows L2 PV PF T ET PB PP FM AM AB WR CK WF WL WM
/-- a dict that is held from here on -/
def tHeld (t : TE) : TE := fun σ H Q => t σ H fun x H1 => ∃ d u, x = .ref d ∧ H1 d = some u ∧ Mut (some u) ∧ ∀ od, Q (.ref d) (upd H1 d (.frz od u))
theorem pe_held {X : Cx} {e : Expr} {t : TE} (h : PE X e t) : PE X e (tHeld t) := by
  refine ⟨fun pins s σ H Q I hw => ?_⟩
  refine thn (h.run pins s σ H _ I hw) fun v s1 ⟨x, H1, I1, r1, d, u, ex, hd, mu, q⟩ => ?_
  obtain ⟨od, I2⟩ := I1.lock hd mu
  rw [ex] at r1
  exact ⟨.ref d, _, I2, r1, q od⟩
def tOrS (t u : TS) : TS := fun D σ H => t D σ H ∨ u D σ H
theorem ps_or {X : Cx} {st : Stmt} {t u : TS} (h1 : PS X st t) (h2 : PS X st u) : PS X st (tOrS t u) :=
  ⟨fun pins s σ H D I hw => hw.elim (fun w => h1.run pins s σ H D I w) (fun w => h2.run pins s σ H D I w)⟩
theorem ps_keysOr {X : Cx} {iter tg : Expr} {body : List Stmt} {td : TE} {g : TG} {tb : TS} {pos : Pos} (hp : PassesOwn (model X.prog X.w) X.A X.env X.xe) (hc : X.calm = true) (he : PE X iter td) (hg : PG X tg g) (hb : PSs X body tb)
    (hs : ∀ x, foldedSetIterable iter X.env x = pure x := by intro _; rfl) : PS X (.For tg iter body [] pos) (tOrS (tLock (tFor (iKeys td) g tb)) (tFor (iKeys (tHeld td)) g tb)) :=
  ps_or (ps_lock (ps_for hp hc (pi_keys he) hg hb hs)) (ps_for hp hc (pi_keys (pe_held he)) hg hb hs)
structure Wh (K : PySem.W.Frag) (mg : Str → Option Value) : Prop where
  wl : Wl K mg
abbrev whN : List Str := ["_law_program", "_law_first", "_law_rows", "_law_found", "_law_heads_here", "_law_one_here", "_law_method", "_law_i", "_law_owner", "_law_function", "_law_name_here", "_law_params", "_law_result", "_law_body", "_law_where", "_law_other", "_law_more", "_law_j", "_law_pair", "_law_kinds"]
/-- the heads in their sequence -/
def hlist (cs : List Cl) (fs : List Fn) : List (Option Str × Fn) := (cs.flatMap fun c => c.methods.map fun m => (some c.name, m)) ++ fs.map fun f => (none, f)
def hpy (h : Option Str × Fn) : PyData := .tuple [optS h.1, h.2.py]
def hdJ (cs : List Cl) (i : Nat) (o : Option Str) (f : Fn) (j : Nat) : List En := match f.params[j]? with
  | some p => (if p.1 ∈ (f.params.take j).map (·.1) then [(⟨1, i, 1 + 2 * j, ⟨"double", o, some f.name, none⟩⟩ : En)] else []) ++ (if (!knows cs p.2) = true then [(⟨1, i, 2 + 2 * j, ⟨"class", o, some f.name, none⟩⟩ : En)] else [])
  | none => []
def hdI (cs : List Cl) (hs : List (Option Str × Fn)) (i : Nat) (o : Option Str) (f : Fn) (t : Nat) : List En :=
  (if (o, f.name) ∈ (hs.take i).map (fun h => (h.1, h.2.name)) then [(⟨1, i, 0, ⟨"double", o, some f.name, none⟩⟩ : En)] else []) ++ ((List.range f.params.length).flatMap (hdJ cs i o f) ++
    ((if (!knowsO cs f.result) = true then [(⟨1, i, 90, ⟨"class", o, some f.name, none⟩⟩ : En)] else []) ++ List.replicate t (⟨1, i, 91, ⟨"override", o, some f.name, none⟩⟩ : En)))
def ovr (cs : List Cl) (o : Option Str) (f : Fn) : Bool := match o with
  | none => false
  | some n => (L cs n).any fun m => match findC cs m with
    | some d => d.methods.any fun g => otherBad f g
    | none => false
inductive Hds (cs : List Cl) (hs : List (Option Str × Fn)) : Nat → List En → Prop
  | zero : Hds cs hs 0 []
  | succ {i : Nat} {es : List En} {o : Option Str} {f : Fn} {t : Nat} (h : Hds cs hs i es) (e : hs[i]? = some (o, f)) (ht : 0 < t ↔ ovr cs o f = true) : Hds cs hs (i + 1) (es ++ hdI cs hs i o f t)
def mainE (fs : List Fn) : List En := if fs.any isMain = true then [] else [⟨2, 0, 0, ⟨"main", none, none, none⟩⟩]
theorem hlist_ok {cs : List Cl} {fs : List Fn} (h : progOk cs fs) : (hlist cs fs).length ≤ 30 ∧ ∀ p ∈ hlist cs fs, fnOk p.2 ∧ ∀ n, p.1 = some n → there cs n ∧ nameB n = true := by
  obtain ⟨h1, h2, h3, h4⟩ := h
  constructor
  · unfold hlist
    rw [List.length_append, List.length_flatMap, List.length_map]
    have e : (cs.map fun c => (c.methods.map fun m => ((some c.name : Option Str), m)).length) = cs.map fun c => c.methods.length := List.map_congr_left fun c _ => List.length_map _
    rw [e]
    have : meths cs = (cs.map fun c => c.methods.length).sum := rfl
    omega
  · intro p hp
    rcases List.mem_append.mp hp with hp | hp
    · obtain ⟨c, hc, hp⟩ := List.mem_flatMap.mp hp
      obtain ⟨m, hm, rfl⟩ := List.mem_map.mp hp
      obtain ⟨g1, _, _, _, g2⟩ := h3 c hc
      exact ⟨g2 m hm, fun n e => by cases e; exact ⟨mem_there hc, g1⟩⟩
    · obtain ⟨f, hf, rfl⟩ := List.mem_map.mp hp
      exact ⟨h4 f hf, fun n e => by cases e⟩
theorem take_flat {α β : Type} {l : List α} {i : Nat} {c : α} (g : α → List β) (h : l[i]? = some c) : (l.take (i + 1)).flatMap g = (l.take i).flatMap g ++ g c := by
  rw [List.take_add_one, h, List.flatMap_append]
  simp
section
variable {P : Program} {w : World} {K : PySem.W.Frag} {mg : Str → Option Value} {base : Heap}
def spWh : Sp := fun vs H Q _ => ∃ (v : V) (d1 d2 : Addr) (cs : List Cl) (fs : List Fn) (A : Str → Addr) (R : Str → List Str), vs = [v, .ref d1, .ref d2] ∧ Dv H v (progPy cs fs) ∧ progOk cs fs ∧ Up H cs d1 d2 A R ∧
  ∀ (Fl : Addr) (xs : List V) (es : List En) (H' : Hp), Same H H' → H Fl = none → H' Fl = some (.lst xs) → Hds cs (hlist cs fs) (hlist cs fs).length es → DvAll H' xs ((es ++ mainE fs).map En.py) → xs.length ≤ 3500 → Q (.ref Fl) H'
theorem ok_wh {f : Addr} {fd : FuncData} (F : Fun K "_law_wrong_heads" "_law_wrong_heads" s_law_wrong_heads f fd) (X : Wl K mg) : FnOk P w K mg base CX0 2 f fd ["_law_program", "_law_first", "_law_rows"] spWh := by
  obtain ⟨fL, dL, GL⟩ := X.lk
  have HL : FnOk P w K mg base CX0 1 fL dL ["_law_first", "_law_kind_here"] spLk := ok_lk GL.F X
  refine F.ok sc_law_wrong_heads (fun vs H Q E h => ?_) (fun cdv A outer s H vs Q E hr h => ?_)
  · obtain ⟨v, d1, d2, cs, fs, A, R, rfl, _⟩ := h
    rfl
  · obtain ⟨v, d1, d2, cs, fs, A, R, rfl, hv, hpo, hup, q⟩ := h
    have hu := hu_of hr
    have gen : ∀ B : Around, Room 1 B → B.units + 65 < cLine := fun B r => by have := r.un; omega
    refine ⟨_, pss_cons (ps_par (i := 3) (j := 4) rfl sc_law_wrong_heads.nd rfl rfl (by decide) rfl rfl (pa_cons (pe_lst pa_nil) (pa_cons (pe_lst pa_nil) pa_nil)) rfl)
      (pss_cons (ps_for PassesOwn.never rfl (pi_tup (pe_ix ix_tup (pv 0) pe_int (fun _ _ => rfl))) (pg_name (i := 5) sc_law_wrong_heads.nd rfl (Or.inr rfl))
        (pss_one (ps_expr (pe_bm PySem.F.plainAttrs_list PySem.F.slot_list_extend PySem.F.type_list_extend mt_extend (pv 4) (pa_cons (pe_lc (own := [("_law_method", 6)]) (g := gName 6) (tt := tYes) (te := tTup (tCons (tOp (rIxT K) (tVar 5) (tC (.int 0))) (tCons (tVar 6) tNil))) rfl sc_law_wrong_heads.nd
            (pi_tup (pe_ix ix_tup (pv 5) pe_int (fun _ _ => rfl)))
            (blkOk_by (N := whN) (sc := defScope s_law_wrong_heads) (by decide +kernel)) (fun _ _ _ _ _ => pg_name (i := 6) sc_law_wrong_heads.nd rfl (Or.inl rfl)) (fun _ _ _ _ _ => pts_nil) (fun _ _ _ _ _ => pe_tup (pa_cons (pe_ix ix_tup (pv 5) pe_int (fun _ _ => rfl)) (pa_cons (pv 6) pa_nil)))) pa_nil)))))
      (pss_cons (ps_expr (pe_bm PySem.F.plainAttrs_list PySem.F.slot_list_extend PySem.F.type_list_extend mt_extend (pv 4) (pa_cons (pe_lc (own := [("_law_one_here", 5)]) (g := gName 5) (tt := tYes) (te := tTup (tCons (tC .non) (tCons (tVar 5) tNil))) rfl sc_law_wrong_heads.nd
            (pi_tup (pe_ix ix_tup (pv 0) pe_int (fun _ _ => rfl)))
            (blkOk_by (N := whN) (sc := defScope s_law_wrong_heads) (by decide +kernel)) (fun _ _ _ _ _ => pg_name (i := 5) sc_law_wrong_heads.nd rfl (Or.inl rfl)) (fun _ _ _ _ _ => pts_nil) (fun _ _ _ _ _ => pe_tup (pa_cons pe_non (pa_cons (pv 5) pa_nil)))) pa_nil)))
      (pss_cons (ps_for PassesOwn.never rfl (pi_range1 (by rfl) X.rng (pa_cons (pe_callB call_len_seq (by rfl) X.len PySem.boot_len (pa_cons (pv 4) pa_nil)) pa_nil)) (pg_name (i := 7) sc_law_wrong_heads.nd rfl (Or.inl rfl))
        (pss_cons (ps_asg (pe_ix ix_list (pv 4) (pv 7) (fun _ _ => rfl)) (pg_tup rfl (pgs_cons (pg_name (i := 8) sc_law_wrong_heads.nd rfl (Or.inl rfl)) (pgs_cons (pg_name (i := 9) sc_law_wrong_heads.nd rfl (Or.inl rfl)) pgs_nil))))
        (pss_cons (ps_asg (pv 9) (pg_tup rfl (pgs_cons (pg_name (i := 10) sc_law_wrong_heads.nd rfl (Or.inl rfl)) (pgs_cons (pg_name (i := 11) sc_law_wrong_heads.nd rfl (Or.inl rfl)) (pgs_cons (pg_name (i := 12) sc_law_wrong_heads.nd rfl (Or.inl rfl)) (pgs_cons (pg_name (i := 13) sc_law_wrong_heads.nd rfl (Or.inl rfl)) pgs_nil))))))
        (pss_cons (ps_set (i := 14) sc_law_wrong_heads.nd rfl (Or.inl rfl) (pe_tup (pa_cons (pv 8) (pa_cons (pv 10) (pa_cons pe_non pa_nil)))))
        (pss_cons (ps_if (pt_cmpR (op_inD (gen _ hr)) (pe_tup (pa_cons (pv 8) (pa_cons (pv 10) pa_nil))) (pe_lc (own := [("_law_other", 15), ("_law_more", 16)]) (g := gTup K 2 (gCons (gName 15) (gCons (gName 16) gNil))) (tt := tYes) (te := tTup (tCons (tVar 15) (tCons (tOp (rIxT K) (tVar 16) (tC (.int 0))) tNil))) rfl sc_law_wrong_heads.nd (pi_list (pe_slice sl_list (pv 4) po_none (po_some (pv 7))))
            (blkOk_by (N := whN) (sc := defScope s_law_wrong_heads) (by decide +kernel)) (fun _ _ _ _ _ => pg_tup rfl (pgs_cons (pg_name (i := 15) sc_law_wrong_heads.nd rfl (Or.inl rfl)) (pgs_cons (pg_name (i := 16) sc_law_wrong_heads.nd rfl (Or.inl rfl)) pgs_nil))) (fun _ _ _ _ _ => pts_nil)
            (fun _ _ _ _ _ => pe_tup (pa_cons (pv 15) (pa_cons (pe_ix ix_tup (pv 16) pe_int (fun _ _ => rfl)) pa_nil)))) (by rfl))
          (pss_one (ps_expr (pe_bm PySem.F.plainAttrs_list PySem.F.slot_list_append PySem.F.type_list_append mt_append (pv 3) (pa_cons (pe_tup (pa_cons (pe_tup (pa_cons pe_int (pa_cons (pv 7) (pa_cons pe_int pa_nil)))) (pa_cons pe_str (pa_cons (pv 14) pa_nil)))) pa_nil)))) pss_nil)
        (pss_cons (ps_for PassesOwn.never rfl (pi_range1 (by rfl) X.rng (pa_cons (pe_callB call_len_seq (by rfl) X.len PySem.boot_len (pa_cons (pv 11) pa_nil)) pa_nil)) (pg_name (i := 17) sc_law_wrong_heads.nd rfl (Or.inl rfl))
          (pss_cons (ps_if (pt_cmpR op_in_seq (pe_ix ix_tup (pe_ix ix_tup (pv 11) (pv 17) (fun _ _ => rfl)) pe_int (fun _ _ => rfl)) (pe_lc (own := [("_law_pair", 18)]) (g := gName 18) (tt := tYes) (te := tOp (rIxT K) (tVar 18) (tC (.int 0))) rfl sc_law_wrong_heads.nd (pi_tup (pe_slice sl_tup (pv 11) po_none (po_some (pv 17))))
              (blkOk_by (N := whN) (sc := defScope s_law_wrong_heads) (by decide +kernel)) (fun _ _ _ _ _ => pg_name (i := 18) sc_law_wrong_heads.nd rfl (Or.inl rfl)) (fun _ _ _ _ _ => pts_nil) (fun _ _ _ _ _ => pe_ix ix_tup (pv 18) pe_int (fun _ _ => rfl))) (by rfl))
            (pss_one (ps_expr (pe_bm PySem.F.plainAttrs_list PySem.F.slot_list_append PySem.F.type_list_append mt_append (pv 3) (pa_cons (pe_tup (pa_cons (pe_tup (pa_cons pe_int (pa_cons (pv 7) (pa_cons (pe_op op_add pe_int (pe_op op_mul pe_int (pv 17))) pa_nil)))) (pa_cons pe_str (pa_cons (pv 14) pa_nil)))) pa_nil)))) pss_nil)
          (pss_one (ps_if (pt_val (pe_call HL hr (by rfl) GL.g GL.F.kp GL.b .nil pass0 (pa_cons (pv 1) (pa_cons (pe_ix ix_tup (pe_ix ix_tup (pv 11) (pv 17) (fun _ _ => rfl)) pe_int (fun _ _ => rfl)) pa_nil))))
            (pss_one (ps_expr (pe_bm PySem.F.plainAttrs_list PySem.F.slot_list_append PySem.F.type_list_append mt_append (pv 3) (pa_cons (pe_tup (pa_cons (pe_tup (pa_cons pe_int (pa_cons (pv 7) (pa_cons (pe_op op_add pe_int (pe_op op_mul pe_int (pv 17))) pa_nil)))) (pa_cons pe_str (pa_cons (pv 14) pa_nil)))) pa_nil)))) pss_nil))))
        (pss_cons (ps_if (pt_val (pe_call HL hr (by rfl) GL.g GL.F.kp GL.b .nil pass0 (pa_cons (pv 1) (pa_cons (pv 12) pa_nil))))
            (pss_one (ps_expr (pe_bm PySem.F.plainAttrs_list PySem.F.slot_list_append PySem.F.type_list_append mt_append (pv 3) (pa_cons (pe_tup (pa_cons (pe_tup (pa_cons pe_int (pa_cons (pv 7) (pa_cons pe_int pa_nil)))) (pa_cons pe_str (pa_cons (pv 14) pa_nil)))) pa_nil)))) pss_nil)
        (pss_one (ps_keysOr PassesOwn.never rfl (pe_ifExp (pt_cmpR op_notN (pv 8) pe_non (nomark _)) (pe_dget hu (pv 2) (pv 8) (fun _ _ => rfl)) pe_dnewK) (pg_name (i := 15) sc_law_wrong_heads.nd rfl (Or.inl rfl))
          (pss_one (ps_for PassesOwn.never rfl (pi_tup (pe_ix ix_tup (pe_dget hu (pv 1) (pv 15) (fun _ _ => rfl)) pe_int (fun _ _ => rfl))) (pg_name (i := 16) sc_law_wrong_heads.nd rfl (Or.inl rfl))
            (pss_cons (ps_setLc (i := 19) (own := [("_law_pair", 18)]) (g := gName 18) (tt := tYes) (te := tOp (rIxT K) (tVar 18) (tC (.int 1))) rfl sc_law_wrong_heads.nd rfl rfl (sw_true rfl rfl rfl (by decide +kernel)) (pi_tup (pe_ix ix_tup (pv 16) pe_int (fun _ _ => rfl)))
                (blkOk_by (N := whN) (sc := defScope s_law_wrong_heads) (by decide +kernel)) (fun _ _ _ _ _ => pg_name (i := 18) sc_law_wrong_heads.nd rfl (Or.inl rfl)) (fun _ _ _ _ _ => pts_nil) (fun _ _ _ _ _ => pe_ix ix_tup (pv 18) pe_int (fun _ _ => rfl)))
            (pss_one (ps_if (PW.pt (pw_and (pt_cmpR op_eq (pe_ix ix_tup (pv 16) pe_int (fun _ _ => rfl)) (pv 10) (nomark _)) (pw_and1 (PW.pt (pw_or (pt_cmpR (op_neD hr.units) (pv 19) (pe_lc (own := [("_law_pair", 18)]) (g := gName 18) (tt := tYes) (te := tOp (rIxT K) (tVar 18) (tC (.int 1))) rfl sc_law_wrong_heads.nd (pi_tup (pv 11))
                (blkOk_by (N := whN) (sc := defScope s_law_wrong_heads) (by decide +kernel)) (fun _ _ _ _ _ => pg_name (i := 18) sc_law_wrong_heads.nd rfl (Or.inl rfl)) (fun _ _ _ _ _ => pts_nil) (fun _ _ _ _ _ => pe_ix ix_tup (pv 18) pe_int (fun _ _ => rfl))) (nomark _)) (pw_or1 (pt_cmpR (op_neD hr.units) (pe_ix ix_tup (pv 16) pe_int (fun _ _ => rfl)) (pv 12) (nomark _))))))))
              (pss_one (ps_expr (pe_bm PySem.F.plainAttrs_list PySem.F.slot_list_append PySem.F.type_list_append mt_append (pv 3) (pa_cons (pe_tup (pa_cons (pe_tup (pa_cons pe_int (pa_cons (pv 7) (pa_cons pe_int pa_nil)))) (pa_cons pe_str (pa_cons (pv 14) pa_nil)))) pa_nil)))) pss_nil))))))))))))))
      (pss_cons (ps_if (pt_cmpR (op_notInD (gen _ hr)) (pe_tup (pa_cons (pe_tup pa_nil) (pa_cons pe_non pa_nil))) (pe_lc (own := [("_law_one_here", 5)]) (g := gName 5) (tt := tTest (tOp rEq (tOp (rIxT K) (tVar 5) (tC (.int 0))) (tC (.str "main")))) (te := tTup (tCons (tOp (rIxT K) (tVar 5) (tC (.int 1))) (tCons (tOp (rIxT K) (tVar 5) (tC (.int 2))) tNil))) rfl sc_law_wrong_heads.nd (pi_tup (pe_ix ix_tup (pv 0) pe_int (fun _ _ => rfl)))
            (blkOk_by (N := whN) (sc := defScope s_law_wrong_heads) (by decide +kernel)) (fun _ _ _ _ _ => pg_name (i := 5) sc_law_wrong_heads.nd rfl (Or.inl rfl)) (fun _ _ _ _ _ => pts_one (pt_cmpR op_eq (pe_ix ix_tup (pv 5) pe_int (fun _ _ => rfl)) pe_str (nomark _)))
            (fun _ _ _ _ _ => pe_tup (pa_cons (pe_ix ix_tup (pv 5) pe_int (fun _ _ => rfl)) (pa_cons (pe_ix ix_tup (pv 5) pe_int (fun _ _ => rfl)) pa_nil)))) (by rfl))
          (pss_one (ps_expr (pe_bm PySem.F.plainAttrs_list PySem.F.slot_list_append PySem.F.type_list_append mt_append (pv 3) (pa_cons (pe_tup (pa_cons (pe_tup (pa_cons pe_int (pa_cons pe_int (pa_cons pe_int pa_nil)))) (pa_cons pe_str (pa_cons (pe_tup (pa_cons pe_non (pa_cons pe_non (pa_cons pe_non pa_nil)))) pa_nil)))) pa_nil)))) pss_nil)
      (pss_one (ps_ret (pv 3))))))), ?_⟩
    obtain ⟨hc12, _, hcl, hfn⟩ := id hpo
    obtain ⟨hh30, hhok⟩ := hlist_ok hpo
    obtain ⟨a0, us, rfl, ha0, _, p2⟩ := hv.tupE
    obtain ⟨x0, us, rfl, c0, p3⟩ := p2.consE
    obtain ⟨x1, us, rfl, c1, p3⟩ := p3.consE
    obtain rfl := p3.nilE
    obtain ⟨ac, wc, rfl, hac, _, rc⟩ := c0.tupE
    obtain ⟨af, wf, rfl, haf, _, rf⟩ := c1.tupE
    have hwl : wc.length = cs.length := by rw [rc.len, List.length_map]
    have hwf : wf.length = fs.length := by rw [rf.len, List.length_map]
    refine ⟨Nat.zero_le _, fun Fl nF => ⟨Nat.zero_le _, fun He nHe => ⟨_, _, rfl, ?_⟩⟩⟩
    have k0 : Same H (upd (upd H Fl (.lst [])) He (.lst [])) := (same_new nF).trans (same_new nHe)
    have nFH : Fl ≠ He := by
      rintro rfl
      rw [upd_same] at nHe
      cases nHe
    have nH0 : H He = none := by
      rw [upd_ne nFH.symm] at nHe
      exact nHe
    have hF0 : (upd (upd H Fl (.lst [])) He (.lst [])) Fl = some (.lst []) := by rw [upd_ne nFH, upd_same]
    have hH0 : (upd (upd H Fl (.lst [])) He (.lst [])) He = some (.lst []) := upd_same
    generalize upd (upd H Fl (.lst [])) He (.lst []) = H0 at k0 hF0 hH0
    refine ⟨_, rfl, a0, _, 0, .ref ac, rfl, rfl, SqT.of (k0 _ _ ha0), atI_nat (j := 0) rfl, ac, rfl, ⟨wc, SqT.of (k0 _ _ hac)⟩, ?_⟩
    refine for_tup (xs := wc) (fun i σ H' => ∃ (ys : List V) (s5 s6 : Option V), σ = [some (.ref a0), some (.ref d1), some (.ref d2), some (.ref Fl), some (.ref He), s5, s6, none, none, none, none, none, none, none, none, none, none, none, none, none] ∧ H' He = some (.lst ys) ∧ H' Fl = some (.lst []) ∧
        DvAll H' ys (((cs.take i).flatMap fun c => c.methods.map fun m => ((some c.name : Option Str), m)).map hpy) ∧ ys.length ≤ 8 * i ∧ Same H H')
      ⟨[], _, _, rfl, hH0, hF0, .nil, Nat.zero_le _, k0⟩ (fun i σ H' _ h => by obtain ⟨_, _, _, _, _, _, _, _, h⟩ := h; exact SqT.of (h _ _ hac)) ?_ ?_
    · rintro i x σ H1 hxi ⟨ys, s5, s6, rfl, hH1, hF1, hy1, hyl, k1⟩
      obtain ⟨_, hd, dx⟩ := at_of rc hxi
      rw [List.getElem?_map] at hd
      cases hgi : cs[i]? with
      | none => rw [hgi] at hd; cases hd
      | some c =>
      rw [hgi] at hd
      cases hd
      obtain ⟨_, _, _, hm8, _⟩ := hcl c (List.mem_of_getElem? hgi)
      obtain ⟨ca, cv, rfl, hca, _, r2⟩ := dx.tupE
      obtain ⟨u0, us, rfl, g0, r3⟩ := r2.consE
      obtain ⟨u1, us, rfl, g1, r3⟩ := r3.consE
      obtain ⟨u2, us, rfl, g2, r3⟩ := r3.consE
      obtain ⟨u3, us, rfl, g3, r3⟩ := r3.consE
      obtain rfl := r3.nilE
      obtain ⟨rfl, hcn⟩ := g0.strE
      obtain ⟨ma, ms, rfl, hma, _, rm⟩ := g3.tupE
      refine ⟨_, rfl, .inl ⟨rfl, _, SqL.of hH1⟩, _, rfl, ca, _, 3, .ref ma, rfl, rfl, SqT.of (k1 _ _ hca), atI_nat (j := 3) rfl, ma, rfl, ⟨ms, SqT.of (k1 _ _ hma)⟩, fun D nD => ?_⟩
      refine lc_genT (es := (c.methods.map fun m => ((some c.name : Option Str), m)).map hpy) nD (k1 _ _ hma) (by rw [rm.len]; simp) (by simp; omega) (fun j y hj => ?_) fun H2 zs s2 hD2 hz2 => ?_
      · obtain ⟨_, hd, dy⟩ := at_of rm hj
        rw [List.getElem?_map] at hd
        cases hgj : c.methods[j]? with
        | none => rw [hgj] at hd; cases hd
        | some m =>
        rw [hgj] at hd
        cases hd
        refine ⟨hpy (some c.name, m), by simp [hgj], fun H' Pq B s' k => ⟨rfl, iteT ⟨_, rfl, ca, _, 0, .str c.name, rfl, rfl, SqT.of (s' _ _ (k1 _ _ hca)), atI_nat (j := 0) rfl, _, rfl, by show 2 ≤ sizeLine; decide, fun t nt => ?_⟩⟩⟩
        exact k _ _ (same_new nt) (.tup upd_same (by show 2 ≤ 1000; decide) (.cons (.str _ hcn) (.cons (dy.same (TupSame.of ((k1.trans s').trans (same_new nt)))) .nil)))
      · have hzl := hz2.len
        rw [List.length_map, List.length_map] at hzl
        have hi : i < cs.length := (List.getElem?_eq_some_iff.mp hgi).1
        have ts : TupSame H2 (upd H2 He (.lst (ys ++ zs))) := fun b o z => by rw [upd_ne (ne_of z (s2 _ _ hH1) (by intro y; cases y))]; exact z
        refine ⟨He, D, _, _, rfl, rfl, s2 _ _ hH1, hD2, Nat.le_trans (show _ ≤ 200 by omega) (by decide), ys ++ zs, _, _, rfl, upd_same, by rw [upd_ne nFH]; exact s2 _ _ hF1, ?_, by rw [List.length_append]; omega, fun b o e => by rw [upd_ne (ne_of_none e nH0)]; exact s2 _ _ (k1 _ _ e)⟩
        rw [take_flat _ hgi, List.map_append]
        exact ((hy1.same (TupSame.of s2)).same ts).app (hz2.same ts)
    rintro σ H1 ⟨ys, s5, s6, rfl, hH1, hF1, hy1, hyl, k1⟩
    rw [hwl, List.take_length] at hy1
    refine nx_of ?_
    refine ⟨_, rfl, .inl ⟨rfl, _, SqL.of hH1⟩, _, rfl, a0, _, 1, .ref af, rfl, rfl, SqT.of (k1 _ _ ha0), atI_nat (j := 1) rfl, af, rfl, ⟨wf, SqT.of (k1 _ _ haf)⟩, fun D nD => ?_⟩
    have hf30 : fs.length ≤ 30 := by have := hpo.2.1; omega
    refine lc_genT (es := (fs.map fun f => ((none : Option Str), f)).map hpy) nD (k1 _ _ haf) (by rw [rf.len]; simp) (by simp; omega) (fun j y hj => ?_) fun H2 zs s2 hD2 hz2 => ?_
    · obtain ⟨_, hd, dy⟩ := at_of rf hj
      rw [List.getElem?_map] at hd
      cases hgj : fs[j]? with
      | none => rw [hgj] at hd; cases hd
      | some m =>
      rw [hgj] at hd
      cases hd
      refine ⟨hpy (none, m), by simp [hgj], fun H' Pq B s' k => ⟨rfl, iteT ⟨_, rfl, by show 2 ≤ sizeLine; decide, fun t nt => ?_⟩⟩⟩
      exact k _ _ (same_new nt) (.tup upd_same (by show 2 ≤ 1000; decide) (.cons .non (.cons (dy.same (TupSame.of ((k1.trans s').trans (same_new nt)))) .nil)))
    have hzl := hz2.len
    rw [List.length_map, List.length_map] at hzl
    refine ⟨He, D, _, _, rfl, rfl, s2 _ _ hH1, hD2, Nat.le_trans (show _ ≤ 200 by omega) (by decide), ?_⟩
    have ts : TupSame H2 (upd H2 He (.lst (ys ++ zs))) := fun b o z => by rw [upd_ne (ne_of z (s2 _ _ hH1) (by intro y; cases y))]; exact z
    have hy3 : DvAll (upd H2 He (.lst (ys ++ zs))) (ys ++ zs) ((hlist cs fs).map hpy) := by
      unfold hlist
      rw [List.map_append]
      exact ((hy1.same (TupSame.of s2)).same ts).app (hz2.same ts)
    have k3 : Same H (upd H2 He (.lst (ys ++ zs))) := fun b o e => by rw [upd_ne (ne_of_none e nH0)]; exact s2 _ _ (k1 _ _ e)
    have hF3 : (upd H2 He (.lst (ys ++ zs))) Fl = some (.lst []) := by rw [upd_ne nFH]; exact s2 _ _ hF1
    have hH3 : (upd H2 He (.lst (ys ++ zs))) He = some (.lst (ys ++ zs)) := upd_same
    generalize upd H2 He (.lst (ys ++ zs)) = H3 at hy3 k3 hF3 hH3
    generalize ys ++ zs = yh at hy3 hH3
    have hyh : yh.length = (hlist cs fs).length := by rw [hy3.len, List.length_map]
    generalize hhs : hlist cs fs = hs at hy3 hyh hh30 hhok q
    refine nx_of ?_
    refine ⟨_, rfl, He, yh, rfl, .inl (SqL.of hH3), _, rfl, by omega, by omega, ?_⟩
    refine for_range (lo := 0) (n := ((yh.length : Nat) : Int).toNat) (fun i σ H' => ∃ (es : List En) (xs : List V) (s5 s6 s7 s8 s9 s10 s11 s12 s13 s14 s15 s16 s17 s18 s19 : Option V), σ = [some (.ref a0), some (.ref d1), some (.ref d2), some (.ref Fl), some (.ref He), s5, s6, s7, s8, s9, s10, s11, s12, s13, s14, s15, s16, s17, s18, s19] ∧ H' Fl = some (.lst xs) ∧
        Hds cs hs i es ∧ DvAll H' xs (es.map En.py) ∧ xs.length ≤ 110 * i ∧ KeptF Fl H3 H')
      ⟨[], [], _, _, _, _, _, _, _, _, _, _, _, _, _, _, _, rfl, hF3, .zero, .nil, Nat.zero_le _, fun _ _ _ e => e⟩ ?_ ?_
    · rintro i σ H4 hi ⟨es, xs4, s5, s6, s7, s8, s9, s10, s11, s12, s13, s14, s15, s16, s17, s18, s19, rfl, hF4, hds, hx4, hl4, kf4⟩
      have hi : i < hs.length := by omega
      have liy : i < yh.length := by omega
      have e0 : (0 + (i : Int)) = i := Int.zero_add _
      rw [e0]
      have kk4 : Same H H4 := Same.by k3 nF kf4
      have hH4 : H4 He = some (.lst yh) := kf4 _ _ nFH.symm hH3
      have hhi : hs[i]? = some hs[i] := List.getElem?_eq_getElem hi
      have hmem : hs[i] ∈ hs := List.getElem_mem hi
      generalize hs[i] = hd at hhi hmem
      obtain ⟨o, f⟩ := hd
      obtain ⟨hfok, hown⟩ := hhok _ hmem
      obtain ⟨y, hyi, dy⟩ := hy3.get (i := i) (d := hpy (o, f)) (by rw [List.getElem?_map, hhi]; rfl)
      have t34 : TupSame H3 H4 := kf4.tups hF3
      have dy := dy.same t34
      obtain ⟨hp, hv2, rfl, hhp, _, q2⟩ := dy.tupE
      obtain ⟨ov, us, rfl, g0, q3⟩ := q2.consE
      obtain ⟨fv, us, rfl, g1, q3⟩ := q3.consE
      obtain rfl := q3.nilE
      obtain rfl := optS_nameV g0
      obtain ⟨fp, fvs, rfl, hfp, _, r2⟩ := g1.tupE
      obtain ⟨v0, us, rfl, w0, r3⟩ := r2.consE
      obtain ⟨v1, us, rfl, w1, r3⟩ := r3.consE
      obtain ⟨v2, us, rfl, w2, r3⟩ := r3.consE
      obtain ⟨v3, us, rfl, w3, r3⟩ := r3.consE
      obtain rfl := r3.nilE
      obtain ⟨rfl, hfnl⟩ := w0.strE
      obtain ⟨pa, ps, rfl, hpa, _, rp⟩ := w1.tupE
      have hpl : ps.length = f.params.length := by rw [rp.len, List.length_map]
      obtain ⟨⟨_, hp6, _, _⟩, ⟨hhk, _⟩, _⟩ := fn_hd hfok
      have hp6 : f.params.length ≤ 6 := hp6
      have hhk : HkOk f := hhk
      refine ⟨_, rfl, _, rfl, He, yh, i, .ref hp, rfl, rfl, SqL.of hH4, atI_nat hyi, hp, _, rfl, SqT.of hhp, rfl, _, _, rfl, _, _, rfl, rfl, ?_⟩
      refine ⟨_, rfl, fp, _, rfl, SqT.of hfp, rfl, _, _, rfl, _, _, rfl, _, _, rfl, _, _, rfl, rfl, ?_⟩
      refine ⟨_, rfl, _, rfl, by show 3 ≤ sizeLine; decide, fun wh nw => ?_⟩
      have k5 : Same H4 (upd H4 wh (.tup [nameV o, .str f.name, .non])) := same_new nw
      have kf5 : KeptF Fl H3 (upd H4 wh (.tup [nameV o, .str f.name, .non])) := kf4.trans (KeptF.of k5)
      have hwh : (upd H4 wh (.tup [nameV o, .str f.name, .non])) wh = some (.tup [nameV o, .str f.name, .non]) := upd_same
      generalize upd H4 wh (.tup [nameV o, .str f.name, .non]) = H5 at k5 kf5 hwh
      have hF5 := k5 _ _ hF4
      have kk5 := kk4.trans k5
      have hH5 := k5 _ _ hH4
      have hx5 := hx4.same (TupSame.of k5)
      have t35 : TupSame H3 H5 := kf5.tups hF3
      have dwh : ∀ (H' : Hp) (wd : Str), TupSame H5 H' → Dv H' (.ref wh) (Wrong.where_ ⟨wd, o, some f.name, none⟩) := fun H' wd h => .tup (h _ _ hwh) (by show 3 ≤ 1000; decide) (.cons (g0.same (fun b u e => h _ _ (k5 _ _ e))) (.cons (.str _ hfnl) (.cons .non .nil)))
      have nameSo : PyData.strOk f.name = true := name_so hfok.1
      have ownSo : ∀ z, o = some z → PyData.strOk z = true := fun z e => name_so (hown z e).2
      show gName 14 _ _ _ _
      refine gName_of ?_
      refine nx_of ?_
      refine seq_of ?_
      refine put_if (F := 3) (Fl := Fl) (e := ⟨1, i, 0, ⟨"double", o, some f.name, none⟩⟩) (b := decide ((o, f.name) ∈ (hs.take i).map (fun h => (h.1, h.2.name)))) (n := 110 * i) rfl hF5 hx5 hl4 (by omega) (show ("double" : Str).length ≤ 1000 by decide) (fun Q q => ?_)
        (fun H' Q _ q => q) (fun H' Q _ q => ⟨_, rfl, q⟩) (fun H' Q _ q => q) (fun H' Q _ q => q) (fun H' Q s q => ⟨_, rfl, q _ _ (fun _ _ e => e) (dwh _ _ (TupSame.of s))⟩) fun xs6 H6 kf6 hF6 hx6 hl6 => ?_
      · refine ⟨_, rfl, _, rfl, by show 2 ≤ sizeLine; decide, fun tq ntq => ⟨_, rfl, _, rfl, _, rfl, He, yh, rfl, SqL.of (same_new ntq _ _ hH5), fun p np => ⟨p, rfl, ⟨_, SqL.of upd_same⟩, fun D nD => ?_⟩⟩⟩
        rw [cut_take liy] at nD ⊢
        have stq := same_new (o := .tup [nameV o, .str f.name]) ntq
        have stp := same_new (o := .lst (yh.take i)) np
        have htq := stp _ _ (show (upd H5 tq (.tup [nameV o, .str f.name])) tq = _ from upd_same)
        have g0q := g0.same (TupSame.of ((k5.trans stq).trans stp))
        have yq := (hy3.same (fun b u e => (stq.trans stp) _ _ (t35 _ _ e))).takeL i
        generalize hHq : upd (upd H5 tq (.tup [nameV o, .str f.name])) p (.lst (yh.take i)) = Hq at nD htq g0q yq
        have hpq : Hq p = some (.lst (yh.take i)) := by rw [← hHq]; exact upd_same
        have s5q : Same H5 Hq := by rw [← hHq]; exact stq.trans stp
        refine lc_genL (es := ((hs.take i).map (fun h => (h.1, h.2.name))).map onD) nD hpq (by simp [hyh]) (by simp; omega) (fun j y hj => ?_) fun H' zs s' hD hz => ?_
        · obtain ⟨_, hd, dy⟩ := at_of yq hj
          rw [← List.map_take, List.getElem?_map] at hd
          cases hgj : (hs.take i)[j]? with
          | none => rw [hgj] at hd; cases hd
          | some h =>
          rw [hgj] at hd
          cases hd
          refine ⟨onD (h.1, h.2.name), by rw [List.map_map, List.getElem?_map, hgj]; rfl, fun H' Pq B s' k => ?_⟩
          obtain ⟨ya, yvs, rfl, hya, _, y2⟩ := (dy.same (TupSame.of s')).tupE
          obtain ⟨b0, us, rfl, z0, y3⟩ := y2.consE
          obtain ⟨b1, us, rfl, z1, y3⟩ := y3.consE
          obtain rfl := y3.nilE
          obtain ⟨na, nvs, rfl, hna, _, n2⟩ := z1.tupE
          obtain ⟨b2, us, rfl, z2, n3⟩ := n2.consE
          obtain ⟨rfl, hl2⟩ := z2.strE
          refine ⟨ya, _, rfl, SqT.of hya, rfl, _, _, rfl, _, _, rfl, rfl, rfl, iteT ⟨_, rfl, _, rfl, na, _, 0, .str h.2.name, rfl, rfl, SqT.of hna, atI_nat (j := 0) rfl, by show 2 ≤ sizeLine; decide, fun t nt => ?_⟩⟩
          exact k _ _ (same_new nt) (.tup upd_same (by show 2 ≤ 1000; decide) (.cons (z0.same (TupSame.of (same_new nt))) (.cons (.str _ hl2) .nil)))
        · refine ⟨onD (o, f.name), _, .tup (SqT.of (s' _ _ htq)) (.cons ((g0q.same (TupSame.of s')).dp K) (.cons (.str _) .nil)), .lst (SqL.of hD) (hz.dp K), ?_, ons_shaped fun a ha => ?_, _, rfl, ?_⟩
          · have := on_good (h := (o, f.name)) ownSo nameSo
            unfold SeqAt.shaped
            rw [this.1, decide_eq_true (by omega)]
            rfl
          · obtain ⟨h, hh, rfl⟩ := List.mem_map.mp ha
            have hm := List.mem_of_mem_take hh
            exact ⟨fun z e => name_so ((hhok _ hm).2 z e).2, name_so (hhok _ hm).1.1⟩
          · rw [on_any]
            exact q _ (s5q.trans s')
      have kk6 : Same H H6 := Same.by kk5 nF kf6
      have t56 : TupSame H5 H6 := kf6.tups hF5
      have hx7 : DvAll H6 xs6 ((es ++ ((if (o, f.name) ∈ (hs.take i).map (fun h => (h.1, h.2.name)) then [(⟨1, i, 0, ⟨"double", o, some f.name, none⟩⟩ : En)] else []) ++ (List.range 0).flatMap (hdJ cs i o f))).map En.py) := by
        have e : (List.range 0).flatMap (hdJ cs i o f) = [] := rfl
        rw [e, List.append_nil]
        simpa only [decide_eq_true_eq] using hx6
      have hpa6 := t56 _ _ (k5 _ _ hpa)
      have rp6 := rp.same (fun b u e => t56 _ _ (k5 _ _ e))
      obtain ⟨⟨kvs1, hd1, hh1⟩, ⟨⟨kvs2, hd2, hl2, hv2⟩, hrow, hinj⟩, hsm, hrl⟩ := id hup
      refine nx_of ?_
      refine seq_of ?_
      refine ⟨_, rfl, pa, ps, rfl, .inr (SqT.of hpa6), _, rfl, by omega, by omega, ?_⟩
      refine for_range (lo := 0) (n := ((ps.length : Nat) : Int).toNat) (fun j σ H' => ∃ (xs' : List V) (s15 s16 s17 s18 s19 : Option V), σ = [some (.ref a0), some (.ref d1), some (.ref d2), some (.ref Fl), some (.ref He), s5, s6, some (.int i), some (nameV o), some (.ref fp), some (.str f.name), some (.ref pa), some v2, some v3, some (.ref wh), s15, s16, s17, s18, s19] ∧ H' Fl = some (.lst xs') ∧
          DvAll H' xs' ((es ++ ((if (o, f.name) ∈ (hs.take i).map (fun h => (h.1, h.2.name)) then [(⟨1, i, 0, ⟨"double", o, some f.name, none⟩⟩ : En)] else []) ++ (List.range j).flatMap (hdJ cs i o f))).map En.py) ∧ xs'.length ≤ 110 * i + 1 + 2 * j ∧ KeptF Fl H6 H')
        ⟨xs6, _, _, _, _, _, rfl, hF6, hx7, by omega, fun _ _ _ e => e⟩ ?_ ?_
      · rintro j σ H7 hj ⟨xs7, s15, s16, s17, s18, s19, rfl, hF7, hx7, hl7, kf7⟩
        have hj : j < f.params.length := by omega
        have lj : j < ps.length := by omega
        have e0 : (0 + (j : Int)) = j := Int.zero_add _
        rw [e0]
        have hpj : f.params[j]? = some f.params[j] := List.getElem?_eq_getElem hj
        generalize f.params[j] = pr at hpj
        have t67 : TupSame H6 H7 := kf7.tups hF6
        have rp7 := rp6.same t67
        have hpa7 := t67 _ _ hpa6
        obtain ⟨y, hyj, dy⟩ := rp7.get (i := j) (d := pair pr) (by rw [List.getElem?_map, hpj]; rfl)
        obtain ⟨ka, kvv, rfl, hka, _, p2⟩ := dy.tupE
        obtain ⟨k0v, us, rfl, m0, p3⟩ := p2.consE
        obtain ⟨k1v, us, rfl, m1, p3⟩ := p3.consE
        obtain rfl := p3.nilE
        obtain ⟨rfl, _⟩ := m0.strE
        have kk7 : Same H H7 := Same.by kk6 nF kf7
        have dw7 : ∀ (H' : Hp) (wd : Str), TupSame H7 H' → Dv H' (.ref wh) (Wrong.where_ ⟨wd, o, some f.name, none⟩) := fun H' wd h => dwh H' wd fun b u e => h _ _ (t67 _ _ (t56 _ _ e))
        show gName 17 _ _ _ _
        refine gName_of ?_
        refine seq_of ?_
        refine put_if (F := 3) (Fl := Fl) (e := ⟨1, i, 1 + 2 * j, ⟨"double", o, some f.name, none⟩⟩) (b := decide (pr.1 ∈ (f.params.take j).map (·.1))) (n := 110 * i + 1 + 2 * j) rfl hF7 hx7 hl7 (by omega) (show ("double" : Str).length ≤ 1000 by decide) (fun Q q => ?_)
          (fun H' Q _ q => q) (fun H' Q _ q => ⟨_, rfl, q⟩) (fun H' Q _ q => ?_) (fun H' Q _ q => q) (fun H' Q s q => ⟨_, rfl, q _ _ (fun _ _ e => e) (dw7 _ _ (TupSame.of s))⟩) fun xsA HA kfA hFA hxA hlA => ?_
        · refine ⟨_, rfl, _, rfl, pa, ps, j, .ref ka, rfl, rfl, SqT.of hpa7, atI_nat hyj, ka, _, 0, .str pr.1, rfl, rfl, SqT.of hka, atI_nat (j := 0) rfl, _, rfl, _, rfl, _, rfl, pa, ps, rfl, SqT.of hpa7, cut_not lj, fun p np => ⟨p, rfl, ⟨_, SqT.of upd_same⟩, fun D nD => ?_⟩⟩
          rw [cut_take lj] at nD ⊢
          refine lc_fst (ns := (f.params.take j).map (·.1)) nD (show 18 < 20 by decide) upd_same (by simp [hpl]) (by simp; omega) (fst_at (ds := (f.params.take j).map pair) ?_ ?_) fun H' s' hD => ?_
          · have := (rp7.same (TupSame.of (same_new (o := .tup (ps.take j)) np))).takeL j
            rw [← List.map_take] at this
            exact this
          · intro m d hm
            rw [List.getElem?_map] at hm ⊢
            cases e : (f.params.take j)[m]? with
            | none => rw [e] at hm; cases hm
            | some c' =>
              rw [e] at hm
              cases hm
              exact ⟨c'.1, _, rfl, rfl⟩
          · refine ⟨D, _, rfl, .inl (SqL.of hD), rfl, flat_strs _, _, rfl, ?_⟩
            rw [if_neg (by decide), inV_str]
            exact q _ ((same_new np).trans s')
        · have q : Q (.int ((1 + 2 * j : Nat) : Int)) H' := q
          rw [show ((1 + 2 * j : Nat) : Int) = 1 + 2 * (j : Int) by omega] at q
          exact ⟨_, rfl, _, _, rfl, rfl, .inl ⟨by decide, by decide⟩, _, _, rfl, rfl, q⟩
        have kkA : Same H HA := Same.by kk7 nF kfA
        have t7A : TupSame H7 HA := kfA.tups hF7
        refine nx_of ?_
        refine put_if (F := 3) (Fl := Fl) (e := ⟨1, i, 2 + 2 * j, ⟨"class", o, some f.name, none⟩⟩) (b := !knows cs pr.2) (n := 110 * i + 1 + 2 * j + 1) rfl hFA hxA hlA (by omega) (show ("class" : Str).length ≤ 1000 by decide) (fun Q q => ?_)
          (fun H' Q _ q => q) (fun H' Q _ q => ⟨_, rfl, q⟩) (fun H' Q _ q => ?_) (fun H' Q _ q => q) (fun H' Q s q => ⟨_, rfl, q _ _ (fun _ _ e => e) (dw7 _ _ fun b u e => TupSame.of s _ _ (t7A _ _ e))⟩) fun xsB HB kfB hFB hxB hlB => ?_
        · refine ⟨_, rfl, _, rfl, _, rfl, pa, ps, j, .ref ka, rfl, rfl, SqT.of (t7A _ _ hpa7), atI_nat hyj, ka, _, 1, k1v, rfl, rfl, SqT.of (t7A _ _ hka), atI_nat (j := 1) rfl, ?_⟩
          exact ⟨d1, k1v, some pr.2, cs, kvs1, rfl, kkA _ _ hd1, hh1.same (TupSame.of kkA), m1.same t7A, _, rfl, q _ fun _ _ e => e⟩
        · have q : Q (.int ((2 + 2 * j : Nat) : Int)) H' := q
          rw [show ((2 + 2 * j : Nat) : Int) = 2 + 2 * (j : Int) by omega] at q
          exact ⟨_, rfl, _, _, rfl, rfl, .inl ⟨by decide, by decide⟩, _, _, rfl, rfl, q⟩
        refine ⟨xsB, _, _, _, _, _, rfl, hFB, ?_, by omega, kf7.trans (kfA.trans kfB)⟩
        rw [range_snoc]
        have e : hdJ cs i o f j = (if decide (pr.1 ∈ (f.params.take j).map (·.1)) = true then [(⟨1, i, 1 + 2 * j, ⟨"double", o, some f.name, none⟩⟩ : En)] else []) ++ (if (!knows cs pr.2) = true then [(⟨1, i, 2 + 2 * j, ⟨"class", o, some f.name, none⟩⟩ : En)] else []) := by
          unfold hdJ
          rw [hpj]
          simp only [decide_eq_true_eq]
        rw [e]
        simpa only [List.append_assoc] using hxB
      rintro σ H7 ⟨xs7, s15, s16, s17, s18, s19, rfl, hF7, hx7, hl7, kf7⟩
      rw [Int.toNat_natCast, hpl] at hx7 hl7
      have t67 : TupSame H6 H7 := kf7.tups hF6
      have kk7 : Same H H7 := Same.by kk6 nF kf7
      have t57 : TupSame H5 H7 := fun b u e => t67 _ _ (t56 _ _ e)
      have w27 := w2.same (fun b u e => t57 _ _ (k5 _ _ e))
      refine nx_of ?_
      refine seq_of ?_
      refine put_if (F := 3) (Fl := Fl) (e := ⟨1, i, 90, ⟨"class", o, some f.name, none⟩⟩) (b := !knowsO cs f.result) (n := 110 * i + 1 + 2 * f.params.length) rfl hF7 hx7 hl7 (by omega) (show ("class" : Str).length ≤ 1000 by decide) (fun Q q => ?_)
        (fun H' Q _ q => q) (fun H' Q _ q => ⟨_, rfl, q⟩) (fun H' Q _ q => q) (fun H' Q _ q => q) (fun H' Q s q => ⟨_, rfl, q _ _ (fun _ _ e => e) (dwh _ _ fun b u e => TupSame.of s _ _ (t57 _ _ e))⟩) fun xs8 H8 kf8 hF8 hx8 hl8 => ?_
      · refine ⟨_, rfl, _, rfl, ?_⟩
        exact ⟨d1, v2, f.result, cs, kvs1, rfl, kk7 _ _ hd1, hh1.same (TupSame.of kk7), w27, _, rfl, q _ fun _ _ e => e⟩
      have kk8 : Same H H8 := Same.by kk7 nF kf8
      have t78 : TupSame H7 H8 := kf8.tups hF7
      have t58 : TupSame H5 H8 := fun b u e => t78 _ _ (t57 _ _ e)
      have kf38 : KeptF Fl H3 H8 := (((kf5.trans kf6).trans kf7).trans kf8)
      -- what comes at the end of it
      have fin : ∀ (t : Nat) (xs' : List V) (H' : Hp) (s15 s16 s17 s18 s19 : Option V), (0 < t ↔ ovr cs o f = true) → H' Fl = some (.lst xs') → DvAll H' xs' (((es ++ ((if (o, f.name) ∈ (hs.take i).map (fun h => (h.1, h.2.name)) then [(⟨1, i, 0, ⟨"double", o, some f.name, none⟩⟩ : En)] else []) ++ (List.range f.params.length).flatMap (hdJ cs i o f))) ++
          (if (!knowsO cs f.result) = true then [(⟨1, i, 90, ⟨"class", o, some f.name, none⟩⟩ : En)] else []) ++ List.replicate t (⟨1, i, 91, ⟨"override", o, some f.name, none⟩⟩ : En)).map En.py) → xs'.length ≤ 110 * i + 110 → KeptF Fl H3 H' →
          ∃ (es : List En) (xs : List V) (t5 t6 t7 t8 t9 t10 t11 t12 t13 t14 t15 t16 t17 t18 t19 : Option V), [some (.ref a0), some (.ref d1), some (.ref d2), some (.ref Fl), some (.ref He), s5, s6, some (.int i), some (nameV o), some (.ref fp), some (.str f.name), some (.ref pa), some v2, some v3, some (.ref wh), s15, s16, s17, s18, s19] = [some (.ref a0), some (.ref d1), some (.ref d2), some (.ref Fl), some (.ref He), t5, t6, t7, t8, t9, t10, t11, t12, t13, t14, t15, t16, t17, t18, t19] ∧ H' Fl = some (.lst xs) ∧
            Hds cs hs (i + 1) es ∧ DvAll H' xs (es.map En.py) ∧ xs.length ≤ 110 * (i + 1) ∧ KeptF Fl H3 H' := fun t xs' H' s15 s16 s17 s18 s19 ht h1 h2 h3 h4 =>
        ⟨_, xs', _, _, _, _, _, _, _, _, _, _, _, _, _, _, _, rfl, h1, .succ hds hhi ht, by unfold hdI; simpa only [List.append_assoc] using h2, by omega, h4⟩
      refine nx_of ?_
      have getRow : ∀ n, there cs n → ∀ H', H' d2 = some (.dK kvs2) → DGet H' d2 (.str n) (some (.ref (A n))) := fun n hn H' h => by
        have := DGet.k (k := Sum.inr n) h
        rw [hv2 _ hn] at this
        exact this
      have hl8' : xs8.length ≤ 110 * i + 14 := by omega
      rcases Option.eq_none_or_eq_some o with ho | ⟨n, ho⟩
      · subst ho
        refine Or.inr ?_
        refine ⟨_, rfl, rfl, false, rfl, iteF fun p np => ⟨p, .dK [], rfl, upd_same, trivial, fun od => ⟨p, od, rfl, .inl ⟨[], upd_same, ?_⟩⟩⟩⟩
        have sp : Same H8 (upd (upd H8 p (.dK [])) p (.frz od (.dK []))) := fun b u e => by rw [upd_ne (ne_of_none e np), upd_ne (ne_of_none e np)]; exact e
        have hpp : (upd (upd H8 p (.dK [])) p (.frz od (.dK []))) p = some (.frz od (.dK [])) := upd_same
        generalize upd (upd H8 p (.dK [])) p (.frz od (.dK [])) = H9 at sp hpp
        refine for_keys (fun m σ' H' => σ' = [some (.ref a0), some (.ref d1), some (.ref d2), some (.ref Fl), some (.ref He), s5, s6, some (.int i), some .non, some (.ref fp), some (.str f.name), some (.ref pa), some v2, some v3, some (.ref wh), s15, s16, s17, s18, s19] ∧ H' = H9) ⟨rfl, rfl⟩ (fun m σ' H' _ h => by rw [h.2]; exact hpp) (fun m k v σ' H' h _ => by cases h) ?_
        rintro σ' H' ⟨rfl, rfl⟩
        exact fin 0 xs8 _ _ _ _ _ _ ⟨fun h => absurd h (by decide), fun h => by cases h⟩ (sp _ _ hF8) (by rw [List.replicate_zero, List.append_nil]; exact hx8.same (TupSame.of sp)) (by omega) (kf38.trans (KeptF.of sp))
      · subst ho
        have hth := (hown n rfl).1
        refine Or.inl ?_
        have hrow8 : H8 (A n) = some (.dK (rw_ (R n))) := kk8 _ _ (hrow _ hth)
        have nAd2 : A n ≠ d2 := hup.rows.ne hth rw_true
        have nFA : Fl ≠ A n := by
          rintro rfl
          rw [hrow _ hth] at nF
          cases nF
        refine ⟨A n, .dK (rw_ (R n)), hrow8, trivial, fun od => ?_⟩
        refine ⟨_, rfl, rfl, true, rfl, iteT ⟨_, rfl, _, rfl, d2, _, rfl, getRow n hth _ (by rw [upd_ne nAd2.symm]; exact kk8 _ _ hd2), A n, od, rfl, .inl ⟨rw_ (R n), upd_same, ?_⟩⟩⟩
        generalize hbase : ((es ++ ((if (some n, f.name) ∈ (hs.take i).map (fun h => (h.1, h.2.name)) then [(⟨1, i, 0, ⟨"double", some n, some f.name, none⟩⟩ : En)] else []) ++ (List.range f.params.length).flatMap (hdJ cs i (some n) f))) ++ (if (!knowsO cs f.result) = true then [(⟨1, i, 90, ⟨"class", some n, some f.name, none⟩⟩ : En)] else [])) = bs at hx8 fin
        have tfz : TupSame H8 (upd H8 (A n) (.frz od (.dK (rw_ (R n))))) := fun b u e => by rw [upd_ne (ne_of e hrow8 (fun z => by cases z))]; exact e
        refine for_keys (fun m σ' H' => ∃ (t : Nat) (xs' : List V) (t15 t16 t17 t18 t19 : Option V), σ' = [some (.ref a0), some (.ref d1), some (.ref d2), some (.ref Fl), some (.ref He), s5, s6, some (.int i), some (nameV (some n)), some (.ref fp), some (.str f.name), some (.ref pa), some v2, some v3, some (.ref wh), t15, t16, t17, t18, t19] ∧
            H' Fl = some (.lst xs') ∧ DvAll H' xs' ((bs ++ List.replicate t (⟨1, i, 91, ⟨"override", some n, some f.name, none⟩⟩ : En)).map En.py) ∧ (0 < t ↔ ∃ o' ∈ (R n).take m, ∃ d, findC cs o' = some d ∧ d.methods.any (otherBad f) = true) ∧ xs'.length ≤ 110 * i + 14 + 8 * m ∧ H' (A n) = some (.frz od (.dK (rw_ (R n)))) ∧
            ∀ b x, b ≠ Fl → b ≠ A n → H8 b = some x → H' b = some x)
          ⟨0, xs8, _, _, _, _, _, rfl, by rw [upd_ne nFA]; exact hF8, by rw [List.replicate_zero, List.append_nil]; exact hx8.same tfz, ⟨fun h => absurd h (by decide), fun ⟨o', ho', _⟩ => by cases ho'⟩, by omega, upd_same, fun b x _ nb e => by rw [upd_ne nb]; exact e⟩
          (fun m σ' H' _ h => by obtain ⟨_, _, _, _, _, _, _, _, _, _, _, _, h, _⟩ := h; exact h) ?_ ?_
        · rintro m k v σ' H9 hkm ⟨t, xs9, t15, t16, t17, t18, t19, rfl, hF9, hx9, ht, hl9, hA9, k9⟩
          obtain ⟨o', ho', rfl⟩ : ∃ o', (R n)[m]? = some o' ∧ k = Sum.inr o' := by
            unfold rw_ at hkm
            rw [List.getElem?_map] at hkm
            cases e : (R n)[m]? with
            | none => rw [e] at hkm; cases hkm
            | some o' =>
              rw [e] at hkm
              cases hkm
              exact ⟨o', rfl, rfl⟩
          obtain ⟨d, hd⟩ := L_there ((hsm _ hth o').mp (List.mem_of_getElem? ho'))
          have hdc : d ∈ cs := List.mem_of_find?_eq_some hd
          obtain ⟨_, _, _, hdm8, hdfn⟩ := hcl d hdc
          obtain ⟨vv, hv1, dv1⟩ := Holds.get hh1 hd
          have live : ∀ b x, H b = some x → b ≠ A n → H9 b = some x := fun b x e na => k9 b x (by rintro rfl; rw [nF] at e; cases e) na (kk8 _ _ e)
          have tupL : TupSame H H9 := fun b u e => live b _ e (by rintro rfl; rw [hrow _ hth] at e; cases e)
          have t89 : TupSame H8 H9 := fun b u e => k9 b _ (by rintro rfl; rw [hF8] at e; cases e) (by rintro rfl; rw [hrow8] at e; cases e) e
          have t59 : TupSame H5 H9 := fun b u e => t89 _ _ (t58 _ _ e)
          obtain ⟨ba, bvs, rfl, hba, _, b2⟩ := dv1.tupE
          have n1 : d1 ≠ A n := by
            intro e
            have := hrow _ hth
            rw [← e, hd1] at this
            cases this
            have := rw_true _ _ hv1
            cases this
          obtain ⟨c0v, us, rfl, _, b3⟩ := b2.consE
          obtain ⟨c1v, us, rfl, _, b3⟩ := b3.consE
          obtain ⟨c2v, us, rfl, _, b3⟩ := b3.consE
          obtain ⟨c3v, us, rfl, bm, b3⟩ := b3.consE
          obtain ⟨mb, mvs, rfl, hmb, _, rmv⟩ := bm.tupE
          have hml : mvs.length = d.methods.length := by rw [rmv.len, List.length_map]
          have g1 : DGet H9 d1 (kV (Sum.inr o')) (some (.ref ba)) := by
            have := DGet.k (k := Sum.inr o') (live _ _ hd1 n1)
            rw [hv1] at this
            exact this
          refine ⟨_, rfl, _, rfl, d1, _, rfl, g1, ba, _, 3, .ref mb, rfl, rfl, SqT.of (tupL _ _ hba), atI_nat (j := 3) rfl, mb, rfl, ⟨mvs, SqT.of (tupL _ _ hmb)⟩, ?_⟩
          refine for_tup (xs := mvs) (fun l σ' H' => ∃ (t' : Nat) (xs' : List V) (t16 t17 t18 t19 : Option V), σ' = [some (.ref a0), some (.ref d1), some (.ref d2), some (.ref Fl), some (.ref He), s5, s6, some (.int i), some (nameV (some n)), some (.ref fp), some (.str f.name), some (.ref pa), some v2, some v3, some (.ref wh), some (.str o'), t16, t17, t18, t19] ∧
              H' Fl = some (.lst xs') ∧ DvAll H' xs' ((bs ++ List.replicate t' (⟨1, i, 91, ⟨"override", some n, some f.name, none⟩⟩ : En)).map En.py) ∧ (0 < t' ↔ (∃ o' ∈ (R n).take m, ∃ d, findC cs o' = some d ∧ d.methods.any (otherBad f) = true) ∨ (d.methods.take l).any (otherBad f) = true) ∧ xs'.length ≤ 110 * i + 14 + 8 * m + l ∧ KeptF Fl H9 H')
            ⟨t, xs9, _, _, _, _, rfl, hF9, hx9, ⟨fun h => .inl (ht.mp h), fun h => h.elim ht.mpr (fun h => by cases h)⟩, by omega, fun _ _ _ e => e⟩
            (fun l σ' H' _ h => by obtain ⟨_, _, _, _, _, _, _, _, _, _, _, h⟩ := h; exact SqT.of (h.tups hF9 _ _ (tupL _ _ hmb))) ?_ ?_
          · rintro l x σ' HA hxl ⟨t', xsA, t16, t17, t18, t19, rfl, hFA, hxA, htA, hlA, kfA⟩
            have t9A : TupSame H9 HA := kfA.tups hF9
            obtain ⟨_, hdd, dx⟩ := at_of ((rmv.same tupL).same t9A) hxl
            rw [List.getElem?_map] at hdd
            cases hgl : d.methods[l]? with
            | none => rw [hgl] at hdd; cases hdd
            | some g =>
            rw [hgl] at hdd
            cases hdd
            have hgfn := hdfn g (List.mem_of_getElem? hgl)
            obtain ⟨⟨_, hgp6, _, _⟩, ⟨hgk, _⟩, _⟩ := fn_hd hgfn
            have hll : l < d.methods.length := (List.getElem?_eq_some_iff.mp hgl).1
            obtain ⟨gp, gvs, rfl, hgp, _, y2⟩ := dx.tupE
            obtain ⟨y0, us, rfl, z0, y3⟩ := y2.consE
            obtain ⟨y1, us, rfl, z1, y3⟩ := y3.consE
            obtain ⟨y2', us, rfl, z2, y3⟩ := y3.consE
            obtain ⟨y3', us, rfl, z3, y3⟩ := y3.consE
            obtain rfl := y3.nilE
            obtain ⟨rfl, _⟩ := z0.strE
            obtain ⟨gpa, gps, rfl, hgpa, _, rgp⟩ := z1.tupE
            have hgk : HkOk g := hgk
            have hm12 : m < 12 := by have := hrl _ hth; have := (List.getElem?_eq_some_iff.mp ho').1; omega
            have hgp6 : g.params.length ≤ 6 := hgp6
            have t5A : TupSame H5 HA := fun b u e => t9A _ _ (t59 _ _ e)
            refine ⟨_, rfl, gp, _, 1, .ref gpa, rfl, rfl, SqT.of hgp, atI_nat (j := 1) rfl, gpa, rfl, ⟨gps, SqT.of hgpa⟩, fun D nD => ?_⟩
            refine lc_snd (f := g) nD (show 18 < 20 by decide) hgpa rgp hgp6 fun HB zs sB hDB hzB => ?_
            have tAB : TupSame HA HB := TupSame.of sB
            show gName 19 _ _ _ _
            refine gName_of ?_
            refine nx_of ?_
            refine put_if (F := 3) (Fl := Fl) (ds := bs ++ List.replicate t' (⟨1, i, 91, ⟨"override", some n, some f.name, none⟩⟩ : En)) (e := ⟨1, i, 91, ⟨"override", some n, some f.name, none⟩⟩) (b := otherBad f g) (n := 110 * i + 14 + 8 * m + l) rfl (sB _ _ hFA) (hxA.same tAB) hlA (by omega) (show ("override" : Str).length ≤ 1000 by decide) (fun Q q => ?_)
              (fun H' Q _ q => q) (fun H' Q _ q => ⟨_, rfl, q⟩) (fun H' Q _ q => q) (fun H' Q _ q => q) (fun H' Q s q => ⟨_, rfl, q _ _ (fun _ _ e => e) (dwh _ _ fun b u e => TupSame.of s _ _ (tAB _ _ (t5A _ _ e)))⟩) fun xsC HC kfC hFC hxC hlC => ?_
            · refine ⟨_, rfl, gp, _, 0, .str g.name, rfl, rfl, SqT.of (tAB _ _ hgp), atI_nat (j := 0) rfl, _, rfl, rfl, _, rfl, ?_⟩
              have q : ∀ H', Same HB H' → Q (decide (g.name = f.name) && !(decide (ks g = ks f) && decide (g.result = f.result))) H' := q
              by_cases hn : g.name = f.name
              · rw [decide_eq_true (by rw [hn])]
                rw [decide_eq_true hn, Bool.true_and] at q
                refine iteT ?_
                refine ⟨_, rfl, _, rfl, pa, rfl, ⟨ps, SqT.of (tAB _ _ (t5A _ _ (k5 _ _ hpa)))⟩, fun D2 nD2 => ?_⟩
                refine lc_snd (f := f) nD2 (show 18 < 20 by decide) (tAB _ _ (t5A _ _ (k5 _ _ hpa))) (rp.same fun b u e => tAB _ _ (t5A _ _ (k5 _ _ e))) hp6 fun HD zs2 sD hDD hzD => ?_
                refine ⟨.list ((ks g).map Kd.py), .list ((ks f).map Kd.py), .lst (SqL.of (sD _ _ hDB)) ((hzB.same (TupSame.of sD)).dp K), .lst (SqL.of hDD) (hzD.dp K), (ks_shaped hgk).1, (ks_shaped hhk).1, _, rfl, ?_⟩
                have e1 : PyData.eqv (.list ((ks g).map Kd.py)) (.list ((ks f).map Kd.py)) = decide (ks g = ks f) := ks_eqv _ _
                rw [e1]
                have tBD : TupSame HB HD := TupSame.of sD
                by_cases hk : ks g = ks f
                · rw [decide_eq_true hk] at q ⊢
                  refine iteF ?_
                  refine ⟨_, rfl, gp, _, 2, y2', rfl, rfl, SqT.of (tBD _ _ (tAB _ _ hgp)), atI_nat (j := 2) rfl, _, rfl, optK g.result, optK f.result, (z2.same fun b u e => tBD _ _ (tAB _ _ e)).dp K, (w2.same fun b u e => tBD _ _ (tAB _ _ (t5A _ _ (k5 _ _ e)))).dp K, (ks_shaped hgk).2, (ks_shaped hhk).2, _, rfl, ?_⟩
                  rw [ko_eqv]
                  have q := q HD sD
                  rw [Bool.true_and] at q
                  exact q
                · rw [decide_eq_false hk] at q ⊢
                  exact iteT (q HD sD)
              · rw [decide_eq_false (fun z => hn (by injection z))]
                rw [decide_eq_false hn] at q
                exact iteF (q HB fun _ _ e => e)
            refine ⟨t' + (if otherBad f g = true then 1 else 0), xsC, _, _, _, _, rfl, hFC, ?_, ?_, by omega, kfA.trans ((KeptF.of sB).trans kfC)⟩
            · by_cases hb : otherBad f g = true
              · rw [if_pos hb] at hxC ⊢
                rw [List.replicate_succ', ← List.append_assoc]
                exact hxC
              · rw [if_neg hb] at hxC ⊢
                rw [List.append_nil] at hxC
                exact hxC
            · rw [List.take_add_one, hgl, List.any_append]
              have e1 : ((some g : Option Fn).toList.any (otherBad f)) = otherBad f g := by simp
              rw [e1, Bool.or_eq_true, ← or_assoc, ← htA]
              by_cases hb : otherBad f g = true
              · rw [if_pos hb]
                exact ⟨fun _ => .inr hb, fun _ => by omega⟩
              · rw [if_neg hb]
                exact ⟨fun h => .inl (by omega), fun h => h.elim (fun h => by omega) (fun h => absurd h hb)⟩
          · rintro σ' HA ⟨t', xsA, t16, t17, t18, t19, rfl, hFA, hxA, htA, hlA, kfA⟩
            rw [hml, List.take_length] at htA
            rw [hml] at hlA
            refine ⟨t', xsA, _, _, _, _, _, rfl, hFA, hxA, ?_, by omega, kfA _ _ nFA.symm hA9, fun b x nf na e => kfA _ _ nf (k9 b x nf na e)⟩
            rw [htA, List.take_add_one, ho']
            constructor
            · rintro (⟨o2, h2, r⟩ | h)
              · exact ⟨o2, List.mem_append.mpr (.inl h2), r⟩
              · exact ⟨o', List.mem_append.mpr (.inr (by simp)), d, hd, h⟩
            · rintro ⟨o2, h2, d2', hd2', r⟩
              rcases List.mem_append.mp h2 with h2 | h2
              · exact .inl ⟨o2, h2, d2', hd2', r⟩
              · have : o2 = o' := by simpa using h2
                subst this
                rw [hd] at hd2'
                cases hd2'
                exact .inr r
        rintro σ' H9 ⟨t, xs9, t15, t16, t17, t18, t19, rfl, hF9, hx9, ht, hl9, hA9, k9⟩
        rw [rw_len, List.take_length] at ht
        rw [rw_len] at hl9
        have hR12 := hrl _ hth
        have hFz : (upd H9 (A n) (.dK (rw_ (R n)))) Fl = some (.lst xs9) := by rw [upd_ne nFA]; exact hF9
        refine ⟨hA9, fin t xs9 _ _ _ _ _ _ ?_ hFz (hx9.same fun b u e => by rw [upd_ne (ne_of e hA9 (fun z => by cases z))]; exact e) (by omega) (kf38.trans fun b x nf e => ?_)⟩
        · rw [ht]
          unfold ovr
          rw [List.any_eq_true]
          constructor
          · rintro ⟨o', h1, d, h2, h3⟩
            exact ⟨o', (hsm _ hth o').mp h1, by rw [h2]; exact h3⟩
          · rintro ⟨o', h1, h2⟩
            obtain ⟨d, hd⟩ := L_there h1
            rw [hd] at h2
            exact ⟨o', (hsm _ hth o').mpr h1, d, hd, h2⟩
        · by_cases h : b = A n
          · rw [h, upd_same]
            rw [h, hrow8] at e
            exact e
          · rw [upd_ne h]
            exact k9 b x nf h e
    rintro σ H4 ⟨es, xs4, s5, s6, s7, s8, s9, s10, s11, s12, s13, s14, s15, s16, s17, s18, s19, rfl, hF4, hds, hx4, hl4, kf4⟩
    rw [Int.toNat_natCast, hyh] at hds hl4
    have kk4 : Same H H4 := Same.by k3 nF kf4
    refine nx_of ?_
    refine seq_of ?_
    refine put_if (F := 3) (Fl := Fl) (e := ⟨2, 0, 0, ⟨"main", none, none, none⟩⟩) (b := !fs.any isMain) (n := 110 * hs.length) rfl hF4 hx4 hl4 (by omega) (show ("main" : Str).length ≤ 1000 by decide) (fun Q q => ?_)
      (fun H' Q _ q => q) (fun H' Q _ q => q) (fun H' Q _ q => q) (fun H' Q _ q => q) (fun H' Q s q => ⟨by show 3 ≤ sizeLine; decide, fun p np => q _ _ (same_new np) (.tup upd_same (by show 3 ≤ 1000; decide) (.cons .non (.cons .non (.cons .non .nil))))⟩) fun xs5 H5 kf5 hF5 hx5 hl5 => ?_
    · refine ⟨Nat.zero_le _, fun t1 n1 => ⟨by show 2 ≤ sizeLine; decide, fun t2 n2 => ?_⟩⟩
      have st1 := same_new (o := .tup []) n1
      have st2 := same_new (o := .tup [.ref t1, .non]) n2
      have h1 := st2 _ _ (show (upd H4 t1 (.tup [])) t1 = _ from upd_same)
      have h2 : (upd (upd H4 t1 (.tup [])) t2 (.tup [.ref t1, .non])) t2 = _ := upd_same
      have sx := st1.trans st2
      generalize upd (upd H4 t1 (.tup [])) t2 (.tup [.ref t1, .non]) = Hx at h1 h2 sx
      have kx := kk4.trans sx
      refine ⟨_, rfl, a0, _, 1, .ref af, rfl, rfl, SqT.of (kx _ _ ha0), atI_nat (j := 1) rfl, af, rfl, ⟨wf, SqT.of (kx _ _ haf)⟩, fun D nD => ?_⟩
      refine lc_tup (xs := wf) (fun i H2 => ∃ zs, H2 D = some (.lst zs) ∧ DvAll H2 zs (((fs.take i).filter isM).map mD) ∧ zs.length ≤ i ∧ Same Hx H2) ⟨[], upd_same, .nil, Nat.zero_le _, same_new nD⟩ (fun i H2 _ h => by obtain ⟨_, _, _, _, h⟩ := h; exact SqT.of (h _ _ (kx _ _ haf))) ?_ ?_
      · rintro i x H2 hxi ⟨zs, hD2, hz2, hzl, s2⟩
        obtain ⟨_, hd, dx⟩ := at_of ((rf.same (TupSame.of kx)).same (TupSame.of s2)) hxi
        rw [List.getElem?_map] at hd
        cases hgi : fs[i]? with
        | none => rw [hgi] at hd; cases hd
        | some f =>
        rw [hgi] at hd
        cases hd
        have hi : i < fs.length := (List.getElem?_eq_some_iff.mp hgi).1
        obtain ⟨fp, fvs, rfl, hfp, _, r2⟩ := dx.tupE
        obtain ⟨v0, us, rfl, w0, r3⟩ := r2.consE
        obtain ⟨v1, us, rfl, w1, r3⟩ := r3.consE
        obtain ⟨v2, us, rfl, w2, r3⟩ := r3.consE
        obtain ⟨v3, us, rfl, w3, r3⟩ := r3.consE
        obtain rfl := r3.nilE
        obtain ⟨rfl, _⟩ := w0.strE
        have etk : (fs.take (i + 1)).filter isM = (fs.take i).filter isM ++ (if isM f = true then [f] else []) := by
          rw [List.take_add_one, hgi, List.filter_append]
          congr 1
          by_cases h : isM f = true
          · simp [h]
          · simp [h]
        refine ⟨rfl, _, rfl, fp, _, 0, .str f.name, rfl, rfl, SqT.of hfp, atI_nat (j := 0) rfl, rfl, _, rfl, ?_⟩
        by_cases hn : f.name = "main"
        · rw [decide_eq_true (by rw [hn])]
          have em : isM f = true := decide_eq_true hn
          rw [if_pos em] at etk
          refine iteT ⟨_, rfl, fp, _, 1, v1, rfl, rfl, SqT.of hfp, atI_nat (j := 1) rfl, _, rfl, fp, _, 2, v2, rfl, rfl, SqT.of hfp, atI_nat (j := 2) rfl, by show 2 ≤ sizeLine; decide, fun t nt => ?_⟩
          have s3 := same_new (o := .tup [v1, v2]) nt
          have ht : (upd H2 t (.tup [v1, v2])) t = _ := upd_same
          generalize upd H2 t (.tup [v1, v2]) = H3' at s3 ht
          have ts : TupSame H3' (upd H3' D (.lst (zs ++ [.ref t]))) := fun b u e => by rw [upd_ne (ne_of e (s3 _ _ hD2) (by intro y; cases y))]; exact e
          refine ⟨zs, s3 _ _ hD2, Nat.lt_of_le_of_lt (by omega : zs.length ≤ 30) (by decide), zs ++ [.ref t], upd_same, ?_, by simp; omega, fun b u e => by rw [upd_ne (ne_of_none e nD)]; exact s3 _ _ (s2 _ _ e)⟩
          rw [etk, List.map_append]
          exact ((hz2.same (TupSame.of s3)).same ts).app (.cons (.tup (ts _ _ ht) (by show 2 ≤ 1000; decide) (.cons ((w1.same (TupSame.of s3)).same ts) (.cons ((w2.same (TupSame.of s3)).same ts) .nil))) .nil)
        · rw [decide_eq_false (fun z => hn (by injection z))]
          have em : ¬ isM f = true := fun z => hn (of_decide_eq_true z)
          rw [if_neg em, List.append_nil] at etk
          refine iteF ⟨zs, hD2, ?_, by omega, s2⟩
          rw [etk]
          exact hz2
      · rintro H2 ⟨zs, hD2, hz2, _, s2⟩
        rw [hwf, List.take_length] at hz2
        refine ⟨.tuple [.tuple [], .none], _, .tup (SqT.of (s2 _ _ h2)) (.cons (.tup (SqT.of (s2 _ _ h1)) .nil) (.cons .non .nil)), .lst (SqL.of hD2) (hz2.dp K), by decide +kernel, mDs_shaped fun f hf => hfn f (List.mem_filter.mp hf).1, _, rfl, ?_⟩
        rw [main_any]
        exact q _ (sx.trans s2)
    refine nx_of ?_
    refine ⟨_, rfl, ?_⟩
    refine q Fl xs5 es H5 (Same.by kk4 nF kf5) nF hF5 hds ?_ (by omega)
    have e : mainE fs = if (!fs.any isMain) = true then [(⟨2, 0, 0, ⟨"main", none, none, none⟩⟩ : En)] else [] := by
      unfold mainE
      cases fs.any isMain <;> rfl
    rw [e]
    exact hx5
end
end WH

/-! What the law finds first is what check tells. -/
namespace LM
open PySem PySem.Spec PyProof.Rows L2 PV PF T ET PB PP FM AM AB WR CK WF WL WH
def hw (l : List En) : Option Wrong := l.head?.map En.w
theorem hw_app (a b : List En) : hw (a ++ b) = (hw a).or (hw b) := by
  unfold hw
  rw [List.head?_append, Option.map_or]
theorem hw_nil : hw [] = none := rfl
theorem hw_one (e : En) : hw [e] = some e.w := rfl
theorem seq_or (a b : Option Wrong) : seqW a b = a.or b := by cases a <;> rfl
/-! ### fields -/
def fw1 (cs : List Cl) (above : Option Str) (t : List Str) (p : Str × Kd) : Option Str := if p.1 ∈ t ∨ (fieldK cs above p.1).isSome = true then some "double" else if knows cs p.2 = true then none else some "class"
theorem fldWord_app {cs : List Cl} {above : Option Str} (p : Str × Kd) : ∀ (l : List (Str × Kd)) (t : List Str), fldWord cs above t (l ++ [p]) = (fldWord cs above t l).or (fw1 cs above (t ++ l.map (·.1)) p)
  | [], t => by
    rw [List.map_nil, List.append_nil]
    show (if _ then _ else if _ then fldWord cs above _ [] else _) = Option.or none _
    rfl
  | q :: l, t => by
    have ih := fldWord_app (cs := cs) (above := above) p l (t ++ [q.1])
    show (if _ then _ else if _ then fldWord cs above _ (l ++ [p]) else _) = Option.or (if _ then _ else if _ then fldWord cs above _ l else _) _
    rw [ih]
    have e : t ++ [q.1] ++ l.map (·.1) = t ++ (q :: l).map (·.1) := by simp
    rw [e]
    split
    · rfl
    · split
      · rfl
      · rfl
theorem fieldK_some {cs : List Cl} {nm : Option Str} {f : Str} : (fieldK cs nm f).isSome = (lineOf cs [] nm).any fun d => decide (f ∈ d.fields.map (·.1)) := by
  unfold fieldK
  rw [List.isSome_findSome?]
  congr 1
  funext d
  rw [Option.isSome_map, Bool.eq_iff_iff, List.find?_isSome]
  simp only [decide_eq_true_eq, List.mem_map]
theorem L_any {cs : List Cl} {n : Str} (g : Cl → Bool) : ((L cs n).any fun m => match findC cs m with | some d => g d | none => false) = (lineOf cs [] (abv cs n)).any g := by
  unfold L upN
  rw [List.any_map, Bool.eq_iff_iff, List.any_eq_true, List.any_eq_true]
  constructor
  · rintro ⟨d, hd, h⟩
    have e := line_there _ _ d hd
    simp only [Function.comp_apply] at h
    rw [e] at h
    exact ⟨d, hd, h⟩
  · rintro ⟨d, hd, h⟩
    refine ⟨d, hd, ?_⟩
    simp only [Function.comp_apply]
    rw [line_there _ _ d hd]
    exact h
theorem abv_of {cs : List Cl} {c : Cl} (h : findC cs c.name = some c) : abv cs c.name = c.above := by
  unfold abv
  rw [h]
  rfl
theorem taken_of {cs : List Cl} {c : Cl} (h : findC cs c.name = some c) (j : Nat) (nm : Str) : takenB cs c j nm = decide (nm ∈ (c.fields.take j).map (·.1) ∨ (fieldK cs c.above nm).isSome = true) := by
  have e := L_any (cs := cs) (n := c.name) fun d => decide (nm ∈ d.fields.map (·.1))
  have e2 : takenB cs c j nm = (decide (nm ∈ (c.fields.take j).map (·.1)) || (lineOf cs [] (abv cs c.name)).any fun d => decide (nm ∈ d.fields.map (·.1))) := by
    rw [← e]
    unfold takenB
    congr 1
  rw [e2, abv_of h, ← fieldK_some]
  by_cases h1 : nm ∈ (c.fields.take j).map (·.1) <;> cases h2 : (fieldK cs c.above nm).isSome <;> simp [h1]
theorem fields_hw {cs : List Cl} {c : Cl} {i : Nat} (h : findC cs c.name = some c) : ∀ n, n ≤ c.fields.length → hw ((List.range n).flatMap (wcF cs i c)) = (fldWord cs c.above [] (c.fields.take n)).map fun w => ⟨w, some c.name, none, none⟩
  | 0, _ => by
    rw [List.take_zero]
    rfl
  | n + 1, hn => by
    have hp : c.fields[n]? = some c.fields[n] := List.getElem?_eq_getElem (by omega)
    rw [range_snoc, hw_app, fields_hw h n (by omega), List.take_add_one, hp]
    show _ = Option.map _ (fldWord cs c.above [] (c.fields.take n ++ [c.fields[n]]))
    rw [fldWord_app, Option.map_or, List.nil_append]
    congr 1
    unfold wcF
    rw [hp]
    show hw ((if takenB cs c n c.fields[n].1 = true then _ else _) ++ if knows cs c.fields[n].2 = true then _ else _) = _
    rw [taken_of h, hw_app]
    unfold fw1
    by_cases h1 : c.fields[n].1 ∈ (c.fields.take n).map (·.1) ∨ (fieldK cs c.above c.fields[n].1).isSome = true
    · rw [if_pos (decide_eq_true h1), if_pos h1]
      rfl
    · rw [if_neg (by simpa using h1), if_neg h1]
      by_cases h2 : knows cs c.fields[n].2 = true
      · rw [if_pos h2, if_pos h2]
        rfl
      · rw [if_neg h2, if_neg h2]
        rfl
theorem cls_hw {cs : List Cl} {c : Cl} {i : Nat} (hi : cs[i]? = some c) : hw (wcC cs i) = clsW1 cs ((cs.take i).map Cl.name) c := by
  unfold wcC
  rw [hi]
  show hw ((if c.name ∈ (cs.take i).map Cl.name then _ else _) ++ ((if lawBad cs c = true then _ else _) ++ _)) = _
  rw [hw_app, hw_app]
  unfold clsW1
  by_cases h1 : c.name ∈ (cs.take i).map Cl.name
  · rw [if_pos h1, if_pos h1]
    rfl
  · rw [if_neg h1, if_neg h1]
    have hf : findC cs c.name = some c := by
      have hi' : i < cs.length := (List.getElem?_eq_some_iff.mp hi).1
      have e : cs = cs.take i ++ (c :: cs.drop (i + 1)) := by
        have e1 : cs.drop i = cs[i] :: cs.drop (i + 1) := List.drop_eq_getElem_cons hi'
        have e2 : cs[i] = c := (List.getElem?_eq_some_iff.mp hi).2
        rw [e2] at e1
        rw [← e1, List.take_append_drop]
      unfold findC
      rw [e, List.find?_append]
      have n0 : (cs.take i).find? (fun d => decide (d.name = c.name)) = none := by
        rw [List.find?_eq_none]
        intro d hd hx
        exact h1 (List.mem_map.mpr ⟨d, hd, of_decide_eq_true hx⟩)
      rw [n0]
      simp
    have eb : lawBad cs c = aboveBad cs c.name c.above := by
      unfold lawBad aboveBad
      cases ha : c.above with
      | none => rfl
      | some a =>
        show (!hasC cs a || decide (c.name ∈ L cs c.name)) = (!hasC cs a || belowB cs a c.name)
        unfold L upN belowB
        rw [abv_of hf, ha]
    rw [eb, fields_hw hf _ (Nat.le_refl _), List.take_length]
    by_cases h2 : aboveBad cs c.name c.above = true
    · rw [if_pos h2, if_pos h2]
      rfl
    · rw [if_neg h2, if_neg h2]
      rfl
theorem clsW_app {cs : List Cl} (c : Cl) : ∀ (l : List Cl) (t : List Str), clsW cs t (l ++ [c]) = (clsW cs t l).or (clsW1 cs (t ++ l.map Cl.name) c)
  | [], t => by
    rw [List.map_nil, List.append_nil]
    show (match clsW1 cs t c with | some w => some w | none => none) = Option.or none _
    cases clsW1 cs t c <;> rfl
  | d :: l, t => by
    have ih := clsW_app (cs := cs) c l (t ++ [d.name])
    show (match clsW1 cs t d with | some w => some w | none => clsW cs (t ++ [d.name]) (l ++ [c])) = Option.or (match clsW1 cs t d with | some w => some w | none => clsW cs (t ++ [d.name]) l) _
    rw [ih]
    have e : t ++ [d.name] ++ l.map Cl.name = t ++ (d :: l).map Cl.name := by simp
    rw [e]
    cases clsW1 cs t d <;> rfl
theorem classes_hw {cs : List Cl} : ∀ n, n ≤ cs.length → hw ((List.range n).flatMap (wcC cs)) = clsW cs [] (cs.take n)
  | 0, _ => by
    rw [List.take_zero]
    rfl
  | n + 1, hn => by
    have hp : cs[n]? = some cs[n] := List.getElem?_eq_getElem (by omega)
    rw [range_snoc, hw_app, classes_hw n (by omega), cls_hw hp, List.take_add_one, hp]
    show _ = clsW cs [] (cs.take n ++ [cs[n]])
    rw [clsW_app, List.nil_append]
theorem wrongC_hw (cs : List Cl) : hw (wrongC cs) = clsW cs [] cs := by
  unfold wrongC
  rw [classes_hw _ (Nat.le_refl _), List.take_length]
/-! ### heads -/
def pw1 (cs : List Cl) (t : List Str) (p : Str × Kd) : Option Str := if p.1 ∈ t then some "double" else if knows cs p.2 = true then none else some "class"
theorem parW_app {cs : List Cl} (p : Str × Kd) : ∀ (l : List (Str × Kd)) (t : List Str), parW cs t (l ++ [p]) = (parW cs t l).or (pw1 cs (t ++ l.map (·.1)) p)
  | [], t => by
    rw [List.map_nil, List.append_nil]
    show (if _ then _ else if _ then parW cs _ [] else _) = Option.or none _
    rfl
  | q :: l, t => by
    have ih := parW_app (cs := cs) p l (t ++ [q.1])
    show (if _ then _ else if _ then parW cs _ (l ++ [p]) else _) = Option.or (if _ then _ else if _ then parW cs _ l else _) _
    rw [ih]
    have e : t ++ [q.1] ++ l.map (·.1) = t ++ (q :: l).map (·.1) := by simp
    rw [e]
    split
    · rfl
    · split
      · rfl
      · rfl
theorem params_hw {cs : List Cl} {f : Fn} {i : Nat} {o : Option Str} : ∀ n, n ≤ f.params.length → hw ((List.range n).flatMap (hdJ cs i o f)) = (parW cs [] (f.params.take n)).map fun w => ⟨w, o, some f.name, none⟩
  | 0, _ => by
    rw [List.take_zero]
    rfl
  | n + 1, hn => by
    have hp : f.params[n]? = some f.params[n] := List.getElem?_eq_getElem (by omega)
    rw [range_snoc, hw_app, params_hw n (by omega), List.take_add_one, hp]
    show _ = Option.map _ (parW cs [] (f.params.take n ++ [f.params[n]]))
    rw [parW_app, Option.map_or, List.nil_append]
    congr 1
    unfold hdJ
    rw [hp]
    show hw ((if f.params[n].1 ∈ (f.params.take n).map (·.1) then _ else _) ++ if (!knows cs f.params[n].2) = true then _ else _) = _
    rw [hw_app]
    unfold pw1
    by_cases h1 : f.params[n].1 ∈ (f.params.take n).map (·.1)
    · rw [if_pos h1, if_pos h1]
      rfl
    · rw [if_neg h1, if_neg h1]
      cases h2 : knows cs f.params[n].2 <;> rfl
/-- what is wrong first with a head behind others -/
def hW1 (cs : List Cl) (seen : List (Option Str × Str)) (h : Option Str × Fn) : Option Wrong :=
  (if (h.1, h.2.name) ∈ seen then some ⟨"double", h.1, some h.2.name, none⟩ else none).or (((parW cs [] h.2.params).map fun w => ⟨w, h.1, some h.2.name, none⟩).or
    ((if knowsO cs h.2.result = true then none else some ⟨"class", h.1, some h.2.name, none⟩).or (if ovr cs h.1 h.2 = true then some ⟨"override", h.1, some h.2.name, none⟩ else none)))
def HW (cs : List Cl) : List (Option Str × Str) → List (Option Str × Fn) → Option Wrong
  | _, [] => none
  | seen, h :: r => (hW1 cs seen h).or (HW cs (seen ++ [(h.1, h.2.name)]) r)
theorem HW_app {cs : List Cl} (b : List (Option Str × Fn)) : ∀ (a : List (Option Str × Fn)) (seen : List (Option Str × Str)), HW cs seen (a ++ b) = (HW cs seen a).or (HW cs (seen ++ a.map fun h => (h.1, h.2.name)) b)
  | [], seen => by
    rw [List.map_nil, List.append_nil]
    rfl
  | h :: a, seen => by
    have ih := HW_app (cs := cs) b a (seen ++ [(h.1, h.2.name)])
    show (hW1 cs seen h).or (HW cs (seen ++ [(h.1, h.2.name)]) (a ++ b)) = ((hW1 cs seen h).or (HW cs (seen ++ [(h.1, h.2.name)]) a)).or _
    rw [ih, Option.or_assoc]
    simp
theorem hdI_hw {cs : List Cl} {hs : List (Option Str × Fn)} {i t : Nat} {o : Option Str} {f : Fn} (ht : 0 < t ↔ ovr cs o f = true) : hw (hdI cs hs i o f t) = hW1 cs ((hs.take i).map fun h => (h.1, h.2.name)) (o, f) := by
  unfold hdI hW1
  rw [hw_app, hw_app, hw_app, params_hw _ (Nat.le_refl _), List.take_length]
  congr 1
  · by_cases h : (o, f.name) ∈ (hs.take i).map fun h => (h.1, h.2.name)
    · rw [if_pos h, if_pos h]
      rfl
    · rw [if_neg h, if_neg h]
      rfl
  · congr 1
    congr 1
    · cases knowsO cs f.result <;> rfl
    · cases t with
      | zero =>
        rw [if_neg (fun z => absurd (ht.mpr z) (by decide))]
        rfl
      | succ t =>
        rw [if_pos (ht.mp (Nat.succ_pos t))]
        rfl
theorem hds_hw {cs : List Cl} {hs : List (Option Str × Fn)} {i : Nat} {es : List En} (h : Hds cs hs i es) : hw es = HW cs [] (hs.take i) := by
  induction h with
  | zero =>
    rw [List.take_zero]
    rfl
  | succ h e ht ih =>
    rw [hw_app, ih, hdI_hw ht, List.take_add_one, e]
    show _ = HW cs [] (hs.take _ ++ [_])
    rw [HW_app, List.nil_append]
    show _ = Option.or _ (Option.or _ none)
    rw [Option.or_none]
theorem ovr_of {cs : List Cl} {c : Cl} (h : findC cs c.name = some c) (m : Fn) : ovr cs (some c.name) m = overB cs c.above m := by
  unfold overB
  have e := L_any (cs := cs) (n := c.name) fun d => d.methods.any (otherBad m)
  rw [abv_of h] at e
  rw [← e]
  rfl
theorem hW1_of {cs : List Cl} {o : Option Str} {t : List Str} {seen : List (Option Str × Str)} {f : Fn} (h : (o, f.name) ∈ seen ↔ f.name ∈ t) : hW1 cs seen (o, f) = (headW cs o t f).or (if ovr cs o f = true then some ⟨"override", o, some f.name, none⟩ else none) := by
  unfold hW1 headW headWord
  show Option.or (if (o, f.name) ∈ seen then _ else _) _ = _
  by_cases h1 : f.name ∈ t
  · rw [if_pos (h.mpr h1), if_pos h1]
    rfl
  · rw [if_neg (fun z => h1 (h.mp z)), if_neg h1]
    show Option.or (Option.map _ (parW cs [] f.params)) (Option.or (if knowsO cs f.result = true then _ else _) _) = _
    cases parW cs [] f.params with
    | some w => rfl
    | none => cases knowsO cs f.result <;> rfl
theorem meths_HW {cs : List Cl} {c : Cl} (hf : findC cs c.name = some c) : ∀ (l : List Fn) (t : List Str) (seen : List (Option Str × Str)), (∀ x, (some c.name, x) ∈ seen ↔ x ∈ t) → HW cs seen (l.map fun m => (some c.name, m)) = methsW cs c t l
  | [], t, seen, _ => rfl
  | m :: l, t, seen, h => by
    have ih := meths_HW hf l (t ++ [m.name]) (seen ++ [(some c.name, m.name)]) fun x => by
      rw [List.mem_append, List.mem_append, h x]
      simp
    show Option.or (hW1 cs seen (some c.name, m)) (HW cs (seen ++ [(some c.name, m.name)]) (l.map fun m => (some c.name, m))) = (match methW1 cs c t m with | some w => some w | none => methsW cs c (t ++ [m.name]) l)
    rw [ih, hW1_of (h m.name), ovr_of hf]
    unfold methW1 overW
    cases headW cs (some c.name) t m with
    | some w => rfl
    | none =>
      show Option.or (Option.or none (if overB cs c.above m = true then _ else _)) _ = _
      cases overB cs c.above m <;> rfl
theorem funs_HW {cs : List Cl} : ∀ (l : List Fn) (t : List Str) (seen : List (Option Str × Str)), (∀ x, (none, x) ∈ seen ↔ x ∈ t) → HW cs seen (l.map fun m => (none, m)) = headsW cs none t l
  | [], t, seen, _ => rfl
  | m :: l, t, seen, h => by
    have ih := funs_HW (cs := cs) l (t ++ [m.name]) (seen ++ [(none, m.name)]) fun x => by
      rw [List.mem_append, List.mem_append, h x]
      simp
    show Option.or (hW1 cs seen (none, m)) (HW cs (seen ++ [(none, m.name)]) (l.map fun m => (none, m))) = (match headW cs none t m with | some w => some w | none => headsW cs none (t ++ [m.name]) l)
    rw [ih, hW1_of (h m.name)]
    cases headW cs none t m <;> rfl
theorem classes_HW {cs : List Cl} : ∀ (l : List Cl) (seen : List (Option Str × Str)), (∀ c ∈ l, findC cs c.name = some c) → (l.map Cl.name).Nodup → (∀ c ∈ l, ∀ x, (some c.name, x) ∉ seen) → HW cs seen (l.flatMap fun c => c.methods.map fun m => (some c.name, m)) = l.findSome? fun c => methsW cs c [] c.methods
  | [], seen, _, _, _ => rfl
  | c :: l, seen, h1, h2, h3 => by
    rw [List.map_cons, List.nodup_cons] at h2
    have ih := classes_HW (cs := cs) l (seen ++ (c.methods.map fun m => ((some c.name : Option Str), m)).map fun h => (h.1, h.2.name)) (fun d hd => h1 d (List.mem_cons_of_mem _ hd)) h2.2 fun d hd x hx => by
      rcases List.mem_append.mp hx with hx | hx
      · exact h3 d (List.mem_cons_of_mem _ hd) x hx
      · rw [List.map_map] at hx
        obtain ⟨m, _, e⟩ := List.mem_map.mp hx
        have : c.name = d.name := by
          have e := congrArg Prod.fst e
          exact Option.some.inj e
        exact h2.1 (List.mem_map.mpr ⟨d, hd, this.symm⟩)
    rw [List.flatMap_cons, HW_app, ih, meths_HW (h1 c List.mem_cons_self) c.methods [] seen fun x => ⟨fun z => (h3 c List.mem_cons_self x z).elim, fun z => by cases z⟩, List.findSome?_cons]
    cases methsW cs c [] c.methods <;> rfl
theorem cls_none {cs : List Cl} : ∀ (l : List Cl) (t : List Str), clsW cs t l = none → (l.map Cl.name).Nodup ∧ ∀ c ∈ l, c.name ∉ t
  | [], t, _ => ⟨List.nodup_nil, fun c h => by cases h⟩
  | c :: l, t, h => by
    have h : (match clsW1 cs t c with | some w => some w | none => clsW cs (t ++ [c.name]) l) = none := h
    cases e : clsW1 cs t c with
    | some w => rw [e] at h; cases h
    | none =>
      rw [e] at h
      obtain ⟨i1, i2⟩ := cls_none (cs := cs) l (t ++ [c.name]) h
      have hc : c.name ∉ t := fun z => by
        unfold clsW1 at e
        rw [if_pos z] at e
        cases e
      refine ⟨?_, fun d hd => ?_⟩
      · rw [List.map_cons, List.nodup_cons]
        refine ⟨fun z => ?_, i1⟩
        obtain ⟨d, hd, hx⟩ := List.mem_map.mp z
        exact i2 d hd (List.mem_append.mpr (.inr (by simp [hx])))
      · rcases List.mem_cons.mp hd with rfl | hd
        · exact hc
        · exact fun z => i2 d hd (List.mem_append.mpr (.inl z))
theorem find_nodup {c : Cl} : ∀ (l : List Cl), (l.map Cl.name).Nodup → c ∈ l → findC l c.name = some c
  | [], _, h => by cases h
  | d :: l, hn, h => by
    rw [List.map_cons, List.nodup_cons] at hn
    unfold findC
    rw [List.find?_cons]
    rcases List.mem_cons.mp h with rfl | h
    · simp
    · have : ¬ d.name = c.name := fun e => hn.1 (List.mem_map.mpr ⟨c, h, e.symm⟩)
      rw [decide_eq_false this]
      exact find_nodup l hn.2 h
theorem main_hw (fs : List Fn) : hw (mainE fs) = mainW fs := by
  unfold mainE mainW
  cases fs.any isMain <;> rfl
/-- the first of all -/
theorem found_hw {cs : List Cl} {fs : List Fn} {es : List En} (h : Hds cs (hlist cs fs) (hlist cs fs).length es) : hw (wrongC cs ++ (es ++ mainE fs)) = checkW cs fs := by
  unfold checkW
  rw [hw_app, hw_app, wrongC_hw, hds_hw h, main_hw, seq_or, seq_or, seq_or, List.take_length]
  cases e : clsW cs [] cs with
  | some w => rfl
  | none =>
    obtain ⟨n1, _⟩ := cls_none cs [] e
    have e1 := classes_HW (cs := cs) cs [] (fun c hc => find_nodup cs n1 hc) n1 fun c _ x z => by cases z
    unfold hlist
    rw [HW_app, e1, funs_HW (cs := cs) fs [] _ fun x => ⟨fun z => ?_, fun z => by cases z⟩, Option.or_assoc]
    rw [List.nil_append] at z
    obtain ⟨h, hh, e⟩ := List.mem_map.mp z
    obtain ⟨c, _, hh⟩ := List.mem_flatMap.mp hh
    obtain ⟨m, _, rfl⟩ := List.mem_map.mp hh
    cases e
end LM

/-! The places come in their sequence; the words may be compared. -/
namespace LS
open PySem PySem.Spec PyProof.Rows L2 PV PF T ET PB PP FM AM AB WR CK WF WL WH LM
def Le (a b : En) : Prop := a.i < b.i ∨ a.i = b.i ∧ (a.j < b.j ∨ a.j = b.j ∧ a.k ≤ b.k)
theorem rep_of {P : En → Prop} {e : En} (h : P e) (b : Bool) : ∀ x ∈ (if b = true then [e] else []), P x := fun x hx => by
  cases b with
  | true => rw [if_pos rfl] at hx; rw [List.mem_singleton.mp hx]; exact h
  | false => rw [if_neg (by decide)] at hx; cases hx
theorem if_sorted {e : En} (p : Prop) [Decidable p] : (if p then [e] else []).Pairwise Le := by
  split
  · exact List.pairwise_singleton ..
  · exact List.Pairwise.nil
theorem if_mem {e x : En} {p : Prop} [Decidable p] (h : x ∈ (if p then [e] else [])) : x = e := by
  split at h
  · exact List.mem_singleton.mp h
  · cases h
theorem mem_not {e x : En} {p : Prop} [Decidable p] (h : x ∈ (if p then [] else [e])) : x = e := by
  split at h
  · cases h
  · exact List.mem_singleton.mp h
theorem not_sorted {e : En} (p : Prop) [Decidable p] : (if p then [] else [e]).Pairwise Le := by
  split
  · exact List.Pairwise.nil
  · exact List.pairwise_singleton ..
theorem wcF_at {cs : List Cl} {i j : Nat} {c : Cl} {x : En} (h : x ∈ wcF cs i c j) : x.i = 0 ∧ x.j = i ∧ (x.k = 2 + 2 * j ∨ x.k = 3 + 2 * j) ∧ ∃ wd : Str, x.w = ⟨wd, some c.name, none, none⟩ ∧ (wd = "double" ∨ wd = "class" ∨ wd = "override") := by
  unfold wcF at h
  cases e : c.fields[j]? with
  | none => rw [e] at h; cases h
  | some p =>
    rw [e] at h
    rcases List.mem_append.mp h with h | h
    · rw [if_mem h]
      exact ⟨rfl, rfl, .inl rfl, _, rfl, .inl rfl⟩
    · rw [mem_not h]
      exact ⟨rfl, rfl, .inr rfl, _, rfl, .inr (.inl rfl)⟩
theorem wcF_sorted {cs : List Cl} {i j : Nat} {c : Cl} : (wcF cs i c j).Pairwise Le := by
  unfold wcF
  cases e : c.fields[j]? with
  | none => exact List.Pairwise.nil
  | some p =>
    refine List.pairwise_append.mpr ⟨if_sorted _, not_sorted _, fun a ha b hb => ?_⟩
    rw [if_mem ha, mem_not hb]
    exact .inr ⟨rfl, .inr ⟨rfl, by show 2 + 2 * j ≤ 3 + 2 * j; omega⟩⟩
theorem range_sorted {g : Nat → List En} (n : Nat) (h1 : ∀ j, (g j).Pairwise Le) (h2 : ∀ j k, j < k → ∀ a ∈ g j, ∀ b ∈ g k, Le a b) : ((List.range n).flatMap g).Pairwise Le := by
  induction n with
  | zero => exact List.Pairwise.nil
  | succ n ih =>
    rw [range_snoc]
    refine List.pairwise_append.mpr ⟨ih, h1 n, fun a ha b hb => ?_⟩
    obtain ⟨j, hj, ha⟩ := List.mem_flatMap.mp ha
    exact h2 j n (List.mem_range.mp hj) a ha b hb
theorem wcC_at {cs : List Cl} {i : Nat} {x : En} (h : x ∈ wcC cs i) : x.i = 0 ∧ x.j = i ∧ ∃ c, cs[i]? = some c ∧ ∃ wd : Str, x.w = ⟨wd, some c.name, none, none⟩ ∧ (wd = "double" ∨ wd = "class" ∨ wd = "override") := by
  unfold wcC at h
  cases e : cs[i]? with
  | none => rw [e] at h; cases h
  | some c =>
    rw [e] at h
    rcases List.mem_append.mp h with h | h
    · rw [if_mem h]
      exact ⟨rfl, rfl, c, rfl, _, rfl, .inl rfl⟩
    · rcases List.mem_append.mp h with h | h
      · rw [if_mem h]
        exact ⟨rfl, rfl, c, rfl, _, rfl, .inr (.inl rfl)⟩
      · obtain ⟨j, _, h⟩ := List.mem_flatMap.mp h
        obtain ⟨a, b, _, d⟩ := wcF_at h
        exact ⟨a, b, c, rfl, d⟩
theorem wcC_sorted {cs : List Cl} {i : Nat} : (wcC cs i).Pairwise Le := by
  unfold wcC
  cases e : cs[i]? with
  | none => exact List.Pairwise.nil
  | some c =>
    refine List.pairwise_append.mpr ⟨if_sorted _, List.pairwise_append.mpr ⟨if_sorted _, range_sorted _ (fun j => wcF_sorted) fun j k hjk a ha b hb => ?_, fun a ha b hb => ?_⟩, fun a ha b hb => ?_⟩
    · obtain ⟨a1, a2, a3, _⟩ := wcF_at ha
      obtain ⟨b1, b2, b3, _⟩ := wcF_at hb
      exact .inr ⟨by omega, .inr ⟨by omega, by omega⟩⟩
    · obtain ⟨j, _, hb⟩ := List.mem_flatMap.mp hb
      obtain ⟨b1, b2, b3, _⟩ := wcF_at hb
      rw [if_mem ha]
      exact .inr ⟨b1.symm, .inr ⟨b2.symm, by show 1 ≤ b.k; omega⟩⟩
    · rw [if_mem ha]
      rcases List.mem_append.mp hb with hb | hb
      · rw [if_mem hb]
        exact .inr ⟨rfl, .inr ⟨rfl, Nat.zero_le _⟩⟩
      · obtain ⟨j, _, hb⟩ := List.mem_flatMap.mp hb
        obtain ⟨b1, b2, b3, _⟩ := wcF_at hb
        exact .inr ⟨b1.symm, .inr ⟨b2.symm, Nat.zero_le _⟩⟩
theorem wrongC_at {cs : List Cl} {x : En} (h : x ∈ wrongC cs) : x.i = 0 ∧ ∃ c ∈ cs, ∃ wd : Str, x.w = ⟨wd, some c.name, none, none⟩ ∧ (wd = "double" ∨ wd = "class" ∨ wd = "override") := by
  obtain ⟨i, _, h⟩ := List.mem_flatMap.mp h
  obtain ⟨a, _, c, hc, d⟩ := wcC_at h
  exact ⟨a, c, List.mem_of_getElem? hc, d⟩
theorem wrongC_sorted {cs : List Cl} : (wrongC cs).Pairwise Le := range_sorted _ (fun _ => wcC_sorted) fun j k hjk a ha b hb => by
  obtain ⟨a1, a2, _⟩ := wcC_at ha
  obtain ⟨b1, b2, _⟩ := wcC_at hb
  exact .inr ⟨by omega, .inl (by omega)⟩
theorem hdJ_at {cs : List Cl} {i j : Nat} {o : Option Str} {f : Fn} {x : En} (h : x ∈ hdJ cs i o f j) : j < f.params.length ∧ x.i = 1 ∧ x.j = i ∧ (x.k = 1 + 2 * j ∨ x.k = 2 + 2 * j) ∧ ∃ wd : Str, x.w = ⟨wd, o, some f.name, none⟩ ∧ (wd = "double" ∨ wd = "class" ∨ wd = "override") := by
  unfold hdJ at h
  cases e : f.params[j]? with
  | none => rw [e] at h; cases h
  | some p =>
    have hj : j < f.params.length := (List.getElem?_eq_some_iff.mp e).1
    rw [e] at h
    rcases List.mem_append.mp h with h | h
    · rw [if_mem h]
      exact ⟨hj, rfl, rfl, .inl rfl, _, rfl, .inl rfl⟩
    · rw [if_mem h]
      exact ⟨hj, rfl, rfl, .inr rfl, _, rfl, .inr (.inl rfl)⟩
theorem hdJ_sorted {cs : List Cl} {i j : Nat} {o : Option Str} {f : Fn} : (hdJ cs i o f j).Pairwise Le := by
  unfold hdJ
  cases e : f.params[j]? with
  | none => exact List.Pairwise.nil
  | some p =>
    refine List.pairwise_append.mpr ⟨if_sorted _, if_sorted _, fun a ha b hb => ?_⟩
    rw [if_mem ha, if_mem hb]
    exact .inr ⟨rfl, .inr ⟨rfl, by show 1 + 2 * j ≤ 2 + 2 * j; omega⟩⟩
theorem hdI_at {cs : List Cl} {hs : List (Option Str × Fn)} {i t : Nat} {o : Option Str} {f : Fn} {x : En} (h : x ∈ hdI cs hs i o f t) : x.i = 1 ∧ x.j = i ∧ ∃ wd : Str, x.w = ⟨wd, o, some f.name, none⟩ ∧ (wd = "double" ∨ wd = "class" ∨ wd = "override") := by
  unfold hdI at h
  rcases List.mem_append.mp h with h | h
  · rw [if_mem h]
    exact ⟨rfl, rfl, _, rfl, .inl rfl⟩
  · rcases List.mem_append.mp h with h | h
    · obtain ⟨j, _, h⟩ := List.mem_flatMap.mp h
      obtain ⟨_, a, b, _, d⟩ := hdJ_at h
      exact ⟨a, b, d⟩
    · rcases List.mem_append.mp h with h | h
      · rw [if_mem h]
        exact ⟨rfl, rfl, _, rfl, .inr (.inl rfl)⟩
      · rw [List.eq_of_mem_replicate h]
        exact ⟨rfl, rfl, _, rfl, .inr (.inr rfl)⟩
theorem hdI_sorted {cs : List Cl} {hs : List (Option Str × Fn)} {i t : Nat} {o : Option Str} {f : Fn} (hp : f.params.length ≤ 6) : (hdI cs hs i o f t).Pairwise Le := by
  have k0 : ∀ {b : En} {x : Nat}, b.i = 1 → b.j = i → x ≤ b.k → ∀ w, Le ⟨1, i, x, w⟩ b := fun h1 h2 h3 w => .inr ⟨h1.symm, .inr ⟨h2.symm, h3⟩⟩
  have tail : ∀ {b : En}, b ∈ ((if (!knowsO cs f.result) = true then [(⟨1, i, 90, ⟨"class", o, some f.name, none⟩⟩ : En)] else []) ++ List.replicate t (⟨1, i, 91, ⟨"override", o, some f.name, none⟩⟩ : En)) → b.i = 1 ∧ b.j = i ∧ 90 ≤ b.k := fun h => by
    rcases List.mem_append.mp h with h | h
    · rw [if_mem h]
      exact ⟨rfl, rfl, Nat.le_refl _⟩
    · rw [List.eq_of_mem_replicate h]
      exact ⟨rfl, rfl, (by decide : 90 ≤ 91)⟩
  unfold hdI
  refine List.pairwise_append.mpr ⟨if_sorted _, List.pairwise_append.mpr ⟨range_sorted _ (fun j => hdJ_sorted) fun j k hjk a ha b hb => ?_, List.pairwise_append.mpr ⟨if_sorted _, ?_, fun a ha b hb => ?_⟩, fun a ha b hb => ?_⟩, fun a ha b hb => ?_⟩
  · obtain ⟨_, a1, a2, a3, _⟩ := hdJ_at ha
    obtain ⟨_, b1, b2, b3, _⟩ := hdJ_at hb
    exact .inr ⟨by omega, .inr ⟨by omega, by omega⟩⟩
  · refine List.pairwise_of_forall_mem_list fun a ha b hb => ?_
    rw [List.eq_of_mem_replicate ha, List.eq_of_mem_replicate hb]
    exact .inr ⟨rfl, .inr ⟨rfl, Nat.le_refl _⟩⟩
  · rw [if_mem ha, List.eq_of_mem_replicate hb]
    exact .inr ⟨rfl, .inr ⟨rfl, by show 90 ≤ 91; decide⟩⟩
  · obtain ⟨j, _, ha⟩ := List.mem_flatMap.mp ha
    obtain ⟨hj, a1, a2, a3, _⟩ := hdJ_at ha
    obtain ⟨b1, b2, b3⟩ := tail hb
    exact .inr ⟨by omega, .inr ⟨by omega, by omega⟩⟩
  · rw [if_mem ha]
    rcases List.mem_append.mp hb with hb | hb
    · obtain ⟨j, _, hb⟩ := List.mem_flatMap.mp hb
      obtain ⟨_, b1, b2, _⟩ := hdJ_at hb
      exact k0 b1 b2 (Nat.zero_le _) _
    · obtain ⟨b1, b2, _⟩ := tail hb
      exact k0 b1 b2 (Nat.zero_le _) _
theorem hds_at {cs : List Cl} {hs : List (Option Str × Fn)} {i : Nat} {es : List En} (h : Hds cs hs i es) : ∀ x ∈ es, x.i = 1 ∧ x.j < i ∧ ∃ p ∈ hs, ∃ wd : Str, x.w = ⟨wd, p.1, some p.2.name, none⟩ ∧ (wd = "double" ∨ wd = "class" ∨ wd = "override") := by
  induction h with
  | zero => intro x hx; cases hx
  | succ h e ht ih =>
    intro x hx
    rcases List.mem_append.mp hx with hx | hx
    · obtain ⟨a, b, c⟩ := ih x hx
      exact ⟨a, by omega, c⟩
    · obtain ⟨a, b, c⟩ := hdI_at hx
      exact ⟨a, by omega, _, List.mem_of_getElem? e, c⟩
theorem hds_sorted {cs : List Cl} {hs : List (Option Str × Fn)} {i : Nat} {es : List En} (hp : ∀ p ∈ hs, p.2.params.length ≤ 6) (h : Hds cs hs i es) : es.Pairwise Le := by
  induction h with
  | zero => exact List.Pairwise.nil
  | succ h e ht ih =>
    refine List.pairwise_append.mpr ⟨ih, hdI_sorted (hp _ (List.mem_of_getElem? e)), fun a ha b hb => ?_⟩
    obtain ⟨a1, a2, _⟩ := hds_at h a ha
    obtain ⟨b1, b2, _⟩ := hdI_at hb
    exact .inr ⟨by omega, .inl (by omega)⟩
theorem mainE_at {fs : List Fn} {x : En} (h : x ∈ mainE fs) : x.i = 2 ∧ x.w = ⟨"main", none, none, none⟩ := by
  unfold mainE at h
  rw [mem_not h]
  exact ⟨rfl, rfl⟩
theorem found_sorted {cs : List Cl} {fs : List Fn} {es : List En} (hp : progOk cs fs) (h : Hds cs (hlist cs fs) (hlist cs fs).length es) : (wrongC cs ++ (es ++ mainE fs)).Pairwise Le := by
  refine List.pairwise_append.mpr ⟨wrongC_sorted, List.pairwise_append.mpr ⟨hds_sorted (fun p hm => ((hlist_ok hp).2 p hm).1.2.1.1) h, not_sorted _, fun a ha b hb => ?_⟩, fun a ha b hb => ?_⟩
  · obtain ⟨a1, _⟩ := hds_at h a ha
    obtain ⟨b1, _⟩ := mainE_at hb
    exact .inl (by omega)
  · obtain ⟨a1, _⟩ := wrongC_at ha
    rcases List.mem_append.mp hb with hb | hb
    · obtain ⟨b1, _⟩ := hds_at h b hb
      exact .inl (by omega)
    · obtain ⟨b1, _⟩ := mainE_at hb
      exact .inl (by omega)
theorem found_ok {cs : List Cl} {fs : List Fn} {es : List En} (hp : progOk cs fs) (h : Hds cs (hlist cs fs) (hlist cs fs).length es) : ∀ x ∈ wrongC cs ++ (es ++ mainE fs), wOk x.w := by
  intro x hx
  rcases List.mem_append.mp hx with hx | hx
  · obtain ⟨_, c, hc, wd, e, hw⟩ := wrongC_at hx
    rw [e]
    exact wOk_cls (hp.2.2.1 c hc).1 hw
  · rcases List.mem_append.mp hx with hx | hx
    · obtain ⟨_, _, p, hm, wd, e, hw⟩ := hds_at h x hx
      rw [e]
      obtain ⟨h1, h2⟩ := (hlist_ok hp).2 p hm
      exact wOk_hd (fun z hz => (h2 z hz).2) h1.1 hw
    · obtain ⟨_, e⟩ := mainE_at hx
      rw [e]
      exact ⟨by decide +kernel, fun z hz => hz.elim (fun h => by cases h) (fun h => by cases h)⟩
def pl (e : En) : List Int := [e.i, e.j, e.k]
theorem le_lt {a b : En} (h : Le a b) : HT.lexLt (pl b) (pl a) = false := by
  unfold pl
  rw [HT.lexLt_cons, HT.lexLt_cons, HT.lexLt_cons, HT.lexLt_nil_nil]
  unfold Le at h
  split
  · split
    · split
      · rfl
      · exact decide_eq_false (by omega)
    · exact decide_eq_false (by omega)
  · exact decide_eq_false (by omega)
theorem en_good {e : En} (h : wOk e.w) : e.py.canLay0 = true ∧ e.py.depth ≤ 20 := by
  obtain ⟨a, b, _⟩ := wpy_good h
  have a : ((PyData.str e.w.word).canLay0 && (e.w.where_.canLay0 && true)) = true := a
  have b : max 0 (max e.w.where_.depth 0) + 1 ≤ 3 := b
  simp only [Bool.and_true, Bool.and_eq_true] at a
  constructor
  · show ((PyData.tuple [.int e.i, .int e.j, .int e.k]).canLay0 && ((PyData.str e.w.word).canLay0 && (e.w.where_.canLay0 && true))) = true
    rw [a.1, a.2]
    rfl
  · show max (max 0 (max 0 (max 0 0)) + 1) (max 0 (max e.w.where_.depth 0)) + 1 ≤ 20
    omega
theorem ens_shaped {l : List En} (h : ∀ e ∈ l, wOk e.w) : SeqAt.shaped (.list (l.map En.py)) = true := by
  have g : PyData.canLayAll0 (l.map En.py) = true ∧ PyData.depthAll (l.map En.py) ≤ 20 :=
    ⟨KI.canAll.mpr fun d hd => by obtain ⟨a, ha, rfl⟩ := List.mem_map.mp hd; exact (en_good (h a ha)).1, KI.depthAll_le.mpr fun d hd => by obtain ⟨a, ha, rfl⟩ := List.mem_map.mp hd; exact (en_good (h a ha)).2⟩
  unfold SeqAt.shaped
  show (PyData.canLayAll0 (l.map En.py) && decide (PyData.depthAll (l.map En.py) + 1 ≤ 64)) = true
  rw [g.1, decide_eq_true (by omega)]
  rfl
end LS

/-! The law's names. -/
namespace LN
open PySem PySem.Spec PyProof.Rows L2 PV PF T KA KK
/-- the defs that draw -/
structure Dr (K : PySem.W.Frag) (mg : Str → Option Value) : Prop where
  drw : ∃ f d, Gd K mg "_law_draw" s_law_draw ["_law_feed_here", "_law_many"] f d
  one : ∃ f d, Gd K mg "_law_one" s_law_one ["_law_feed_here", "_law_things"] f d
  wds : ∃ f d, Gd K mg "_law_words" s_law_words [] f d
  nam : ∃ f d, Gd K mg "_law_name" s_law_name ["_law_feed_here"] f d
  som : ∃ f d, Gd K mg "_law_some" s_law_some ["_law_feed_here", "_law_pool", "_law_at", "_law_calm"] f d
  kin : ∃ f d, Gd K mg "_law_kind_in" s_law_kind_in ["_law_feed_here", "_law_pool", "_law_calm"] f d
  prs : ∃ f d, Gd K mg "_law_pairs" s_law_pairs ["_law_feed_here", "_law_names", "_law_pool", "_law_many", "_law_calm"] f d
  hed : ∃ f d, Gd K mg "_law_head" s_law_head ["_law_feed_here", "_law_name_here", "_law_pool", "_law_calm"] f d
  int : mg "int" = none
  len : mg "len" = none
  rng : mg "range" = none
  tup : mg "tuple" = none
  max : mg "max" = none
def spDk : Sp := fun vs H Q _ => ∃ (p : Addr) (m : Int) (n : Nat), vs = [.ref p, .int m] ∧ FeedAt H p n ∧ n ≤ 2 ^ 60 ∧ 0 < m ∧ m < 2 ^ 30 ∧ ∀ (r : Int) (H' : Hp), 0 ≤ r → r < m → Kept p H H' → FeedAt H' p (n + 1) → Q (.int r) H'
theorem dk_of {vs : List V} {H : Hp} {Q : VK} {E : XK} (h : spDk vs H Q E) : spDraw vs H Q E := by
  obtain ⟨p, m, n, e, h1, h2, h3, h4, q⟩ := h
  exact ⟨p, m, n, e, h1, h2, h3, h4, fun r H' a b c d => q r H' a b (.of_but c) d⟩
def spOs : Sp := fun vs H Q _ => ∃ (p : Addr) (z : Str) (n : Nat), vs = [.ref p, .str z] ∧ FeedAt H p n ∧ n ≤ 2 ^ 60 ∧ 0 < z.length ∧ z.length < 1000 ∧ ∀ (c : Nat) (H' : Hp), c ∈ z.cps.toList → Kept p H H' → FeedAt H' p (n + 1) → Q (.str ⟨#[c]⟩) H'
theorem os_of {K : PySem.W.Frag} {vs : List V} {H : Hp} {Q : VK} {E : XK} (h : spOs vs H Q E) : spOne K vs H Q E := by
  obtain ⟨p, z, n, e, h1, h2, h3, h4, q⟩ := h
  exact ⟨p, n, h1, h2, .inr ⟨z, e, h3, h4, fun c H' hc bt hF' => q c H' hc (.of_but bt) hF'⟩⟩
def spOl : Sp := fun vs H Q _ => ∃ (p L : Addr) (xs : List V) (n : Nat), vs = [.ref p, .ref L] ∧ FeedAt H p n ∧ n ≤ 2 ^ 60 ∧ H L = some (.lst xs) ∧ L ≠ p ∧ 0 < xs.length ∧ xs.length < 2 ^ 30 ∧ ∀ (x : V) (H' : Hp), x ∈ xs → Kept p H H' → FeedAt H' p (n + 1) → Q x H'
theorem ol_of {K : PySem.W.Frag} {vs : List V} {H : Hp} {Q : VK} {E : XK} (h : spOl vs H Q E) : spOne K vs H Q E := by
  obtain ⟨p, L, xs, n, e, h1, h2, hL, hne, h3, h4, q⟩ := h
  exact ⟨p, n, h1, h2, .inl ⟨L, xs, e, hne, SqL.of hL, h3, h4, fun x H' hx bt hF' => q x H' hx (.of_but bt) hF'⟩⟩
theorem Kept.refl {p : Addr} (H : Hp) : Kept p H H := fun _ _ _ e => e
section
variable {P : Program} {w : World} {K : PySem.W.Frag} {mg : Str → Option Value} {base : Heap}
def spWords : Sp := fun vs H Q _ => vs = [] ∧ ∀ p, H p = none → Q (.ref p) (upd H p (.lst (words.map V.str)))
theorem words_eq : ([V.str "above", V.str "and", V.str "as", V.str "catch", V.str "class", V.str "def", V.str "else", V.str "false", V.str "if", V.str "int", V.str "is", V.str "new", V.str "nil", V.str "not", V.str "or", V.str "read", V.str "rem", V.str "return", V.str "row", V.str "self", V.str "show", V.str "sign", V.str "size", V.str "tell", V.str "text", V.str "throw", V.str "true", V.str "truth", V.str "try", V.str "var", V.str "while"] : List V) = words.map V.str := rfl
theorem ok_words {f : Addr} {fd : FuncData} (F : Fun K "_law_words" "_law_words" s_law_words f fd) : FnOk P w K mg base CX0 1 f fd [] spWords := by
  refine F.ok sc_law_words (fun vs H Q E h => ?_) (fun cdv A outer s H vs Q E hr h => ?_)
  · obtain ⟨rfl, _⟩ := h
    rfl
  · obtain ⟨rfl, q⟩ := h
    refine ⟨_, pss_one (ps_ret (pe_lst (pa_cons pe_str (pa_cons pe_str (pa_cons pe_str (pa_cons pe_str (pa_cons pe_str (pa_cons pe_str (pa_cons pe_str (pa_cons pe_str (pa_cons pe_str (pa_cons pe_str (pa_cons pe_str (pa_cons pe_str (pa_cons pe_str (pa_cons pe_str (pa_cons pe_str (pa_cons pe_str (pa_cons pe_str (pa_cons pe_str (pa_cons pe_str (pa_cons pe_str (pa_cons pe_str (pa_cons pe_str (pa_cons pe_str (pa_cons pe_str (pa_cons pe_str (pa_cons pe_str (pa_cons pe_str (pa_cons pe_str (pa_cons pe_str (pa_cons pe_str (pa_cons pe_str pa_nil))))))))))))))))))))))))))))))))), ?_⟩
    refine ⟨by show 31 ≤ sizeLine; decide, fun p np => ?_⟩
    exact q p np
/-- it begins with a letter and has letters and figures alone -/
def begun (z : Str) : Prop := (∃ c l, z.cps.toList = c :: l ∧ c ∈ letters.cps.toList) ∧ z.cps.toList.all signOk = true
theorem len_list (z : Str) : z.cps.toList.length = z.length := Array.length_toList
theorem app_list (a b : Str) : (a ++ b).cps.toList = a.cps.toList ++ b.cps.toList := Array.toList_append
theorem begun_name {z : Str} (h : begun z) (hl : z.length ≤ 8) (hw : z ∉ words) : nameB z = true := by
  obtain ⟨⟨c, l, e, hc⟩, h2⟩ := h
  have h1 : 1 ≤ z.length := by rw [← len_list, e]; simp
  unfold nameB
  rw [decide_eq_true h1, decide_eq_true hl, h2, e]
  simp only [decide_eq_true hc, decide_eq_false hw]
  rfl
theorem sign_of {c : Nat} (h : c ∈ (letters ++ digits).cps.toList) : signOk c = true := by
  rw [app_list] at h
  unfold signOk
  rcases List.mem_append.mp h with h | h
  · rw [decide_eq_true h]; rfl
  · rw [decide_eq_true h, Bool.or_true]
theorem begun_app {z : Str} {c : Nat} (h : begun z) (hc : signOk c = true) : begun (z ++ ⟨#[c]⟩) := by
  obtain ⟨⟨a, l, e, ha⟩, h2⟩ := h
  refine ⟨⟨a, l ++ [c], by rw [app_list, e]; rfl, ha⟩, ?_⟩
  rw [app_list, List.all_append, h2]
  show (true && (signOk c && true)) = true
  rw [hc]
  rfl
theorem begun_one {c : Nat} (hc : c ∈ letters.cps.toList) : begun ⟨#[c]⟩ := ⟨⟨c, [], rfl, hc⟩, by
  show (signOk c && true) = true
  unfold signOk
  rw [decide_eq_true hc]
  rfl⟩
theorem no_x : ∀ w ∈ words, w.cps.toList.head? ≠ some 120 := by decide +kernel
theorem x_name {z : Str} (h : begun z) (hl : z.length ≤ 8) : nameB (("x" : Str) ++ cutS z (some 1) none) = true := by
  obtain ⟨⟨c, l, e, hc⟩, h2⟩ := h
  have hz : z.length = l.length + 1 := by rw [← len_list, e]; rfl
  have e2 : (cutS z (some 1) none).cps.toList = l := by
    show ((z.cps.toList.drop (HT.sIx z.length 0 (some ((1 : Nat) : Int)))).take (HT.sIx z.length z.length none - HT.sIx z.length 0 (some ((1 : Nat) : Int)))) = l
    rw [HT.sIx_nat, HT.sIx_none, e, Nat.min_eq_left (by omega)]
    show l.take (z.length - 1) = l
    rw [List.take_of_length_le (by omega)]
  have e3 : (("x" : Str) ++ cutS z (some 1) none).cps.toList = 120 :: l := by
    rw [app_list, e2]
    rfl
  have hl3 : (("x" : Str) ++ cutS z (some 1) none).length = l.length + 1 := by rw [← len_list, e3]; rfl
  refine begun_name ⟨⟨120, l, e3, by decide +kernel⟩, ?_⟩ (by omega) (fun hw => no_x _ hw (by rw [e3]; rfl))
  rw [e3, List.all_cons]
  rw [e, List.all_cons] at h2
  rw [(Bool.and_eq_true_iff.mp h2).2]
  decide +kernel
theorem word_name : ∀ w ∈ words, ∀ c ∈ ("s0Z" : Str).cps.toList, nameB (w ++ ⟨#[c]⟩) = true := by decide +kernel
def spNm : Sp := fun vs H Q _ => ∃ (p : Addr) (n : Nat), vs = [.ref p] ∧ FeedAt H p n ∧ n + 12 ≤ 2 ^ 60 ∧ ∀ (z : Str) (m : Nat) (H' : Hp), nameB z = true → Kept p H H' → FeedAt H' p m → m ≤ n + 12 → Q (.str z) H'
theorem ok_nm {f : Addr} {fd : FuncData} (F : Fun K "_law_name" "_law_name" s_law_name f fd) (X : Dr K mg) : FnOk P w K mg base CX0 3 f fd ["_law_feed_here"] spNm := by
  obtain ⟨fD, dD, GD⟩ := X.drw
  obtain ⟨fO, dO, GO⟩ := X.one
  obtain ⟨fW, dW, GW⟩ := X.wds
  have HD : FnOk P w K mg base CX0 1 fD dD ["_law_feed_here", "_law_many"] spDk := (ok_draw GD.F X.int).imp fun _ _ _ _ => dk_of
  have HS : FnOk P w K mg base CX0 2 fO dO ["_law_feed_here", "_law_things"] spOs := (ok_one GO.F GD.F GD.b GD.g X.int X.len).imp fun _ _ _ _ => os_of
  have HL : FnOk P w K mg base CX0 2 fO dO ["_law_feed_here", "_law_things"] spOl := (ok_one GO.F GD.F GD.b GD.g X.int X.len).imp fun _ _ _ _ => ol_of
  have HW : FnOk P w K mg base CX0 1 fW dW [] spWords := ok_words GW.F
  refine F.ok sc_law_name (fun vs H Q E h => ?_) (fun cdv A outer s H vs Q E hr h => ?_)
  · obtain ⟨p, n, rfl, _⟩ := h
    rfl
  · obtain ⟨p, n, rfl, hF, hn, q⟩ := h
    refine ⟨_, pss_cons (ps_set (i := 1) sc_law_name.nd rfl (Or.inl rfl) pe_str)
      (pss_cons (ps_if (pt_cmpR op_eq (pe_call HD (hr.mono (by decide)) (by rfl) GD.g GD.F.kp GD.b .nil pass0 (pa_cons (pv 0) (pa_cons pe_int pa_nil))) pe_int (nomark _))
        (pss_one (ps_ret (pe_op op_add_str (pe_call HL hr (by rfl) GO.g GO.F.kp GO.b .nil pass0 (pa_cons (pv 0) (pa_cons (pe_call0 HW (hr.mono (by decide)) (by rfl) GW.g GW.F.kp GW.b .nil pass0) pa_nil)))
          (pe_call HS hr (by rfl) GO.g GO.F.kp GO.b .nil pass0 (pa_cons (pv 0) (pa_cons pe_str pa_nil)))))) pss_nil)
      (pss_cons (ps_set (i := 2) sc_law_name.nd rfl (Or.inl rfl) (pe_call HS hr (by rfl) GO.g GO.F.kp GO.b .nil pass0 (pa_cons (pv 0) (pa_cons (pv 1) pa_nil))))
      (pss_cons (ps_for PassesOwn.never rfl (pi_range1 (by rfl) X.rng (pa_cons (pe_call HD (hr.mono (by decide)) (by rfl) GD.g GD.F.kp GD.b .nil pass0 (pa_cons (pv 0) (pa_cons pe_int pa_nil))) pa_nil)) (pg_name (i := 3) sc_law_name.nd rfl (Or.inl rfl))
        (pss_one (ps_set (i := 2) sc_law_name.nd rfl (Or.inl rfl) (pe_op op_add_str (pv 2) (pe_call HS hr (by rfl) GO.g GO.F.kp GO.b .nil pass0 (pa_cons (pv 0) (pa_cons (pe_op op_add_str (pv 1) pe_str) pa_nil)))))))
      (pss_one (ps_ret (pe_ifExp (pt_cmpR op_in_seq (pv 2) (pe_call0 HW (hr.mono (by decide)) (by rfl) GW.g GW.F.kp GW.b .nil pass0) (by rfl)) (pe_op op_add_str pe_str (pe_slice sl_str (pv 2) (po_some pe_int) po_none)) (pv 2))))))), ?_⟩
    have big : letters.length + digits.length ≤ sizeLine := by decide +kernel
    refine ⟨_, rfl, p, 5, n, rfl, hF, by omega, by decide, by decide, fun r H1 r0 r1 k1 F1 => ⟨rfl, _, rfl, ?_⟩⟩
    refine ite2 (fun _ => ?_) (fun _ => ?_)
    · refine ⟨_, rfl, rfl, fun W nW => ?_⟩
      refine ⟨p, W, _, n + 1, rfl, feed_new F1 nW, by omega, upd_same, feed_ne F1 nW, by decide, by decide, fun x H2 hx k2 F2 => ?_⟩
      have k12 := (k1.trans (Kept.new nW)).trans k2
      obtain ⟨w0, hw0, rfl⟩ := List.mem_map.mp hx
      refine ⟨_, rfl, p, _, n + 1 + 1, rfl, F2, by omega, by decide +kernel, by decide +kernel, fun c H3 hc k3 F3 => ?_⟩
      refine ⟨w0, ⟨#[c]⟩, rfl, rfl, ?_, ?_⟩
      · have : ∀ w ∈ words, w.length ≤ 8 := by decide +kernel
        have := this w0 hw0
        show w0.length + 1 ≤ sizeLine
        exact Nat.le_trans (by omega : _ ≤ 9) (by decide)
      · exact q _ _ H3 (word_name w0 hw0 c hc) (k12.trans k3) F3 (by omega)
    · refine ⟨_, rfl, _, rfl, p, letters, n + 1, rfl, F1, by omega, by decide +kernel, by decide +kernel, fun c H2 hc k2 F2 => ?_⟩
      refine ⟨_, rfl, p, 8, n + 1 + 1, rfl, F2, by omega, by decide, by decide, fun r2 H3 r20 r21 k3 F3 => ?_⟩
      refine ⟨r2, rfl, by omega, by omega, ?_⟩
      obtain ⟨nr, rfl⟩ := Int.eq_ofNat_of_zero_le r20
      refine for_range (lo := 0) (n := nr) (fun i σ H' => ∃ (z : Str) (s3 : Option V) (m : Nat), σ = [some (.ref p), some (.str letters), some (.str z), s3] ∧ begun z ∧ z.length = i + 1 ∧ Kept p H H' ∧ FeedAt H' p m ∧ m ≤ n + 3 + i) ⟨_, _, _, rfl, begun_one hc, rfl, (k1.trans k2).trans k3, F3, by omega⟩ ?_ ?_
      · rintro i σ H4 hi ⟨z, s3, m, rfl, hz, hl, k4, F4, hm⟩
        refine ⟨_, rfl, _, rfl, _, rfl, letters, digits, rfl, rfl, big, ?_⟩
        refine ⟨p, _, m, rfl, F4, by omega, by decide +kernel, by decide +kernel, fun c2 H5 hc2 k5 F5 => ?_⟩
        refine ⟨z, ⟨#[c2]⟩, rfl, rfl, ?_, ?_⟩
        · show z.length + 1 ≤ sizeLine
          exact Nat.le_trans (by omega : _ ≤ 10) (by decide)
        · refine ⟨_, _, _, rfl, begun_app hz (sign_of hc2), ?_, k4.trans k5, F5, by omega⟩
          rw [← len_list, app_list, List.length_append, len_list, hl]
          rfl
      · rintro σ H4 ⟨z, s3, m, rfl, hz, hl, k4, F4, hm⟩
        refine ⟨_, rfl, rfl, fun W nW => ?_⟩
        refine ⟨W, _, rfl, .inl (SqL.of upd_same), rfl, flatW _, _, rfl, ?_⟩
        have kN : Kept p H4 (upd H4 W (.lst (words.map V.str))) := Kept.new nW
        have FN : FeedAt (upd H4 W (.lst (words.map V.str))) p m := feed_new F4 nW
        rw [show (if false = true then !inV (.str z) (words.map V.str) else inV (.str z) (words.map V.str)) = decide (z ∈ words) by rw [if_neg (by decide), inW]]
        refine ite2 (fun _ => ?_) (fun e => ?_)
        · refine ⟨_, rfl, _, rfl, z, rfl, Nat.le_trans (by omega : _ ≤ 10) (by decide), "x", _, rfl, rfl, ?_, ?_⟩
          · have := cutS_length z (some 1) none
            have h1 : ("x" : Str).length = 1 := by decide +kernel
            rw [h1]
            exact Nat.le_trans (by omega : 1 + (cutS z (some 1) none).length ≤ 20) (by decide)
          · exact q _ _ _ (x_name hz (by omega)) (k4.trans kN) FN (by omega)
        · exact ⟨_, rfl, q _ _ _ (begun_name hz (by omega) (fun h => e (decide_eq_true h))) (k4.trans kN) FN (by omega)⟩
end
end LN

/-! The law's kinds, pairs and heads. -/
namespace LN
open PySem PySem.Spec PyProof.Rows L2 PV PF T KA KK PP BL
theorem kind_mono : ∀ (k : Kd) (r s : Nat), r ≤ s → kindOk k r = true → kindOk k s = true
  | .int, _, _, _, _ => rfl
  | .truth, _, _, _, _ => rfl
  | .text, _, _, _, _ => rfl
  | .nil, _, _, _, h => by cases h
  | .of n, _, _, _, h => h
  | .row k, 0, _, _, h => by cases h
  | .row k, r + 1, 0, hrs, _ => by omega
  | .row k, r + 1, s + 1, hrs, h => kind_mono k r s (by omega) h
def strsAt (H : Hp) (L : Addr) (zs : List Str) : Prop := H L = some (.lst (zs.map V.str)) ∧ (∀ z ∈ zs, nameB z = true) ∧ zs.length < 1000
theorem strsAt.keep {H H' : Hp} {p L : Addr} {zs : List Str} (h : strsAt H L zs) (hne : L ≠ p) (k : Kept p H H') : strsAt H' L zs := ⟨k _ _ hne h.1, h.2⟩
theorem name_len {z : Str} (h : nameB z = true) : z.length ≤ 1000 := by
  unfold nameB at h
  simp only [Bool.and_eq_true, decide_eq_true_eq] at h
  omega
theorem Dv.keep {H H' : Hp} {p : Addr} {n : Nat} {v : V} {d : PyData} (h : Dv H v d) (k : Kept p H H') (hF : FeedAt H p n) : Dv H' v d := h.same (k.tups hF)
section
variable {P : Program} {w : World} {K : PySem.W.Frag} {mg : Str → Option Value} {base : Heap}
theorem dk_ok {f : Addr} {fd : FuncData} (G : Gd K mg "_law_draw" s_law_draw ["_law_feed_here", "_law_many"] f fd) (X : Dr K mg) : FnOk P w K mg base CX0 1 f fd ["_law_feed_here", "_law_many"] spDk := (ok_draw G.F X.int).imp fun _ _ _ _ => dk_of
theorem ol_ok {f fD : Addr} {fd dD : FuncData} (G : Gd K mg "_law_one" s_law_one ["_law_feed_here", "_law_things"] f fd) (GD : Gd K mg "_law_draw" s_law_draw ["_law_feed_here", "_law_many"] fD dD) (X : Dr K mg) : FnOk P w K mg base CX0 2 f fd ["_law_feed_here", "_law_things"] spOl :=
  (ok_one G.F GD.F GD.b GD.g X.int X.len).imp fun _ _ _ _ => ol_of
def spSom : Sp := fun vs H Q _ => ∃ (p L : Addr) (xs : List V) (i n : Nat) (c : Int), vs = [.ref p, .ref L, .int i, .int c] ∧ FeedAt H p n ∧ n + 2 ≤ 2 ^ 60 ∧ H L = some (.lst xs) ∧ L ≠ p ∧ i < xs.length ∧ xs.length < 2 ^ 30 ∧ 0 < c ∧ c < 2 ^ 30 ∧
  ∀ (x : V) (m : Nat) (H' : Hp), x ∈ xs → Kept p H H' → FeedAt H' p m → m ≤ n + 2 → Q x H'
theorem ok_som {f : Addr} {fd : FuncData} (F : Fun K "_law_some" "_law_some" s_law_some f fd) (X : Dr K mg) : FnOk P w K mg base CX0 3 f fd ["_law_feed_here", "_law_pool", "_law_at", "_law_calm"] spSom := by
  obtain ⟨fD, dD, GD⟩ := X.drw
  obtain ⟨fO, dO, GO⟩ := X.one
  have HD : FnOk P w K mg base CX0 1 fD dD ["_law_feed_here", "_law_many"] spDk := dk_ok GD X
  have HL : FnOk P w K mg base CX0 2 fO dO ["_law_feed_here", "_law_things"] spOl := ol_ok GO GD X
  refine F.ok sc_law_some (fun vs H Q E h => ?_) (fun cdv A outer s H vs Q E hr h => ?_)
  · obtain ⟨p, L, xs, i, n, c, rfl, _⟩ := h
    rfl
  · obtain ⟨p, L, xs, i, n, c, rfl, hF, hn, hL, hne, hi, hx, c0, c1, q⟩ := h
    refine ⟨_, pss_one (ps_ret (pe_ifExp (pt_cmpR op_gt (pe_call HD (hr.mono (by decide)) (by rfl) GD.g GD.F.kp GD.b .nil pass0 (pa_cons (pv 0) (pa_cons (pv 3) pa_nil))) pe_int (nomark _)) (pe_ix ix_list (pv 1) (pv 2) (fun _ _ => rfl))
      (pe_call HL hr (by rfl) GO.g GO.F.kp GO.b .nil pass0 (pa_cons (pv 0) (pa_cons (pv 1) pa_nil))))), ?_⟩
    refine ⟨_, rfl, _, rfl, p, c, n, rfl, hF, by omega, c0, c1, fun r H1 r0 r1 k1 F1 => ⟨_, _, rfl, rfl, _, rfl, ?_⟩⟩
    have hL1 := k1 _ _ hne hL
    refine ite2 (fun _ => ?_) (fun _ => ?_)
    · exact ⟨_, rfl, _, rfl, L, xs, i, xs[i], rfl, rfl, SqL.of hL1, atI_nat (List.getElem?_eq_getElem hi), q _ _ H1 (List.getElem_mem hi) k1 F1 (by omega)⟩
    · exact ⟨_, rfl, _, rfl, p, L, xs, n + 1, rfl, F1, by omega, hL1, hne, by omega, hx, fun x H2 hx2 k2 F2 => q _ _ H2 hx2 (k1.trans k2) F2 (by omega)⟩
def spKin : Sp := fun vs H Q _ => ∃ (p L : Addr) (zs : List Str) (n : Nat) (c : Int), vs = [.ref p, .ref L, .int c] ∧ FeedAt H p n ∧ n + 4 ≤ 2 ^ 60 ∧ strsAt H L zs ∧ L ≠ p ∧ 2 ≤ zs.length ∧ 0 < c ∧ c < 2 ^ 30 ∧
  ∀ (v : V) (k : Kd) (m : Nat) (H' : Hp), Dv H' v k.py → kindOk k 3 = true → Kept p H H' → FeedAt H' p m → m ≤ n + 4 → Q v H'
theorem ok_kin {f : Addr} {fd : FuncData} (F : Fun K "_law_kind_in" "_law_kind_in" s_law_kind_in f fd) (X : Dr K mg) : FnOk P w K mg base CX0 3 f fd ["_law_feed_here", "_law_pool", "_law_calm"] spKin := by
  obtain ⟨fD, dD, GD⟩ := X.drw
  obtain ⟨fO, dO, GO⟩ := X.one
  have HD : FnOk P w K mg base CX0 1 fD dD ["_law_feed_here", "_law_many"] spDk := dk_ok GD X
  have HL : FnOk P w K mg base CX0 2 fO dO ["_law_feed_here", "_law_things"] spOl := ol_ok GO GD X
  refine F.ok sc_law_kind_in (fun vs H Q E h => ?_) (fun cdv A outer s H vs Q E hr h => ?_)
  · obtain ⟨p, L, zs, n, c, rfl, _⟩ := h
    rfl
  · obtain ⟨p, L, zs, n, c, rfl, hF, hn, hL, hne, h2, c0, c1, q⟩ := h
    refine ⟨_, pss_cons (ps_set (i := 3) sc_law_kind_in.nd rfl (Or.inl rfl) (pe_call HL hr (by rfl) GO.g GO.F.kp GO.b .nil pass0 (pa_cons (pv 0) (pa_cons (pe_lst (pa_cons pe_str (pa_cons pe_str (pa_cons pe_str (pa_cons (pe_tup (pa_cons pe_str (pa_cons (pe_ix ix_list (pv 1) pe_int (fun _ _ => rfl)) pa_nil)))
        (pa_cons (pe_tup (pa_cons pe_str (pa_cons (pe_ix ix_list (pv 1) pe_int (fun _ _ => rfl)) pa_nil))) pa_nil)))))) pa_nil))))
      (pss_cons (ps_if (pt_cmpR op_eq (pe_call HD (hr.mono (by decide)) (by rfl) GD.g GD.F.kp GD.b .nil pass0 (pa_cons (pv 0) (pa_cons (pv 2) pa_nil))) pe_int (nomark _))
        (pss_one (ps_set (i := 3) sc_law_kind_in.nd rfl (Or.inl rfl) (pe_tup (pa_cons pe_str (pa_cons (pe_call HL hr (by rfl) GO.g GO.F.kp GO.b .nil pass0 (pa_cons (pv 0) (pa_cons (pv 1) pa_nil))) pa_nil))))) pss_nil)
      (pss_cons (ps_for PassesOwn.never rfl (pi_range1 (by rfl) X.rng (pa_cons (pe_call HD (hr.mono (by decide)) (by rfl) GD.g GD.F.kp GD.b .nil pass0 (pa_cons (pv 0) (pa_cons pe_int pa_nil))) pa_nil)) (pg_name (i := 4) sc_law_kind_in.nd rfl (Or.inl rfl))
        (pss_one (ps_set (i := 3) sc_law_kind_in.nd rfl (Or.inl rfl) (pe_tup (pa_cons pe_str (pa_cons (pv 3) pa_nil))))))
      (pss_one (ps_ret (pv 3))))), ?_⟩
    obtain ⟨hL0, hnm, hz⟩ := id hL
    have hlen : (zs.map V.str).length = zs.length := List.length_map ..
    have ofD : ∀ (H : Hp) (t : Addr) (z : Str), z ∈ zs → H t = some (.tup [.str "of", .str z]) → Dv H (.ref t) (Kd.of z).py ∧ kindOk (.of z) 0 = true := fun H t z hz ht =>
      ⟨.tup ht (by show 2 ≤ 1000; decide) (.cons (.str _ (by decide +kernel)) (.cons (.str _ (name_len (hnm z hz))) .nil)), by show (nameB z && decide (z.length ≤ 1000)) = true; rw [hnm z hz, decide_eq_true (name_len (hnm z hz))]; rfl⟩
    -- from a kind on
    have tail : ∀ (v : V) (k : Kd) (m : Nat) (H1 : Hp), Dv H1 v k.py → kindOk k 0 = true → Kept p H H1 → FeedAt H1 p m → m ≤ n + 3 → tSeq (tFor (iRng1 (tCons (tCall spDk [] (fun _ _ _ => False) (tCons (tVar 0) (tCons (tC (.int 4)) tNil))) tNil)) (gName 4) (tAsg (tTup (tCons (tC (.str "row")) (tCons (tVar 3) tNil))) (gName 3))) (tRet (tVar 3))
        { nx := fun _ H' => Q .non H', rt := Q } [some (.ref p), some (.ref L), some (.int c), some v, none] H1 := by
      intro v k m H1 hv hk k1 F1 hm
      refine ⟨_, rfl, p, 4, m, rfl, F1, by omega, by decide, by decide, fun r H2 r0 r1 k2 F2 => ?_⟩
      refine ⟨r, rfl, by omega, by omega, ?_⟩
      obtain ⟨nr, rfl⟩ := Int.eq_ofNat_of_zero_le r0
      refine for_range (lo := 0) (n := nr) (fun i σ H' => ∃ (v : V) (k : Kd) (s4 : Option V), σ = [some (.ref p), some (.ref L), some (.int c), some v, s4] ∧ Dv H' v k.py ∧ kindOk k i = true ∧ Kept p H H' ∧ FeedAt H' p (m + 1)) ⟨v, k, _, rfl, Dv.keep hv k2 F1, hk, k1.trans k2, F2⟩ ?_ ?_
      · rintro i σ H3 hi ⟨v, k, s4, rfl, hv, hk, k3, F3⟩
        refine ⟨_, rfl, by show 2 ≤ sizeLine; decide, fun t nt => ?_⟩
        exact ⟨_, .row k, _, rfl, .tup upd_same (by show 2 ≤ 1000; decide) (.cons (.str _ (by decide +kernel)) (.cons (Dv.keep hv (Kept.new nt) F3) .nil)), hk, k3.trans (Kept.new nt), feed_new F3 nt⟩
      · rintro σ H3 ⟨v, k, s4, rfl, hv, hk, k3, F3⟩
        exact ⟨_, rfl, q v k _ H3 hv (kind_mono k nr 3 (by omega) hk) k3 F3 (by omega)⟩
    refine ⟨_, rfl, _, rfl, L, _, 0, .str zs[0], rfl, rfl, SqL.of hL0, atI_nat (j := 0) (by rw [List.getElem?_map, List.getElem?_eq_getElem (show 0 < zs.length by omega)]; rfl), by show 2 ≤ sizeLine; decide, fun t1 n1 => ?_⟩
    have L1 := Kept.new (p := p) (o := .tup [.str "of", .str zs[0]]) n1 _ _ hne hL0
    refine ⟨_, rfl, L, _, 1, .str zs[1], rfl, rfl, SqL.of L1, atI_nat (j := 1) (by rw [List.getElem?_map, List.getElem?_eq_getElem (show 1 < zs.length by omega)]; rfl), by show 2 ≤ sizeLine; decide, fun t2 n2 => ?_⟩
    refine ⟨by show 5 ≤ sizeLine; decide, fun T nT => ?_⟩
    have F1 := feed_new (o := .lst [.str "int", .str "truth", .str "text", .ref t1, .ref t2]) (feed_new (o := .tup [.str "of", .str zs[1]]) (feed_new (o := .tup [.str "of", .str zs[0]]) hF n1) n2) nT
    have k0 : Kept p H (upd (upd (upd H t1 (.tup [.str "of", .str zs[0]])) t2 (.tup [.str "of", .str zs[1]])) T (.lst [.str "int", .str "truth", .str "text", .ref t1, .ref t2])) := ((Kept.new n1).trans (Kept.new n2)).trans (Kept.new nT)
    have g1 : (upd (upd (upd H t1 (.tup [.str "of", .str zs[0]])) t2 (.tup [.str "of", .str zs[1]])) T (.lst [.str "int", .str "truth", .str "text", .ref t1, .ref t2])) t1 = some (.tup [.str "of", .str zs[0]]) := by
      have a : t1 ≠ t2 := ne_of_none upd_same n2
      have b : t1 ≠ T := ne_of_none (by rw [upd_ne a, upd_same]) nT
      rw [upd_ne b, upd_ne a, upd_same]
    have g2 : (upd (upd (upd H t1 (.tup [.str "of", .str zs[0]])) t2 (.tup [.str "of", .str zs[1]])) T (.lst [.str "int", .str "truth", .str "text", .ref t1, .ref t2])) t2 = some (.tup [.str "of", .str zs[1]]) := by
      have b : t2 ≠ T := ne_of_none upd_same nT
      rw [upd_ne b, upd_same]
    have gT : (upd (upd (upd H t1 (.tup [.str "of", .str zs[0]])) t2 (.tup [.str "of", .str zs[1]])) T (.lst [.str "int", .str "truth", .str "text", .ref t1, .ref t2])) T = some (.lst [.str "int", .str "truth", .str "text", .ref t1, .ref t2]) := upd_same
    have hTp : T ≠ p := feed_ne (feed_new (o := .tup [.str "of", .str zs[1]]) (feed_new (o := .tup [.str "of", .str zs[0]]) hF n1) n2) nT
    generalize upd (upd (upd H t1 (.tup [.str "of", .str zs[0]])) t2 (.tup [.str "of", .str zs[1]])) T (.lst [.str "int", .str "truth", .str "text", .ref t1, .ref t2]) = H1 at F1 k0 g1 g2 gT
    refine ⟨p, T, _, n, rfl, F1, by omega, gT, hTp, by show 0 < 5; decide, by show 5 < 2 ^ 30; decide, fun x H2 hx k2 F2 => ?_⟩
    have hx2 : ∃ k : Kd, Dv H1 x k.py ∧ kindOk k 0 = true := by
      rcases (by simpa using hx : x = .str "int" ∨ x = .str "truth" ∨ x = .str "text" ∨ x = .ref t1 ∨ x = .ref t2) with rfl | rfl | rfl | rfl | rfl
      · exact ⟨.int, .str _ (by decide +kernel), rfl⟩
      · exact ⟨.truth, .str _ (by decide +kernel), rfl⟩
      · exact ⟨.text, .str _ (by decide +kernel), rfl⟩
      · exact ⟨.of zs[0], ofD _ _ _ (List.getElem_mem _) g1⟩
      · exact ⟨.of zs[1], ofD _ _ _ (List.getElem_mem _) g2⟩
    obtain ⟨k, hv, hk⟩ := hx2
    have k02 := k0.trans k2
    refine ⟨_, rfl, _, rfl, p, c, n + 1, rfl, F2, by omega, c0, c1, fun r H3 r0 r1 k3 F3 => ⟨rfl, _, rfl, ?_⟩⟩
    have k03 := k02.trans k3
    refine ite2 (fun _ => ?_) (fun _ => ?_)
    · refine ⟨_, rfl, _, rfl, p, L, _, n + 1 + 1, rfl, F3, by omega, k03 _ _ hne hL0, hne, by omega, by rw [hlen]; exact Nat.lt_of_lt_of_le hz (by decide), fun y H4 hy k4 F4 => ?_⟩
      obtain ⟨z, hzm, rfl⟩ := List.mem_map.mp hy
      refine ⟨by show 2 ≤ sizeLine; decide, fun t nt => ?_⟩
      obtain ⟨d1, d2⟩ := ofD _ t z hzm (upd_same (H := H4))
      exact tail _ (.of z) _ _ d1 d2 ((k03.trans k4).trans (Kept.new nt)) (feed_new F4 nt) (by omega)
    · exact tail x k _ H3 (Dv.keep (Dv.keep hv k2 F1) k3 F2) hk k03 F3 (by omega)
def spPrs : Sp := fun vs H Q _ => ∃ (p N L : Addr) (ns zs : List Str) (k n : Nat) (c : Int), vs = [.ref p, .ref N, .ref L, .int k, .int c] ∧ FeedAt H p n ∧ n + 64 ≤ 2 ^ 60 ∧ strsAt H N ns ∧ N ≠ p ∧ strsAt H L zs ∧ L ≠ p ∧ 2 ≤ zs.length ∧ k ≤ ns.length ∧ k ≤ 8 ∧ 0 < c ∧ c < 2 ^ 30 ∧
  ∀ (a : Addr) (ps : List (Str × Kd)) (m : Nat) (H' : Hp), Dv H' (.ref a) (.tuple (ps.map pair)) → ps.length = k → (∀ q ∈ ps, nameB q.1 = true ∧ kindOk q.2 3 = true) → Kept p H H' → FeedAt H' p m → m ≤ n + 64 → Q (.ref a) H'
theorem ok_prs {f : Addr} {fd : FuncData} (F : Fun K "_law_pairs" "_law_pairs" s_law_pairs f fd) (X : Dr K mg) : FnOk P w K mg base CX0 4 f fd ["_law_feed_here", "_law_names", "_law_pool", "_law_many", "_law_calm"] spPrs := by
  obtain ⟨fS, dS, GS⟩ := X.som
  obtain ⟨fK, dK, GK⟩ := X.kin
  have HS : FnOk P w K mg base CX0 3 fS dS ["_law_feed_here", "_law_pool", "_law_at", "_law_calm"] spSom := ok_som GS.F X
  have HK : FnOk P w K mg base CX0 3 fK dK ["_law_feed_here", "_law_pool", "_law_calm"] spKin := ok_kin GK.F X
  refine F.ok sc_law_pairs (fun vs H Q E h => ?_) (fun cdv A outer s H vs Q E hr h => ?_)
  · obtain ⟨p, N, L, ns, zs, k, n, c, rfl, _⟩ := h
    rfl
  · obtain ⟨p, N, L, ns, zs, k, n, c, rfl, hF, hn, hN, hNp, hL, hLp, h2, hk, hk8, c0, c1, q⟩ := h
    refine ⟨_, pss_one (ps_ret (pe_callTy call_tuple_of (by rfl) X.tup (by decide +kernel) (pa_cons (pe_lc (own := [("_law_k", 5)]) (g := gName 5) (tt := tYes) (te := tTup (tCons (tCall spSom [] (fun _ _ _ => False) (tCons (tVar 0) (tCons (tVar 1) (tCons (tVar 5) (tCons (tVar 4) tNil))))) (tCons (tCall spKin [] (fun _ _ _ => False) (tCons (tVar 0) (tCons (tVar 2) (tCons (tVar 4) tNil)))) tNil))) rfl sc_law_pairs.nd (pi_range1 (by rfl) X.rng (pa_cons (pv 3) pa_nil))
        (blkOk_by (N := ["_law_feed_here", "_law_names", "_law_pool", "_law_many", "_law_calm", "_law_k"]) (sc := defScope s_law_pairs) (by decide +kernel)) (fun _ _ _ _ _ => pg_name (i := 5) sc_law_pairs.nd rfl (Or.inl rfl)) (fun _ _ _ _ _ => pts_nil)
        (fun _ _ _ _ _ => pe_tup (pa_cons (pe_call HS hr (by rfl) GS.g GS.F.kp GS.b .nil pass0 (pa_cons (pv 0) (pa_cons (pv 1) (pa_cons (pv 5) (pa_cons (pv 4) pa_nil))))) (pa_cons (pe_call HK hr (by rfl) GK.g GK.F.kp GK.b .nil pass0 (pa_cons (pv 0) (pa_cons (pv 2) (pa_cons (pv 4) pa_nil)))) pa_nil)))) pa_nil))), ?_⟩
    refine ⟨_, rfl, k, rfl, by omega, by omega, fun D nD => ?_⟩
    have hDp : D ≠ p := feed_ne hF nD
    refine lc_range (n := (k : Int).toNat) (lo := 0) (fun i H5 => ∃ (acc : List V) (ps : List (Str × Kd)) (m : Nat), H5 D = some (.lst acc) ∧ DvAll H5 acc (ps.map pair) ∧ ps.length = i ∧ (∀ q ∈ ps, nameB q.1 = true ∧ kindOk q.2 3 = true) ∧ Kept p H H5 ∧ FeedAt H5 p m ∧ m ≤ n + 6 * i)
      ⟨[], [], n, upd_same, .nil, rfl, (fun q hq => by cases hq), Kept.new nD, feed_new hF nD, by omega⟩ ?_ ?_
    · rintro i H5 hi ⟨acc, ps, m, hD, hdv, hl, hok, k5, F5, hm⟩
      have hik : i < k := by omega
      refine ⟨rfl, iteT (B := ∃ (acc : List V) (ps : List (Str × Kd)) (m : Nat), H5 D = some (.lst acc) ∧ DvAll H5 acc (ps.map pair) ∧ ps.length = i + 1 ∧ (∀ q ∈ ps, nameB q.1 = true ∧ kindOk q.2 3 = true) ∧ Kept p H H5 ∧ FeedAt H5 p m ∧ m ≤ n + 6 * (i + 1)) ?_⟩
      obtain ⟨N0, N1, N2⟩ := hN.keep hNp k5
      refine ⟨_, rfl, _, rfl, _, rfl, _, rfl, p, N, _, i, m, c, by rw [Int.zero_add]; rfl, F5, by omega, N0, hNp, by rw [List.length_map]; omega, by rw [List.length_map]; exact Nat.lt_of_lt_of_le N2 (by decide), c0, c1, fun x m6 H6 hx k6 F6 hm6 => ?_⟩
      obtain ⟨z, hz, rfl⟩ := List.mem_map.mp hx
      refine ⟨_, rfl, _, rfl, _, rfl, p, L, zs, m6, c, rfl, F6, by omega, hL.keep hLp (k5.trans k6), hLp, h2, c0, c1, fun v kd m7 H7 hv hkd k7 F7 hm7 => ?_⟩
      refine ⟨by show 2 ≤ sizeLine; decide, fun t nt => ?_⟩
      have k67 := k6.trans k7
      have hD7 := k67 _ _ hDp hD
      have hDt : D ≠ t := ne_of_none hD7 nt
      have e1 : acc.length = i := by
        have := hdv.len
        rw [List.length_map] at this
        omega
      have dv7 : DvAll H7 acc (ps.map pair) := (hdv.same (k6.tups F5)).same (k7.tups F6)
      have ts : TupSame H7 (upd (upd H7 t (.tup [.str z, v])) D (.lst (acc ++ [.ref t]))) := fun b xs e => by
        rw [upd_ne (ne_of e hD7 (by intro z; cases z)), upd_ne (ne_of_none e nt)]
        exact e
      refine ⟨acc, by rw [upd_ne hDt]; exact hD7, Nat.lt_of_le_of_lt (by omega : acc.length ≤ 8) (by decide), acc ++ [.ref t], ps ++ [(z, kd)], m7, upd_same, ?_, by simp [hl], ?_, ?_, ?_, by omega⟩
      · rw [List.map_append]
        exact (dv7.same ts).app (.cons (.tup (xs := [.str z, v]) (by rw [upd_ne hDt.symm, upd_same]) (by show 2 ≤ 1000; decide) (.cons (.str _ (name_len (N1 z hz))) (.cons (hv.same ts) .nil))) .nil)
      · intro q hq
        rcases List.mem_append.mp hq with hq | hq
        · exact hok q hq
        · obtain rfl := List.mem_singleton.mp hq
          exact ⟨N1 z hz, hkd⟩
      · intro b o hb e
        rw [upd_ne (ne_of_none e nD), upd_ne (ne_of_none ((k5.trans k67) b o hb e) nt)]
        exact (k5.trans k67) b o hb e
      · obtain ⟨x, y, z', e, r⟩ := F7
        exact ⟨x, y, z', by rw [upd_ne hDp.symm, upd_ne (ne_of_none e nt)]; exact e, r⟩
    · rintro H5 ⟨acc, ps, m, hD, hdv, hl, hok, k5, F5, hm⟩
      refine ⟨D, acc, rfl, .inl ⟨SqL.of hD, fun a na => ?_⟩⟩
      have e1 : acc.length = ps.length := by
        have := hdv.len
        rw [List.length_map] at this
        exact this
      exact q a ps m _ (.tup upd_same (by omega) (hdv.same ((Kept.new na).tups F5))) (by omega) hok (k5.trans (Kept.new na)) (feed_new F5 na) (by omega)
/-- a head: a function with the one body -/
def spHed : Sp := fun vs H Q _ => ∃ (p L : Addr) (nm : Str) (zs : List Str) (n : Nat) (c : Int), vs = [.ref p, .str nm, .ref L, .int c] ∧ FeedAt H p n ∧ n + 80 ≤ 2 ^ 60 ∧ strsAt H L zs ∧ L ≠ p ∧ 2 ≤ zs.length ∧ nameB nm = true ∧ 0 < c ∧ c < 2 ^ 30 ∧
  ∀ (a : Addr) (f : Fn) (m : Nat) (H' : Hp), Dv H' (.ref a) f.py → fnOk f → f.body = WB → Kept p H H' → FeedAt H' p m → m ≤ n + 80 → Q (.ref a) H'
theorem WB_ok (n : Nat) (h : n ≤ 6) : bodyOk WB n := ⟨rfl, by show n + 0 ≤ 16; omega, by decide, by decide, by decide⟩
theorem ok_hed {f : Addr} {fd : FuncData} (F : Fun K "_law_head" "_law_head" s_law_head f fd) (X : Dr K mg) : FnOk P w K mg base CX0 5 f fd ["_law_feed_here", "_law_name_here", "_law_pool", "_law_calm"] spHed := by
  obtain ⟨fD, dD, GD⟩ := X.drw
  obtain ⟨fS, dS, GS⟩ := X.prs
  obtain ⟨fK, dK, GK⟩ := X.kin
  have HD : FnOk P w K mg base CX0 1 fD dD ["_law_feed_here", "_law_many"] spDk := dk_ok GD X
  have HS : FnOk P w K mg base CX0 4 fS dS ["_law_feed_here", "_law_names", "_law_pool", "_law_many", "_law_calm"] spPrs := ok_prs GS.F X
  have HK : FnOk P w K mg base CX0 3 fK dK ["_law_feed_here", "_law_pool", "_law_calm"] spKin := ok_kin GK.F X
  refine F.ok sc_law_head (fun vs H Q E h => ?_) (fun cdv A outer s H vs Q E hr h => ?_)
  · obtain ⟨p, L, nm, zs, n, c, rfl, _⟩ := h
    rfl
  · obtain ⟨p, L, nm, zs, n, c, rfl, hF, hn, hL, hLp, h2, hnm, c0, c1, q⟩ := h
    refine ⟨_, pss_cons (ps_set (i := 4) sc_law_head.nd rfl (Or.inl rfl) (pe_call HS hr (by rfl) GS.g GS.F.kp GS.b .nil pass0 (pa_cons (pv 0) (pa_cons (pe_lst (pa_cons pe_str (pa_cons pe_str pa_nil))) (pa_cons (pv 2) (pa_cons (pe_call HD (hr.mono (by decide)) (by rfl) GD.g GD.F.kp GD.b .nil pass0 (pa_cons (pv 0) (pa_cons pe_int pa_nil))) (pa_cons (pv 3) pa_nil)))))))
      (pss_cons (ps_set (i := 5) sc_law_head.nd rfl (Or.inl rfl) (pe_ifExp (pt_cmpR op_eq (pe_call HD (hr.mono (by decide)) (by rfl) GD.g GD.F.kp GD.b .nil pass0 (pa_cons (pv 0) (pa_cons pe_int pa_nil))) pe_int (nomark _)) (pe_call HK (hr.mono (by decide)) (by rfl) GK.g GK.F.kp GK.b .nil pass0 (pa_cons (pv 0) (pa_cons (pv 2) (pa_cons (pv 3) pa_nil)))) pe_non))
      (pss_one (ps_ret (pe_tup (pa_cons (pv 1) (pa_cons (pv 4) (pa_cons (pv 5) (pa_cons (pe_tup (pa_cons (pe_tup (pa_cons pe_str (pa_cons (pe_tup (pa_cons pe_str (pa_cons pe_bl pa_nil))) (pa_cons (pe_tup pa_nil) pa_nil)))) pa_nil)) pa_nil)))))))), ?_⟩
    refine ⟨_, rfl, by show 2 ≤ sizeLine; decide, fun N nN => ?_⟩
    have FN := feed_new (o := .lst [.str "p", .str "q"]) hF nN
    have kN : Kept p H (upd H N (.lst [.str "p", .str "q"])) := Kept.new nN
    have hN : (upd H N (.lst [.str "p", .str "q"])) N = some (.lst (([("p" : Str), "q"] : List Str).map V.str)) := upd_same
    have hNp : N ≠ p := feed_ne hF nN
    generalize upd H N (.lst [.str "p", .str "q"]) = H1 at FN kN hN
    refine ⟨_, rfl, _, rfl, p, 3, n, rfl, FN, by omega, by decide, by decide, fun r H2 r0 r1 k2 F2 => ?_⟩
    obtain ⟨nr, rfl⟩ := Int.eq_ofNat_of_zero_le r0
    refine ⟨_, rfl, ?_⟩
    have hN2 : strsAt H2 N [("p" : Str), "q"] := ⟨k2 _ _ hNp hN, by decide +kernel, by decide⟩
    refine ⟨p, N, L, _, zs, nr, n + 1, c, rfl, F2, by omega, hN2, hNp, hL.keep hLp (kN.trans k2), hLp, h2, by show nr ≤ 2; omega, by omega, c0, c1, fun a ps m H3 hdp hpl hps k3 F3 hm => ?_⟩
    have k03 := (kN.trans k2).trans k3
    have tail : ∀ (u : V) (res : Option Kd) (m4 : Nat) (H4 : Hp), Dv H4 u (optK res) → resOk res → Dv H4 (.ref a) (.tuple (ps.map pair)) → Kept p H H4 → FeedAt H4 p m4 → m4 ≤ n + 80 →
        tRet (tTup (tCons (tVar 1) (tCons (tVar 4) (tCons (tVar 5) (tCons (tTup (tCons (tTup (tCons (tC (.str "while")) (tCons (tTup (tCons (tC (.str "truth")) (tCons (tC (.bl true)) tNil))) (tCons (tTup tNil) tNil)))) tNil)) tNil))))) { nx := fun _ H' => Q .non H', rt := Q } [some (.ref p), some (.str nm), some (.ref L), some (.int c), some (.ref a), some u] H4 := by
      intro u res m4 H4 hu hres hpa k4 F4 hm4
      refine ⟨_, rfl, _, rfl, _, rfl, by show 2 ≤ sizeLine; decide, fun t1 n1 => ⟨Nat.zero_le _, fun t2 n2 => ⟨by show 3 ≤ sizeLine; decide, fun t3 n3 => ⟨by show 1 ≤ sizeLine; decide, fun t4 n4 => ⟨by show 4 ≤ sizeLine; decide, fun t5 n5 => ?_⟩⟩⟩⟩⟩
      have new : ∀ {H1 : Hp} {t : Addr} {o : HO}, H1 t = none → TupSame H1 (upd H1 t o) := fun n b xs e => by rw [upd_ne (ne_of_none e n)]; exact e
      have w1 : Dv (upd H4 t1 (.tup [.str "truth", .bl true])) (.ref t1) (Ex.truth true).py := .tup upd_same (by show 2 ≤ 1000; decide) (.cons (.str _ (by decide +kernel)) (.cons (.bl _) .nil))
      have w1' := w1.same (new (o := .tup []) n2)
      have w2 : Dv (upd (upd H4 t1 (.tup [.str "truth", .bl true])) t2 (.tup [])) (.ref t2) (.tuple []) := .tup upd_same (Nat.zero_le _) .nil
      have w3 : Dv (upd (upd (upd H4 t1 (.tup [.str "truth", .bl true])) t2 (.tup [])) t3 (.tup [.str "while", .ref t1, .ref t2])) (.ref t3) wst := .tup upd_same (by show 3 ≤ 1000; decide) (.cons (.str _ (by decide +kernel)) (.cons (w1'.same (new n3)) (.cons (w2.same (new n3)) .nil)))
      have w4 := w3.same (new (o := .tup [.ref t3]) n4)
      have w5 : Dv (upd (upd (upd (upd H4 t1 (.tup [.str "truth", .bl true])) t2 (.tup [])) t3 (.tup [.str "while", .ref t1, .ref t2])) t4 (.tup [.ref t3])) (.ref t4) (.tuple WB.py) := .tup upd_same (by show 1 ≤ 1000; decide) (.cons w4 .nil)
      have up := ((((hu.same (new n1)).same (new n2)).same (new n3)).same (new n4)).same (new (o := .tup [.str nm, .ref a, u, .ref t4]) n5)
      have ap := ((((hpa.same (new n1)).same (new n2)).same (new n3)).same (new n4)).same (new (o := .tup [.str nm, .ref a, u, .ref t4]) n5)
      refine q t5 ⟨nm, ps, res, WB⟩ m4 _ (.tup upd_same (by show 4 ≤ 1000; decide) (.cons (.str _ (name_len hnm)) (.cons ap (.cons up (.cons (w5.same (new n5)) .nil))))) ⟨hnm, ⟨by show ps.length ≤ 6; omega, hps⟩, hres, WB_ok _ (by show ps.length ≤ 6; omega)⟩ rfl ?_ ?_ hm4
      · exact ((((k4.trans (Kept.new n1)).trans (Kept.new n2)).trans (Kept.new n3)).trans (Kept.new n4)).trans (Kept.new n5)
      · exact feed_new (feed_new (feed_new (feed_new (feed_new F4 n1) n2) n3) n4) n5
    refine ⟨_, rfl, p, 2, m, rfl, F3, by omega, by decide, by decide, fun r2 H4 r20 r21 k4 F4 => ⟨rfl, _, rfl, ?_⟩⟩
    refine ite2 (fun _ => ?_) (fun _ => ?_)
    · refine ⟨_, rfl, _, rfl, _, rfl, p, L, zs, m + 1, c, rfl, F4, by omega, hL.keep hLp (k03.trans k4), hLp, h2, c0, c1, fun v kd m5 H5 hv hkd k5 F5 hm5 => ?_⟩
      exact tail v (some kd) m5 H5 hv hkd ((hdp.same (k4.tups F3)).same (k5.tups F4)) ((k03.trans k4).trans k5) F5 (by omega)
    · exact tail .non none _ H4 .non trivial (hdp.same (k4.tups F3)) (k03.trans k4) F4 (by omega)
end
end LN

/-! The law's program. -/
namespace LN
open PySem PySem.Spec PyProof.Rows L2 PV PF T KA KK PP BL FM CK
def cutL (zs : List Str) (lo hi : Option Int) : List Str := (zs.drop (HT.sIx zs.length 0 lo)).take (HT.sIx zs.length zs.length hi - HT.sIx zs.length 0 lo)
theorem cut_map (zs : List Str) (lo hi : Option Int) : cutV (zs.map V.str) lo hi = (cutL zs lo hi).map V.str := by
  unfold cutV cutL
  rw [List.length_map, ← List.map_drop, ← List.map_take]
theorem cut_sub {zs : List Str} {lo hi : Option Int} {z : Str} (h : z ∈ cutL zs lo hi) : z ∈ zs := List.mem_of_mem_drop (List.mem_of_mem_take h)
theorem cut_len (zs : List Str) (lo hi : Option Int) : (cutL zs lo hi).length ≤ zs.length := by
  unfold cutL
  rw [List.length_take, List.length_drop]
  omega
theorem cut_from (zs : List Str) (a b : Nat) (ha : a ≤ b) (hb : b ≤ zs.length) : (cutL zs (some (a : Int)) (some (b : Int))).length = b - a := by
  unfold cutL
  rw [HT.sIx_nat, HT.sIx_nat, List.length_take, List.length_drop]
  omega
theorem cut_to (zs : List Str) (b : Nat) : (cutL zs none (some (b : Int))).length = min b zs.length := by
  unfold cutL
  rw [HT.sIx_nat, HT.sIx_none, List.length_take, List.length_drop]
  omega
/-- what is above a class -/
def abv (v : V) : Prop := ∃ o : Option Str, v = nameV o ∧ aboveOk o
theorem abv_non : abv .non := ⟨none, rfl, trivial⟩
theorem abv_str {z : Str} (h : nameB z = true) : abv (.str z) := ⟨some z, rfl, h⟩
theorem abv_dv {v : V} {H : Hp} (h : abv v) : ∃ o, aboveOk o ∧ Dv H v (optS o) := by
  obtain ⟨o, rfl, ho⟩ := h
  cases o with
  | none => exact ⟨none, ho, .non⟩
  | some z => exact ⟨some z, ho, .str z (name_len ho)⟩
theorem abv_cons {zs : List Str} (h : ∀ z ∈ zs, nameB z = true) {x : V} (hx : x ∈ [V.non] ++ zs.map V.str) : abv x := by
  rcases List.mem_append.mp hx with hx | hx
  · obtain rfl := List.mem_singleton.mp hx
    exact abv_non
  · obtain ⟨z, hz, rfl⟩ := List.mem_map.mp hx
    exact abv_str (h z hz)
theorem abv_conc {zs : List Str} (h : ∀ z ∈ zs, nameB z = true) {x : V} (hx : x ∈ zs.map V.str ++ [V.non]) : abv x := by
  rcases List.mem_append.mp hx with hx | hx
  · obtain ⟨z, hz, rfl⟩ := List.mem_map.mp hx
    exact abv_str (h z hz)
  · obtain rfl := List.mem_singleton.mp hx
    exact abv_non
theorem Kept.at {p L : Addr} {H H' : Hp} {o : HO} (k : Kept p H H') (h : H L = none) : Kept p H (upd H' L o) := fun b u n e => by
  rw [upd_ne (ne_of_none e h)]
  exact k b u n e
theorem feed_at {H : Hp} {p L : Addr} {n : Nat} {o : HO} (hF : FeedAt H p n) (h : L ≠ p) : FeedAt (upd H L o) p n := by
  obtain ⟨x, y, z, e, r⟩ := hF
  exact ⟨x, y, z, by rw [upd_ne h.symm]; exact e, r⟩
/-- the lists that classes are drawn from -/
structure Ev (p P Fd M Sh : Addr) (zs fs ms : List Str) (gs : List Fn) (H : Hp) : Prop where
  pool : strsAt H P zs
  fld : strsAt H Fd fs
  mth : strsAt H M ms
  sh : ∃ xs, H Sh = some (.lst xs) ∧ DvAll H xs (gs.map Fn.py)
  nP : P ≠ p
  nF : Fd ≠ p
  nM : M ≠ p
  nS : Sh ≠ p
theorem Ev.keep {p P Fd M Sh : Addr} {zs fs ms : List Str} {gs : List Fn} {H H' : Hp} {n : Nat} (e : Ev p P Fd M Sh zs fs ms gs H) (k : Kept p H H') (hF : FeedAt H p n) : Ev p P Fd M Sh zs fs ms gs H' := by
  obtain ⟨xs, h1, h2⟩ := e.sh
  exact ⟨e.pool.keep e.nP k, e.fld.keep e.nF k, e.mth.keep e.nM k, ⟨xs, k _ _ e.nS h1, h2.same (k.tups hF)⟩, e.nP, e.nF, e.nM, e.nS⟩
theorem Ev.upd {p P Fd M Sh L : Addr} {zs fs ms : List Str} {gs : List Fn} {H : Hp} {xs ys : List V} (e : Ev p P Fd M Sh zs fs ms gs H) (hL : H L = some (.lst xs)) (h1 : P ≠ L) (h2 : Fd ≠ L) (h3 : M ≠ L) (h4 : Sh ≠ L) : Ev p P Fd M Sh zs fs ms gs (L2.upd H L (.lst ys)) := by
  obtain ⟨us, g1, g2⟩ := e.sh
  refine ⟨⟨by rw [upd_ne h1]; exact e.pool.1, e.pool.2⟩, ⟨by rw [upd_ne h2]; exact e.fld.1, e.fld.2⟩, ⟨by rw [upd_ne h3]; exact e.mth.1, e.mth.2⟩, ⟨us, by rw [upd_ne h4]; exact g1, g2.same fun b zs e => ?_⟩, e.nP, e.nF, e.nM, e.nS⟩
  rw [upd_ne (ne_of e hL (by intro z; cases z))]
  exact e
theorem tup_at {H : Hp} {L : Addr} {xs ys : List V} (hL : H L = some (.lst xs)) : TupSame H (L2.upd H L (.lst ys)) := fun b zs e => by
  rw [upd_ne (ne_of e hL (by intro z; cases z))]
  exact e
variable {K : PySem.W.Frag}
abbrev fr (p P Fd M Sh Cs : Addr) (c mn ch i : Int) (s5 s12 s13 s14 : Option V) : L2.St := [some (.ref p), some (.int c), some (.int mn), some (.int ch), some (.ref P), s5, some (.ref Fd), some (.ref M), some (.ref Sh), none, some (.ref Cs), some (.int i), s12, s13, s14, none, none, none, none]
def cDk (t : TE) : TE := tCall spDk [] E0 (tCons (tVar 0) (tCons t tNil))
theorem ps_as {X : Cx} {st : Stmt} {t : TS} (h : PS X st t) : PS X st t := h
theorem pe_as {X : Cx} {e : Expr} {t : TE} (h : PE X e t) : PE X e t := h
/-- above: the first draw -/
@[irreducible] def tA (K : PySem.W.Frag) : TE := tIf (tTest (tOp rEq (cDk (tC (.int 3))) (tC (.int 0)))) (tC .non) (tCall spOl [] E0 (tCons (tVar 0) (tCons (tSl (rSlL K) (tVar 4) tNoPart (tPart (tCB (fun xs H Q => ∃ i j, xs = [V.int i, V.int j] ∧ Q (V.int (if j > i then j else i)) H) (tCons (tC (.int 1)) (tCons (tVar 2) tNil))))) tNil)))
theorem rd_A {p P Fd M Sh Cs : Addr} {c ch i : Int} {mn m : Nat} {s5 s12 s13 s14 : Option V} {H : Hp} {zs : List Str} (hF : FeedAt H p m) (hm : m + 10 ≤ 2 ^ 60) (hz : strsAt H P zs) (nP : P ≠ p) (h2 : 2 ≤ zs.length) (Q : VK)
    (k : ∀ (v : V) (m1 : Nat) (H1 : Hp), abv v → Kept p H H1 → FeedAt H1 p m1 → m1 ≤ m + 2 → Q v H1) : tA K (fr p P Fd M Sh Cs c mn ch i s5 s12 s13 s14) H Q := by
  unfold tA
  refine ⟨_, rfl, p, 3, m, rfl, hF, by omega, by decide, by decide, fun r H1 r0 r1 k1 F1 => ⟨rfl, _, rfl, ?_⟩⟩
  refine ite2 (fun _ => ?_) (fun _ => ?_)
  · exact k .non _ H1 abv_non k1 F1 (by omega)
  · have hz1 := hz.keep nP k1
    refine ⟨_, rfl, _, rfl, _, rfl, _, _, rfl, _, rfl, P, _, rfl, SqL.of hz1.1, fun T nT => ?_⟩
    have e1 : (if (mn : Int) > 1 then (mn : Int) else 1) = ((max 1 mn : Nat) : Int) := by split <;> omega
    rw [e1, cut_map]
    refine ⟨p, T, _, m + 1, rfl, feed_new F1 nT, by omega, upd_same, feed_ne F1 nT, by rw [List.length_map, cut_to]; omega, ?_, fun x H2 hx k2 F2 => ?_⟩
    · rw [List.length_map, cut_to]
      have := hz.2.2
      exact Nat.lt_of_le_of_lt (by omega : _ ≤ 1000) (by decide)
    · obtain ⟨z, hzm, rfl⟩ := List.mem_map.mp hx
      exact k _ _ H2 (abv_str (hz.2.1 z (cut_sub hzm))) ((k1.trans (Kept.new nT)).trans k2) F2 (by omega)
/-- the list that is drawn from next -/
@[irreducible] def tB2 (K : PySem.W.Frag) : TE := tIf (tTest (tOp rEq (cDk (tC (.int 2))) (tC (.int 0)))) (tOp rCat (tLst (tCons (tC .non) tNil)) (tSl (rSlL K) (tVar 4) tNoPart (tPart (tVar 11))))
  (tOp rCat (tLst (tCons (tC .non) tNil)) (tSl (rSlL K) (tVar 4) (tPart (tOp (rI0 fun i j => V.int (i + j)) (tVar 11) (tC (.int 1)))) (tPart (tVar 2))))
/-- [None] + a slice of the pool -/
theorem cat_non {p P T1 T2 : Addr} {H : Hp} {m : Nat} {zs : List Str} {lo hi : Option Int} {Q : VK} (hF : FeedAt H p m) (hz : strsAt H P zs) (n1 : H T1 = none) (n2 : (upd H T1 (.lst [.non])) T2 = none)
    (k : ∀ (T : Addr) (H1 : Hp), H1 T = some (.lst ([.non] ++ (cutL zs lo hi).map V.str)) → T ≠ p → Kept p H H1 → FeedAt H1 p m → Q (.ref T) H1) : rCat (.ref T1) (.ref T2) (upd (upd H T1 (.lst [.non])) T2 (.lst (cutV (zs.map V.str) lo hi))) Q := by
  have ne : T1 ≠ T2 := ne_of_none upd_same n2
  refine ⟨T1, T2, _, _, rfl, rfl, by rw [upd_ne ne, upd_same], upd_same, ?_, fun T nT => ?_⟩
  · rw [cut_map, List.length_map]
    have := cut_len zs lo hi
    have := hz.2.2
    exact Nat.le_trans (by show 1 + _ ≤ 1001; omega) (by decide)
  · rw [cut_map] at nT ⊢
    have F2 := feed_new (o := .lst ((cutL zs lo hi).map V.str)) (feed_new (o := .lst [.non]) hF n1) n2
    exact k T _ upd_same (feed_ne F2 nT) (((Kept.new n1).trans (Kept.new n2)).trans (Kept.new nT)) (feed_new F2 nT)
theorem rd_B2 {p P Fd M Sh Cs : Addr} {c ch i : Int} {mn m : Nat} {s5 s12 s13 s14 : Option V} {H : Hp} {zs : List Str} (hF : FeedAt H p m) (hm : m + 10 ≤ 2 ^ 60) (hz : strsAt H P zs) (nP : P ≠ p) (Q : VK)
    (k : ∀ (T : Addr) (ys : List V) (H1 : Hp), H1 T = some (.lst ys) → T ≠ p → 0 < ys.length → ys.length ≤ 1001 → (∀ y ∈ ys, abv y) → Kept p H H1 → FeedAt H1 p (m + 1) → Q (.ref T) H1) : tB2 K (fr p P Fd M Sh Cs c mn ch i s5 s12 s13 s14) H Q := by
  unfold tB2
  refine ⟨_, rfl, p, 2, m, rfl, hF, by omega, by decide, by decide, fun r H1 r0 r1 k1 F1 => ⟨rfl, _, rfl, ?_⟩⟩
  have hz1 := hz.keep nP k1
  have len : ∀ lo hi : Option Int, ([V.non] ++ (cutL zs lo hi).map V.str).length ≤ 1001 := fun lo hi => by
    rw [List.length_append, List.length_map]
    have := cut_len zs lo hi
    have := hz.2.2
    show 1 + _ ≤ _
    omega
  refine ite2 (fun _ => ?_) (fun _ => ?_)
  · refine ⟨by show 1 ≤ sizeLine; decide, fun T1 n1 => ⟨_, rfl, _, rfl, _, rfl, P, _, rfl, SqL.of (by rw [upd_ne (ne_of_none hz1.1 n1)]; exact hz1.1), fun T2 n2 => ?_⟩⟩
    exact cat_non F1 hz1 n1 n2 fun T H2 hT nT k2 F2 => k T _ H2 hT nT (by rw [List.length_append]; show 0 < 1 + _; omega) (len _ _) (fun y hy => abv_cons (fun z hzm => hz.2.1 z (cut_sub hzm)) hy) (k1.trans k2) F2
  · refine ⟨by show 1 ≤ sizeLine; decide, fun T1 n1 => ⟨_, rfl, _, rfl, _, _, rfl, rfl, _, rfl, _, rfl, _, rfl, P, _, rfl, SqL.of (by rw [upd_ne (ne_of_none hz1.1 n1)]; exact hz1.1), fun T2 n2 => ?_⟩⟩
    exact cat_non F1 hz1 n1 n2 fun T H2 hT nT k2 F2 => k T _ H2 hT nT (by rw [List.length_append]; show 0 < 1 + _; omega) (len _ _) (fun y hy => abv_cons (fun z hzm => hz.2.1 z (cut_sub hzm)) hy) (k1.trans k2) F2
theorem cat_non2 {p P T1 T2 : Addr} {H : Hp} {m : Nat} {zs : List Str} {lo hi : Option Int} {Q : VK} (hF : FeedAt H p m) (hz : strsAt H P zs) (n1 : H T1 = none) (n2 : (upd H T1 (.lst (cutV (zs.map V.str) lo hi))) T2 = none)
    (k : ∀ (T : Addr) (H1 : Hp), H1 T = some (.lst ((cutL zs lo hi).map V.str ++ [.non])) → T ≠ p → Kept p H H1 → FeedAt H1 p m → Q (.ref T) H1) : rCat (.ref T1) (.ref T2) (upd (upd H T1 (.lst (cutV (zs.map V.str) lo hi))) T2 (.lst [.non])) Q := by
  have ne : T1 ≠ T2 := ne_of_none upd_same n2
  refine ⟨T1, T2, _, _, rfl, rfl, by rw [upd_ne ne, upd_same], upd_same, ?_, fun T nT => ?_⟩
  · rw [cut_map, List.length_map]
    have := cut_len zs lo hi
    have := hz.2.2
    exact Nat.le_trans (by show _ + 1 ≤ 1001; omega) (by decide)
  · have F2 := feed_new (o := .lst [.non]) (feed_new (o := .lst (cutV (zs.map V.str) lo hi)) hF n1) n2
    have kk : Kept p H (upd (upd H T1 (.lst (cutV (zs.map V.str) lo hi))) T2 (.lst [.non])) := (Kept.new n1).trans (Kept.new n2)
    rw [cut_map] at F2 kk nT ⊢
    exact k T _ upd_same (feed_ne F2 nT) (kk.trans (Kept.new nT)) (feed_new F2 nT)
theorem last_at {xs : List V} (h : 0 < xs.length) : ∃ v, atI xs (-1) = some v ∧ v ∈ xs := by
  have e : xs = xs.dropLast ++ [xs.getLast (by intro z; rw [z] at h; cases h)] := (List.dropLast_concat_getLast _).symm
  refine ⟨xs.getLast (by intro z; rw [z] at h; cases h), ?_, List.getLast_mem _⟩
  have := atI_last xs.dropLast (xs.getLast (by intro z; rw [z] at h; cases h))
  rw [← e] at this
  exact this
theorem first_at {xs : List V} (h : 0 < xs.length) : ∃ v, atI xs 0 = some v ∧ v ∈ xs := ⟨xs[0], atI_nat (j := 0) (List.getElem?_eq_getElem h), List.getElem_mem h⟩
abbrev gtI : R2 := rI0 fun i j => V.bl (decide (j < i))
abbrev plI : R2 := rI0 fun i j => V.int (i + j)
@[irreducible] def tB (K : PySem.W.Frag) : TS := tIfS (tTest (tOp gtI (cDk (tVar 1)) (tC (.int 0)))) (tSeq (tAsg (tCall spOl [] E0 (tCons (tVar 0) (tCons (tB2 K) tNil))) (gName 12)) (tIfS (tTest (tOp gtI (tVar 3) (tC (.int 0))))
  (tAsg (tIf (tTest (tOp rEq (tVar 3) (tC (.int 1)))) (tOp (rIxL K) (tOp rCat (tLst (tCons (tC .non) tNil)) (tSl (rSlL K) (tVar 4) tNoPart (tPart (tVar 11)))) (tUn (rU fun i => V.int (-i)) (tC (.int 1))))
    (tOp (rIxL K) (tOp rCat (tSl (rSlL K) (tVar 4) (tPart (tOp plI (tVar 11) (tC (.int 1)))) (tPart (tVar 2))) (tLst (tCons (tC .non) tNil))) (tC (.int 0)))) (gName 12)) tNext)) tNext
theorem rd_B {p P Fd M Sh Cs : Addr} {c ch i : Int} {mn m : Nat} {s5 s13 s14 : Option V} {v0 : V} {H : Hp} {zs : List Str} {D : Ends} (hF : FeedAt H p m) (hm : m + 20 ≤ 2 ^ 60) (hz : strsAt H P zs) (nP : P ≠ p) (c0 : 0 < c) (c1 : c < 2 ^ 30) (h0 : abv v0)
    (k : ∀ (v : V) (m1 : Nat) (H1 : Hp), abv v → Kept p H H1 → FeedAt H1 p m1 → m1 ≤ m + 3 → D.nx (fr p P Fd M Sh Cs c mn ch i s5 (some v) s13 s14) H1) : tB K D (fr p P Fd M Sh Cs c mn ch i s5 (some v0) s13 s14) H := by
  unfold tB
  refine ⟨_, rfl, _, rfl, p, c, m, rfl, hF, by omega, c0, c1, fun r H1 r0 r1 k1 F1 => ⟨_, _, rfl, rfl, _, rfl, ?_⟩⟩
  refine ite2 (fun _ => ?_) (fun _ => ?_)
  · have hz1 := hz.keep nP k1
    refine ⟨_, rfl, rd_B2 F1 (by omega) hz1 nP _ fun T ys H2 hT nT l0 l1 hys k2 F2 => ?_⟩
    refine ⟨p, T, ys, m + 1 + 1, rfl, F2, by omega, hT, nT, l0, Nat.lt_of_le_of_lt l1 (by decide), fun x H3 hx k3 F3 => ?_⟩
    have k13 := (k1.trans k2).trans k3
    have hz3 := hz.keep nP k13
    refine ⟨_, rfl, _, _, rfl, rfl, _, rfl, ?_⟩
    refine ite2 (fun _ => ?_) (fun _ => ?_)
    · refine ⟨_, rfl, rfl, _, rfl, ?_⟩
      refine ite2 (fun _ => ?_) (fun _ => ?_)
      · refine ⟨by show 1 ≤ sizeLine; decide, fun T1 n1 => ⟨_, rfl, _, rfl, _, rfl, P, _, rfl, SqL.of (by rw [upd_ne (ne_of_none hz3.1 n1)]; exact hz3.1), fun T2 n2 => ?_⟩⟩
        refine cat_non F3 hz3 n1 n2 fun T H4 hT nT k4 F4 => ?_
        obtain ⟨v, e1, e2⟩ := last_at (xs := [V.non] ++ (cutL zs none (some i)).map V.str) (by rw [List.length_append]; show 0 < 1 + _; omega)
        refine ⟨_, rfl, T, _, _, v, rfl, rfl, SqL.of hT, e1, ?_⟩
        exact k v _ H4 (abv_cons (fun z hzm => hz.2.1 z (cut_sub hzm)) e2) (k13.trans k4) F4 (by omega)
      · refine ⟨_, rfl, _, rfl, _, _, rfl, rfl, _, rfl, _, rfl, _, rfl, P, _, rfl, SqL.of hz3.1, fun T1 n1 => ⟨by show 1 ≤ sizeLine; decide, fun T2 n2 => ?_⟩⟩
        refine cat_non2 F3 hz3 n1 n2 fun T H4 hT nT k4 F4 => ?_
        obtain ⟨v, e1, e2⟩ := first_at (xs := (cutL zs (some (i + 1)) (some mn)).map V.str ++ [V.non]) (by rw [List.length_append]; show 0 < _ + 1; omega)
        refine ⟨T, _, _, v, rfl, rfl, SqL.of hT, e1, ?_⟩
        exact k v _ H4 (abv_conc (fun z hzm => hz.2.1 z (cut_sub hzm)) e2) (k13.trans k4) F4 (by omega)
    · exact k x _ H3 (hys x hx) k13 F3 (by omega)
  · exact k v0 _ H1 h0 k1 F1 (by omega)
/-- a method of a class: its own, or a shared one -/
@[irreducible] def tEl (K : PySem.W.Frag) : TE := tIf (tTest (tOp rEq (cDk (tVar 1)) (tC (.int 0)))) (tCall spHed [] E0 (tCons (tVar 0) (tCons (tCall spSom [] E0 (tCons (tVar 0) (tCons (tVar 7) (tCons (tVar 5) (tCons (tVar 1) tNil))))) (tCons (tVar 4) (tCons (tVar 1) tNil))))) (tOp (rIxL K) (tVar 8) (tVar 5))
theorem rd_El {p P Fd M Sh Cs : Addr} {c mn ch i : Int} {m j : Nat} {s12 s13 s14 : Option V} {H : Hp} {zs fs ms : List Str} {gs : List Fn} (hF : FeedAt H p m) (hm : m + 100 ≤ 2 ^ 60) (ev : Ev p P Fd M Sh zs fs ms gs H) (h2 : 2 ≤ zs.length) (hj : j < ms.length) (hjg : j < gs.length) (hg : ∀ g ∈ gs, fnOk g ∧ g.body = WB) (c0 : 0 < c) (c1 : c < 2 ^ 30) (Q : VK)
    (k : ∀ (v : V) (f : Fn) (m1 : Nat) (H1 : Hp), Dv H1 v f.py → fnOk f → f.body = WB → Kept p H H1 → FeedAt H1 p m1 → m1 ≤ m + 90 → Q v H1) : tEl K (fr p P Fd M Sh Cs c mn ch i (some (.int j)) s12 s13 s14) H Q := by
  unfold tEl
  refine ⟨_, rfl, _, rfl, p, c, m, rfl, hF, by omega, c0, c1, fun r H1 r0 r1 k1 F1 => ⟨rfl, _, rfl, ?_⟩⟩
  have ev1 := ev.keep k1 hF
  refine ite2 (fun _ => ?_) (fun _ => ?_)
  · refine ⟨_, rfl, _, rfl, _, rfl, _, rfl, _, rfl, p, M, _, j, m + 1, c, rfl, F1, by omega, ev1.mth.1, ev1.nM, by rw [List.length_map]; exact hj, by rw [List.length_map]; exact Nat.lt_of_lt_of_le ev1.mth.2.2 (by decide), c0, c1, fun x m2 H2 hx k2 F2 hm2 => ?_⟩
    obtain ⟨z, hzm, rfl⟩ := List.mem_map.mp hx
    have ev2 := ev1.keep k2 F1
    refine ⟨_, rfl, _, rfl, p, P, z, zs, m2, c, rfl, F2, by omega, ev2.pool, ev2.nP, h2, ev2.mth.2.1 z hzm, c0, c1, fun a f m3 H3 hd ho hb k3 F3 hm3 => ?_⟩
    exact k _ f _ H3 hd ho hb ((k1.trans k2).trans k3) F3 (by omega)
  · obtain ⟨xs, g1, g2⟩ := ev1.sh
    obtain ⟨v, e1, e2⟩ := g2.get (i := j) (d := gs[j].py) (by rw [List.getElem?_map, List.getElem?_eq_getElem hjg]; rfl)
    exact ⟨_, rfl, _, rfl, Sh, xs, j, v, rfl, rfl, SqL.of g1, atI_nat e1, k v gs[j] _ H1 e2 (hg _ (List.getElem_mem hjg)).1 (hg _ (List.getElem_mem hjg)).2 k1 F1 (by omega)⟩
end LN

/-! A class of the law's program. -/
namespace LN
open PySem PySem.Spec PyProof.Rows L2 PV PF T KA KK PP BL FM CK
variable {K : PySem.W.Frag}
def rTup (K : PySem.W.Frag) : List V → Hp → VK → Prop := fun xs H Q => ∃ p ys, xs = [V.ref p] ∧ ((SqL K H p ys ∧ ∀ l, H l = none → Q (.ref l) (upd H l (.tup ys))) ∨ (SqT K H p ys ∧ Q (.ref p) H))
@[irreducible] def tTurn (K : PySem.W.Frag) : TS := tSeq (tAsg (tA K) (gName 12)) (tSeq (tB K)
  (tSeq (tAsg (tCall spPrs [] E0 (tCons (tVar 0) (tCons (tOp rCat (tSl (rSlL K) (tVar 6) (tPart (tOp (rI CMul fun i j => V.int (i * j)) (tC (.int 3)) (tVar 11))) (tPart (tOp plI (tOp (rI CMul fun i j => V.int (i * j)) (tC (.int 3)) (tVar 11)) (tC (.int 3)))))
      (tSl (rSlL K) (tVar 6) tNoPart (tPart (tC (.int 1))))) (tCons (tVar 4) (tCons (cDk (tC (.int 4))) (tCons (tVar 1) tNil)))))) (gName 13))
  (tSeq (tAsg (tLst tNil) (gName 14))
  (tSeq (tFor (iRng1 (tCons (cDk (tC (.int 3))) tNil)) (gName 5) (tDrop (tBM K "list" rAppend (tVar 14) (tCons (tEl K) tNil))))
  (tDrop (tBM K "list" rAppend (tVar 10) (tCons (tTup (tCons (tCall spSom [] E0 (tCons (tVar 0) (tCons (tVar 4) (tCons (tVar 11) (tCons (tVar 1) tNil))))) (tCons (tVar 12) (tCons (tVar 13) (tCons (tCB (rTup K) (tCons (tVar 14) tNil)) tNil))))) tNil)))))))
theorem cl_mk {nm : Str} {o : Option Str} {ps : List (Str × Kd)} {gs : List Fn} (h1 : nameB nm = true) (h2 : aboveOk o) (h3 : ps.length ≤ 8) (h4 : ∀ q ∈ ps, nameB q.1 = true ∧ kindOk q.2 3 = true) (h5 : gs.length ≤ 2) (h6 : ∀ g ∈ gs, fnOk g ∧ g.body = WB) : clOk ⟨nm, o, ps, gs⟩ :=
  ⟨h1, h2, ⟨h3, h4⟩, by show gs.length ≤ 8; omega, fun g hg => (h6 g hg).1⟩
theorem rd_Turn {p P Fd M Sh Cs : Addr} {c ch : Int} {mn i m : Nat} {s5 s12 s13 s14 : Option V} {H : Hp} {zs fs ms : List Str} {gs : List Fn} {acc : List V} {cs : List Cl} {D : Ends} (hF : FeedAt H p m) (hm : m + 400 ≤ 2 ^ 60) (ev : Ev p P Fd M Sh zs fs ms gs H) (h2 : zs.length = mn + 2) (hfl : fs.length = 3 * mn + 1) (hml : ms.length = 3) (hgl : gs.length = 3) (hi : i < mn) (hmn : mn ≤ 12)
    (hg : ∀ g ∈ gs, fnOk g ∧ g.body = WB) (c0 : 0 < c) (c1 : c < 2 ^ 30) (hC : H Cs = some (.lst acc)) (nC : Cs ≠ p) (n1 : P ≠ Cs) (n2 : Fd ≠ Cs) (n3 : M ≠ Cs) (n4 : Sh ≠ Cs) (hd : DvAll H acc (cs.map Cl.py)) (hal : acc.length ≤ 12)
    (k : ∀ (v : V) (cl : Cl) (m1 : Nat) (H1 : Hp) (t5 t12 t13 t14 : Option V), clOk cl → cl.methods.length ≤ 2 → (∀ f ∈ cl.methods, f.body = WB) → H1 Cs = some (.lst (acc ++ [v])) → DvAll H1 (acc ++ [v]) ((cs ++ [cl]).map Cl.py) → Ev p P Fd M Sh zs fs ms gs H1 → (∀ b o, b ≠ p → b ≠ Cs → H b = some o → H1 b = some o) → FeedAt H1 p m1 → m1 ≤ m + 400 → D.nx (fr p P Fd M Sh Cs c mn ch i t5 t12 t13 t14) H1) :
    tTurn K D (fr p P Fd M Sh Cs c mn ch i s5 s12 s13 s14) H := by
  unfold tTurn
  refine rd_A (K := K) hF (by omega) ev.pool ev.nP (by omega) _ fun v0 m1 H1 h0 k1 F1 hm1 => ?_
  have ev1 := ev.keep k1 hF
  refine rd_B (K := K) F1 (by omega) ev1.pool ev1.nP c0 c1 h0 fun v m2 H2 hv k2 F2 hm2 => ?_
  have ev2 := ev1.keep k2 F1
  have k12 := k1.trans k2
  -- rows
  refine ⟨_, rfl, _, rfl, _, rfl, _, _, rfl, rfl, .inl ⟨by decide, by decide⟩, _, rfl, _, rfl, _, _, rfl, rfl, .inl ⟨by decide, by decide⟩, _, _, rfl, rfl, _, rfl, Fd, _, rfl, SqL.of ev2.fld.1, fun T1 w1 => ?_⟩
  have g1 : (upd H2 T1 (.lst (cutV (fs.map V.str) (some (3 * (i : Int))) (some (3 * (i : Int) + 3))))) Fd = some (.lst (fs.map V.str)) := by rw [upd_ne (ne_of_none ev2.fld.1 w1)]; exact ev2.fld.1
  refine ⟨_, rfl, _, rfl, Fd, _, rfl, SqL.of g1, fun T2 w2 => ?_⟩
  have F2' := feed_new (o := .lst (cutV (fs.map V.str) none (some 1))) (feed_new (o := .lst (cutV (fs.map V.str) (some (3 * (i : Int))) (some (3 * (i : Int) + 3)))) F2 w1) w2
  have kk2 : Kept p H2 (upd (upd H2 T1 (.lst (cutV (fs.map V.str) (some (3 * (i : Int))) (some (3 * (i : Int) + 3))))) T2 (.lst (cutV (fs.map V.str) none (some 1)))) := (Kept.new w1).trans (Kept.new w2)
  have ne : T1 ≠ T2 := ne_of_none upd_same w2
  have a1 : (upd (upd H2 T1 (.lst (cutV (fs.map V.str) (some (3 * (i : Int))) (some (3 * (i : Int) + 3))))) T2 (.lst (cutV (fs.map V.str) none (some 1)))) T1 = some (.lst (cutV (fs.map V.str) (some (3 * (i : Int))) (some (3 * (i : Int) + 3)))) := by rw [upd_ne ne, upd_same]
  have a2 : (upd (upd H2 T1 (.lst (cutV (fs.map V.str) (some (3 * (i : Int))) (some (3 * (i : Int) + 3))))) T2 (.lst (cutV (fs.map V.str) none (some 1)))) T2 = some (.lst (cutV (fs.map V.str) none (some 1))) := upd_same
  generalize upd (upd H2 T1 (.lst (cutV (fs.map V.str) (some (3 * (i : Int))) (some (3 * (i : Int) + 3))))) T2 (.lst (cutV (fs.map V.str) none (some 1))) = H3 at F2' kk2 a1 a2
  have l3 : (cutL fs (some (3 * (i : Int))) (some (3 * (i : Int) + 3))).length = 3 := by
    have := cut_from fs (3 * i) (3 * i + 3) (by omega) (by omega)
    have e1 : ((3 * i : Nat) : Int) = 3 * (i : Int) := by omega
    have e2 : ((3 * i + 3 : Nat) : Int) = 3 * (i : Int) + 3 := by omega
    rw [e1, e2] at this
    omega
  rw [cut_map] at a1 a2
  have l4 := cut_len fs none (some 1)
  have hfl3 := ev2.fld.2.2
  refine ⟨T1, T2, _, _, rfl, rfl, a1, a2, ?_, fun T3 w3 => ?_⟩
  · rw [List.length_map, List.length_map]
    exact Nat.le_trans (by omega : _ ≤ 1003) (by decide)
  have sN : strsAt (upd H3 T3 (.lst ((cutL fs (some (3 * (i : Int))) (some (3 * (i : Int) + 3))).map V.str ++ (cutL fs none (some 1)).map V.str))) T3 (cutL fs (some (3 * (i : Int))) (some (3 * (i : Int) + 3)) ++ cutL fs none (some 1)) := by
    refine ⟨by rw [upd_same, List.map_append], fun z hz => ?_, ?_⟩
    · rcases List.mem_append.mp hz with hz | hz <;> exact ev2.fld.2.1 z (cut_sub hz)
    · rw [List.length_append, l3]
      omega
  have F3 := feed_new (o := .lst ((cutL fs (some (3 * (i : Int))) (some (3 * (i : Int) + 3))).map V.str ++ (cutL fs none (some 1)).map V.str)) F2' w3
  have nT3 : T3 ≠ p := feed_ne F2' w3
  have k3 : Kept p H3 (upd H3 T3 (.lst ((cutL fs (some (3 * (i : Int))) (some (3 * (i : Int) + 3))).map V.str ++ (cutL fs none (some 1)).map V.str))) := Kept.new w3
  generalize upd H3 T3 (.lst ((cutL fs (some (3 * (i : Int))) (some (3 * (i : Int) + 3))).map V.str ++ (cutL fs none (some 1)).map V.str)) = H4 at sN F3 k3
  have ev4 := ev2.keep (kk2.trans k3) F2
  refine ⟨_, rfl, _, rfl, p, 4, m2, rfl, F3, by omega, by decide, by decide, fun r H5 r0 r1 k5 F5 => ?_⟩
  obtain ⟨nr, rfl⟩ := Int.eq_ofNat_of_zero_le r0
  have ev5 := ev4.keep k5 F3
  refine ⟨_, rfl, p, T3, P, _, zs, nr, m2 + 1, c, rfl, F5, by omega, sN.keep nT3 k5, nT3, ev5.pool, ev5.nP, by omega, by rw [List.length_append, l3]; omega, by omega, c0, c1, fun a ps m6 H6 hdp hpl hps k6 F6 hm6 => ?_⟩
  have ev6 := ev5.keep k6 F5
  have k06 : Kept p H H6 := (((k12.trans kk2).trans k3).trans k5).trans k6
  have hd6 := hd.same (k06.tups hF)
  have hC6 := k06 _ _ nC hC
  -- own
  refine ⟨Nat.zero_le _, fun O wO => ?_⟩
  have nO : O ≠ p := feed_ne F6 wO
  have nCO : Cs ≠ O := ne_of_none hC6 wO
  refine ⟨_, rfl, p, 3, m6, rfl, feed_new F6 wO, by omega, by decide, by decide, fun r2 H8 r20 r21 k8 F8 => ?_⟩
  obtain ⟨nq, rfl⟩ := Int.eq_ofNat_of_zero_le r20
  have kO : Kept p H6 H8 := (Kept.new wO).trans k8
  refine ⟨_, rfl, by omega, by omega, ?_⟩
  refine for_range (lo := 0) (n := ((nq : Nat) : Int).toNat) (fun j σ H' => ∃ (own : List V) (os : List Fn) (m9 : Nat) (t5 : Option V), σ = fr p P Fd M Sh Cs c mn ch i t5 (some v) (some (.ref a)) (some (.ref O)) ∧ H' O = some (.lst own) ∧ DvAll H' own (os.map Fn.py) ∧ os.length = j ∧ (∀ g ∈ os, fnOk g ∧ g.body = WB) ∧ Kept p H6 H' ∧ FeedAt H' p m9 ∧ m9 ≤ m6 + 1 + 90 * j)
    ⟨[], [], m6 + 1, s5, rfl, k8 _ _ nO upd_same, .nil, rfl, (fun g hg => by cases hg), kO, F8, by omega⟩ ?_ ?_
  · rintro j σ H9 hj ⟨own, os, m9, t5, rfl, hO, hdo, hol, hos, k9, F9, hm9⟩
    rw [Int.zero_add]
    refine ⟨_, rfl, .inl ⟨rfl, _, SqL.of hO⟩, ?_⟩
    refine rd_El (K := K) F9 (by omega) (ev6.keep k9 F6) (by omega) (by omega) (by omega) hg c0 c1 _ fun x f m10 H10 hx hfo hfb k10 F10 hm10 => ?_
    have hO10 := k10 _ _ nO hO
    have hdo10 := hdo.same (k10.tups F9)
    have hol' : own.length = j := by
      have := hdo.len
      rw [List.length_map] at this
      omega
    refine ⟨O, own, x, rfl, rfl, hO10, Nat.lt_of_le_of_lt (by omega : own.length ≤ 3) (by decide), ?_⟩
    refine ⟨own ++ [x], os ++ [f], m10, _, rfl, upd_same, ?_, by simp [hol], ?_, Kept.at (k9.trans k10) wO, feed_at F10 nO, by omega⟩
    · rw [List.map_append]
      exact (hdo10.same (tup_at hO10)).app (.cons (hx.same (tup_at hO10)) .nil)
    · intro g hg'
      rcases List.mem_append.mp hg' with hg' | hg'
      · exact hos g hg'
      · obtain rfl := List.mem_singleton.mp hg'
        exact ⟨hfo, hfb⟩
  · rintro σ H9 ⟨own, os, m9, t5, rfl, hO, hdo, hol, hos, k9, F9, hm9⟩
    have ev9 := ev6.keep k9 F6
    have hC9 := k9 _ _ nC hC6
    refine ⟨_, rfl, .inl ⟨rfl, _, SqL.of hC9⟩, ?_⟩
    refine ⟨_, rfl, _, rfl, _, rfl, _, rfl, p, P, _, i, m9, c, rfl, F9, by omega, ev9.pool.1, ev9.nP, by rw [List.length_map]; omega, by rw [List.length_map]; exact Nat.lt_of_lt_of_le ev9.pool.2.2 (by decide), c0, c1, fun x m10 H10 hx k10 F10 hm10 => ?_⟩
    obtain ⟨nm, hnm, rfl⟩ := List.mem_map.mp hx
    have hO10 := k10 _ _ nO hO
    have hC10 := k10 _ _ nC hC9
    refine ⟨_, rfl, _, rfl, _, rfl, O, own, rfl, .inl ⟨SqL.of hO10, fun t1 w1 => ?_⟩⟩
    refine ⟨by show 4 ≤ sizeLine; decide, fun t2 w2 => ?_⟩
    have F11 := feed_new (o := .tup own) F10 w1
    have F12 := feed_new (o := .tup [.str nm, v, .ref a, .ref t1]) F11 w2
    have hC12 : (upd (upd H10 t1 (.tup own)) t2 (.tup [.str nm, v, .ref a, .ref t1])) Cs = some (.lst acc) := by
      rw [upd_ne (ne_of_none (by rw [upd_ne (ne_of_none hC10 w1)]; exact hC10) w2), upd_ne (ne_of_none hC10 w1)]
      exact hC10
    have nw1 : TupSame H10 (upd H10 t1 (.tup own)) := fun b xs e => by rw [upd_ne (ne_of_none e w1)]; exact e
    have nw2 : TupSame (upd H10 t1 (.tup own)) (upd (upd H10 t1 (.tup own)) t2 (.tup [.str nm, v, .ref a, .ref t1])) := fun b xs e => by rw [upd_ne (ne_of_none e w2)]; exact e
    obtain ⟨o, ho, hdv⟩ := abv_dv (H := upd (upd H10 t1 (.tup own)) t2 (.tup [.str nm, v, .ref a, .ref t1])) hv
    have hownl : own.length ≤ 1000 := by
      have := hdo.len
      rw [List.length_map] at this
      omega
    have d1 : Dv (upd H10 t1 (.tup own)) (.ref t1) (.tuple (os.map Fn.py)) := .tup upd_same hownl ((hdo.same (k10.tups F9)).same nw1)
    have d2 := ((hdp.same (k9.tups F6)).same (k10.tups F9)).same nw1
    have dc : Dv (upd (upd H10 t1 (.tup own)) t2 (.tup [.str nm, v, .ref a, .ref t1])) (.ref t2) (⟨nm, o, ps, os⟩ : Cl).py :=
      .tup upd_same (by show 4 ≤ 1000; decide) (.cons (.str _ (name_len (ev9.pool.2.1 nm hnm))) (.cons hdv (.cons (d2.same nw2) (.cons (d1.same nw2) .nil))))
    have da : DvAll (upd (upd H10 t1 (.tup own)) t2 (.tup [.str nm, v, .ref a, .ref t1])) acc (cs.map Cl.py) := (((hd6.same (k9.tups F6)).same (k10.tups F9)).same nw1).same nw2
    have kz : Kept p H9 (upd (upd H10 t1 (.tup own)) t2 (.tup [.str nm, v, .ref a, .ref t1])) := (k10.trans (Kept.new w1)).trans (Kept.new w2)
    have ev12 := ev9.keep kz F9
    generalize upd (upd H10 t1 (.tup own)) t2 (.tup [.str nm, v, .ref a, .ref t1]) = H12 at F12 hC12 dc da kz ev12
    refine ⟨Cs, acc, _, rfl, rfl, hC12, Nat.lt_of_le_of_lt hal (by decide), ?_⟩
    refine k (.ref t2) ⟨nm, o, ps, os⟩ m10 _ _ _ _ _ (cl_mk (ev9.pool.2.1 nm hnm) ho (by omega) hps (by omega) hos) (by show os.length ≤ 2; omega) (fun f hf => (hos f hf).2) upd_same ?_ (ev12.upd hC12 n1 n2 n3 n4) (fun b o hb1 hb2 e => ?_) (feed_at F12 nC) (by omega)
    · rw [List.map_append]
      exact (da.same (tup_at hC12)).app (.cons (dc.same (tup_at hC12)) .nil)
    · rw [upd_ne hb2]
      exact kz _ _ hb1 (k9 _ _ hb1 (k06 _ _ hb1 e))
end LN

/-! The law's main. -/
namespace LN
open PySem PySem.Spec PyProof.Rows L2 PV PF T KA KK PP BL FM CK
variable {K : PySem.W.Frag}
abbrev fr2 (p P Fd M Sh Cs : Addr) (c mn ch : Int) (s5 s11 s12 s13 s14 s15 s16 s17 s18 : Option V) : L2.St := [some (.ref p), some (.int c), some (.int mn), some (.int ch), some (.ref P), s5, some (.ref Fd), some (.ref M), some (.ref Sh), none, some (.ref Cs), s11, s12, s13, s14, s15, s16, s17, s18]
@[irreducible] def tRs : TE := tIf (tTest (tOp gtI (cDk (tVar 1)) (tC (.int 0)))) (tC .non) (tC (.str "int"))
theorem rd_Rs {p : Addr} {c : Int} {m : Nat} {σ : L2.St} {H : Hp} (h0 : σ[0]? = some (some (.ref p))) (h1 : σ[1]? = some (some (.int c))) (hF : FeedAt H p m) (hm : m + 10 ≤ 2 ^ 60) (c0 : 0 < c) (c1 : c < 2 ^ 30) (Q : VK)
    (k : ∀ (v : V) (o : Option Kd) (H1 : Hp), (∀ H, Dv H v (optK o)) → resOk o → Kept p H H1 → FeedAt H1 p (m + 1) → Q v H1) : tRs σ H Q := by
  unfold tRs
  refine ⟨_, h0, _, h1, p, c, m, rfl, hF, by omega, c0, c1, fun r H1 r0 r1 k1 F1 => ⟨_, _, rfl, rfl, _, rfl, ?_⟩⟩
  refine ite2 (fun _ => ?_) (fun _ => ?_)
  · exact k .non none H1 (fun _ => .non) trivial k1 F1
  · exact k (.str "int") (some .int) H1 (fun _ => .str _ (by decide +kernel)) rfl k1 F1
@[irreducible] def tMp : TE := tIf (tTest (tOp gtI (cDk (tVar 1)) (tC (.int 0)))) (tTup tNil) (tTup (tCons (tTup (tCons (tC (.str "p")) (tCons (tC (.str "int")) tNil))) tNil))
theorem rd_Mp {p : Addr} {c : Int} {m : Nat} {σ : L2.St} {H : Hp} (h0 : σ[0]? = some (some (.ref p))) (h1 : σ[1]? = some (some (.int c))) (hF : FeedAt H p m) (hm : m + 10 ≤ 2 ^ 60) (c0 : 0 < c) (c1 : c < 2 ^ 30) (Q : VK)
    (k : ∀ (v : V) (ps : List (Str × Kd)) (H1 : Hp), Dv H1 v (.tuple (ps.map pair)) → nkOk ps 6 → Kept p H H1 → FeedAt H1 p (m + 1) → Q v H1) : tMp σ H Q := by
  unfold tMp
  refine ⟨_, h0, _, h1, p, c, m, rfl, hF, by omega, c0, c1, fun r H1 r0 r1 k1 F1 => ⟨_, _, rfl, rfl, _, rfl, ?_⟩⟩
  refine ite2 (fun _ => ?_) (fun _ => ?_)
  · refine ⟨Nat.zero_le _, fun t nt => ?_⟩
    exact k (.ref t) [] _ (.tup upd_same (Nat.zero_le _) .nil) ⟨by decide, fun q hq => by cases hq⟩ (k1.trans (Kept.new nt)) (feed_new F1 nt)
  · refine ⟨by show 2 ≤ sizeLine; decide, fun t nt => ⟨by show 1 ≤ sizeLine; decide, fun t2 n2 => ?_⟩⟩
    refine k (.ref t2) [("p", .int)] _ (.tup upd_same (by show 1 ≤ 1000; decide) (.cons (.tup (xs := [.str "p", .str "int"]) ?_ (by show 2 ≤ 1000; decide) (.cons (.str _ (by decide +kernel)) (.cons (.str _ (by decide +kernel)) .nil))) .nil)) ⟨by decide, by decide +kernel⟩ ((k1.trans (Kept.new nt)).trans (Kept.new n2)) (feed_new (feed_new F1 nt) n2)
    rw [upd_ne (ne_of_none upd_same n2), upd_same]
def tBody : TE := tTup (tCons (tTup (tCons (tC (.str "while")) (tCons (tTup (tCons (tC (.str "truth")) (tCons (tC (.bl true)) tNil))) (tCons (tTup tNil) tNil)))) tNil)
theorem rd_Body {p : Addr} {m : Nat} {σ : L2.St} {H : Hp} (hF : FeedAt H p m) (Q : VK) (k : ∀ (t4 : Addr) (H1 : Hp), Dv H1 (.ref t4) (.tuple WB.py) → Kept p H H1 → FeedAt H1 p m → Q (.ref t4) H1) : tBody σ H Q := by
  refine ⟨by show 2 ≤ sizeLine; decide, fun t1 n1 => ⟨Nat.zero_le _, fun t2 n2 => ⟨by show 3 ≤ sizeLine; decide, fun t3 n3 => ⟨by show 1 ≤ sizeLine; decide, fun t4 n4 => ?_⟩⟩⟩⟩
  have new : ∀ {H1 : Hp} {t : Addr} {o : HO}, H1 t = none → TupSame H1 (upd H1 t o) := fun n b xs e => by rw [upd_ne (ne_of_none e n)]; exact e
  have w1 : Dv (upd H t1 (.tup [.str "truth", .bl true])) (.ref t1) (Ex.truth true).py := .tup upd_same (by show 2 ≤ 1000; decide) (.cons (.str _ (by decide +kernel)) (.cons (.bl _) .nil))
  have w1' := w1.same (new (o := .tup []) n2)
  have w2 : Dv (upd (upd H t1 (.tup [.str "truth", .bl true])) t2 (.tup [])) (.ref t2) (.tuple []) := .tup upd_same (Nat.zero_le _) .nil
  have w3 : Dv (upd (upd (upd H t1 (.tup [.str "truth", .bl true])) t2 (.tup [])) t3 (.tup [.str "while", .ref t1, .ref t2])) (.ref t3) wst := .tup upd_same (by show 3 ≤ 1000; decide) (.cons (.str _ (by decide +kernel)) (.cons (w1'.same (new n3)) (.cons (w2.same (new n3)) .nil)))
  exact k t4 _ (.tup upd_same (by show 1 ≤ 1000; decide) (.cons (w3.same (new n4)) .nil)) (((((Kept.new n1).trans (Kept.new n2)).trans (Kept.new n3)).trans (Kept.new n4))) (feed_new (feed_new (feed_new (feed_new hF n1) n2) n3) n4)
theorem cutV_take (xs : List V) (a : Nat) (h : a ≤ xs.length) : cutV xs none (some (a : Int)) = xs.take a := by
  unfold cutV
  rw [HT.sIx_nat, HT.sIx_none, Nat.min_eq_left h]
  rfl
theorem cutV_drop (xs : List V) (a : Nat) (h : a ≤ xs.length) : cutV xs (some (a : Int)) none = xs.drop a := by
  unfold cutV
  rw [HT.sIx_nat, HT.sIx_none, Nat.min_eq_left h, List.take_of_length_le (by rw [List.length_drop]; omega)]
theorem all_take {H : Hp} : ∀ {vs : List V} {ds : List PyData} (n : Nat), DvAll H vs ds → DvAll H (vs.take n) (ds.take n)
  | _, _, 0, _ => .nil
  | _, _, _ + 1, .nil => .nil
  | _, _, n + 1, .cons h r => .cons h (all_take n r)
theorem all_drop {H : Hp} : ∀ {vs : List V} {ds : List PyData} (n : Nat), DvAll H vs ds → DvAll H (vs.drop n) (ds.drop n)
  | _, _, 0, h => h
  | _, _, _ + 1, .nil => .nil
  | _, _, n + 1, .cons h r => all_drop n r
@[irreducible] def tG (K : PySem.W.Frag) : TS := tIfS (tTest (tOp gtI (cDk (tVar 1)) (tC (.int 0)))) (tSeq (tAsg (cDk (tOp plI (tCB (fun xs H Q => ∃ p ys, xs = [V.ref p] ∧ (SqL K H p ys ∨ SqT K H p ys) ∧ Q (V.int ys.length) H) (tCons (tVar 15) tNil)) (tC (.int 1)))) (gName 16))
  (tSeq (tAsg tRs (gName 17)) (tSeq (tAsg (tTup (tCons (tC (.str "main")) (tCons tMp (tCons (tVar 17) (tCons tBody tNil))))) (gName 18))
  (tAsg (tOp rCat (tOp rCat (tSl (rSlL K) (tVar 15) tNoPart (tPart (tVar 16))) (tLst (tCons (tVar 18) tNil))) (tSl (rSlL K) (tVar 15) (tPart (tVar 16)) tNoPart)) (gName 15))))) tNext
theorem rd_G {p P Fd M Sh Cs Fu : Addr} {c mn ch : Int} {m : Nat} {s5 s11 s12 s13 s14 s16 s17 s18 : Option V} {H : Hp} {xs : List V} {gs : List Fn} {D : Ends} (hF : FeedAt H p m) (hm : m + 20 ≤ 2 ^ 60) (c0 : 0 < c) (c1 : c < 2 ^ 30) (hX : H Fu = some (.lst xs)) (nF : Fu ≠ p) (hd : DvAll H xs (gs.map Fn.py)) (hl : gs.length ≤ 4) (hg : ∀ g ∈ gs, fnOk g ∧ g.body = WB)
    (k : ∀ (Fu' : Addr) (ys : List V) (gs' : List Fn) (t16 t17 t18 : Option V) (H1 : Hp), H1 Fu' = some (.lst ys) → DvAll H1 ys (gs'.map Fn.py) → gs'.length ≤ 5 → (∀ g ∈ gs', fnOk g ∧ g.body = WB) → Kept p H H1 → D.nx (fr2 p P Fd M Sh Cs c mn ch s5 s11 s12 s13 s14 (some (.ref Fu')) t16 t17 t18) H1) :
    tG K D (fr2 p P Fd M Sh Cs c mn ch s5 s11 s12 s13 s14 (some (.ref Fu)) s16 s17 s18) H := by
  have hxl : xs.length = gs.length := by rw [hd.len, List.length_map]
  unfold tG
  refine ⟨_, rfl, _, rfl, p, c, m, rfl, hF, by omega, c0, c1, fun r H1 r0 r1 k1 F1 => ⟨_, _, rfl, rfl, _, rfl, ?_⟩⟩
  have hX1 := k1 _ _ nF hX
  have hd1 := hd.same (k1.tups hF)
  refine ite2 (fun _ => ?_) (fun _ => ?_)
  · refine ⟨_, rfl, _, rfl, Fu, xs, rfl, .inl (SqL.of hX1), _, _, rfl, rfl, p, _, m + 1, rfl, F1, by omega, by omega, by omega, fun at' H2 a0 a1 k2 F2 => ?_⟩
    obtain ⟨an, rfl⟩ := Int.eq_ofNat_of_zero_le a0
    have han : an ≤ xs.length := by omega
    refine rd_Rs (p := p) (c := c) rfl rfl F2 (by omega) c0 c1 _ fun rv ro H3 hrv hro k3 F3 => ?_
    refine rd_Mp (p := p) (c := c) rfl rfl F3 (by omega) c0 c1 _ fun pv' ps H4 hpv hps k4 F4 => ?_
    refine ⟨_, rfl, rd_Body F4 _ fun t4 H5 hb k5 F5 => ?_⟩
    refine ⟨by show 4 ≤ sizeLine; decide, fun t6 n6 => ?_⟩
    have F6 := feed_new (o := .tup [.str "main", pv', rv, .ref t4]) F5 n6
    have nw : TupSame H5 (upd H5 t6 (.tup [.str "main", pv', rv, .ref t4])) := fun b xs e => by rw [upd_ne (ne_of_none e n6)]; exact e
    have dm : Dv (upd H5 t6 (.tup [.str "main", pv', rv, .ref t4])) (.ref t6) (⟨"main", ps, ro, WB⟩ : Fn).py := .tup upd_same (by show 4 ≤ 1000; decide) (.cons (.str _ (by decide +kernel)) (.cons ((hpv.same (k5.tups F4)).same nw) (.cons (hrv _) (.cons (hb.same nw) .nil))))
    have om : fnOk ⟨"main", ps, ro, WB⟩ := ⟨by show nameB "main" = true; decide +kernel, hps, hro, WB_ok _ hps.1⟩
    have k26 := (((k2.trans k3).trans k4).trans k5).trans (Kept.new (o := .tup [.str "main", pv', rv, .ref t4]) n6)
    have hX6 := k26 _ _ nF hX1
    have hd6 := hd1.same (k26.tups F1)
    generalize upd H5 t6 (.tup [.str "main", pv', rv, .ref t4]) = H6 at F6 dm k26 hX6 hd6
    refine ⟨_, rfl, _, rfl, _, rfl, Fu, xs, rfl, SqL.of hX6, fun T1 w1 => ?_⟩
    rw [cutV_take xs an han]
    refine ⟨_, rfl, by show 1 ≤ sizeLine; decide, fun T2 w2 => ?_⟩
    have ne12 : T1 ≠ T2 := ne_of_none upd_same w2
    refine ⟨T1, T2, xs.take an, [.ref t6], rfl, rfl, by rw [upd_ne ne12, upd_same], upd_same, ?_, fun T3 w3 => ?_⟩
    · rw [List.length_take]
      exact Nat.le_trans (by show min an xs.length + 1 ≤ 10; omega) (by decide)
    have F9 := feed_new (o := .lst (xs.take an ++ [.ref t6])) (feed_new (o := .lst [.ref t6]) (feed_new (o := .lst (xs.take an)) F6 w1) w2) w3
    have k9 : Kept p H6 (upd (upd (upd H6 T1 (.lst (xs.take an))) T2 (.lst [.ref t6])) T3 (.lst (xs.take an ++ [.ref t6]))) := ((Kept.new w1).trans (Kept.new w2)).trans (Kept.new w3)
    have hX9 := k9 _ _ nF hX6
    have e9 : (upd (upd (upd H6 T1 (.lst (xs.take an))) T2 (.lst [.ref t6])) T3 (.lst (xs.take an ++ [.ref t6]))) T3 = some (.lst (xs.take an ++ [.ref t6])) := upd_same
    have s9 : TupSame H6 (upd (upd (upd H6 T1 (.lst (xs.take an))) T2 (.lst [.ref t6])) T3 (.lst (xs.take an ++ [.ref t6]))) := k9.tups F6
    generalize upd (upd (upd H6 T1 (.lst (xs.take an))) T2 (.lst [.ref t6])) T3 (.lst (xs.take an ++ [.ref t6])) = H9 at F9 k9 hX9 e9 s9
    refine ⟨_, rfl, _, rfl, _, rfl, Fu, xs, rfl, SqL.of hX9, fun T4 w4 => ?_⟩
    rw [cutV_drop xs an han]
    have ne34 : T3 ≠ T4 := ne_of_none e9 w4
    refine ⟨T3, T4, xs.take an ++ [.ref t6], xs.drop an, rfl, rfl, by rw [upd_ne ne34]; exact e9, upd_same, ?_, fun T5 w5 => ?_⟩
    · rw [List.length_append, List.length_take, List.length_drop]
      exact Nat.le_trans (by show min an xs.length + 1 + _ ≤ 20; omega) (by decide)
    have nw4 : TupSame H9 (upd (upd H9 T4 (.lst (xs.drop an))) T5 (.lst (xs.take an ++ [.ref t6] ++ xs.drop an))) := ((Kept.new (p := p) w4).trans (Kept.new w5)).tups F9
    refine k T5 (xs.take an ++ [.ref t6] ++ xs.drop an) (gs.take an ++ [⟨"main", ps, ro, WB⟩] ++ gs.drop an) _ _ _ _ upd_same ?_ ?_ ?_ (((k1.trans k26).trans k9).trans ((Kept.new w4).trans (Kept.new w5)))
    · rw [List.map_append, List.map_append, List.map_take, List.map_drop]
      have hd9 := (hd6.same s9).same nw4
      exact ((all_take an hd9).app (.cons ((dm.same s9).same nw4) .nil)).app (all_drop an hd9)
    · rw [List.length_append, List.length_append, List.length_take, List.length_drop]
      show min an gs.length + 1 + _ ≤ 5
      omega
    · intro g hgm
      rcases List.mem_append.mp hgm with hgm | hgm
      · rcases List.mem_append.mp hgm with hgm | hgm
        · exact hg g (List.mem_of_mem_take hgm)
        · obtain rfl := List.mem_singleton.mp hgm
          exact ⟨om, rfl⟩
      · exact hg g (List.mem_of_mem_drop hgm)
  · exact k Fu xs gs _ _ _ H1 hX1 hd1 (by omega) hg k1
end LN

/-! The law's program. -/
namespace LN
open PySem PySem.Spec PyProof.Rows L2 PV PF T KA KK PP BL FM CK
theorem pss_as {X : Cx} {b : List Stmt} {t : TS} (h : PSs X b t) : PSs X b t := h
section
variable {P : Program} {w : World} {K : PySem.W.Frag} {mg : Str → Option Value} {base : Heap}
def spHds : Sp := fun vs H Q _ => ∃ (p : Addr) (n : Nat), vs = [.ref p] ∧ FeedAt H p n ∧ n + 100000 ≤ 2 ^ 60 ∧
  ∀ (a : Addr) (cs : List Cl) (fs : List Fn) (m : Nat) (H' : Hp), Dv H' (.ref a) (progPy cs fs) → progOk cs fs → bodies cs fs → Kept p H H' → Q (.ref a) H'
theorem ok_hds {f : Addr} {fd : FuncData} (F : Fun K "_law_heads" "_law_heads" s_law_heads f fd) (X : Dr K mg) : FnOk P w K mg base CX0 6 f fd ["_law_feed_here"] spHds := by
  obtain ⟨fD, dD, GD⟩ := X.drw
  obtain ⟨fO, dO, GO⟩ := X.one
  obtain ⟨fN, dN, GN⟩ := X.nam
  obtain ⟨fS, dS, GS⟩ := X.som
  obtain ⟨fP, dP, GP⟩ := X.prs
  obtain ⟨fH, dH, GH⟩ := X.hed
  have HD : FnOk P w K mg base CX0 1 fD dD ["_law_feed_here", "_law_many"] spDk := dk_ok GD X
  have HL : FnOk P w K mg base CX0 2 fO dO ["_law_feed_here", "_law_things"] spOl := ol_ok GO GD X
  have HN : FnOk P w K mg base CX0 3 fN dN ["_law_feed_here"] spNm := ok_nm GN.F X
  have HS : FnOk P w K mg base CX0 3 fS dS ["_law_feed_here", "_law_pool", "_law_at", "_law_calm"] spSom := ok_som GS.F X
  have HP : FnOk P w K mg base CX0 4 fP dP ["_law_feed_here", "_law_names", "_law_pool", "_law_many", "_law_calm"] spPrs := ok_prs GP.F X
  have HH : FnOk P w K mg base CX0 5 fH dH ["_law_feed_here", "_law_name_here", "_law_pool", "_law_calm"] spHed := ok_hed GH.F X
  refine F.ok sc_law_heads (fun vs H Q E h => ?_) (fun cdv A outer s H vs Q E hr h => ?_)
  · obtain ⟨p, n, rfl, _⟩ := h
    rfl
  · obtain ⟨p, n, rfl, hF, hn, q⟩ := h
    have hr3 : Room 3 _ := hr.mono (by decide)
    have hr1 : Room 1 _ := hr.mono (by decide)
    have hr2 : Room 2 _ := hr.mono (by decide)
    have hr4 : Room 4 _ := hr.mono (by decide)
    refine ⟨_, pss_cons (ps_set (i := 1) sc_law_heads.nd rfl (Or.inr rfl) (pe_call HL hr2 (by rfl) GO.g GO.F.kp GO.b .nil pass0 (pa_cons (pv 0) (pa_cons (pe_lst (pa_cons pe_int (pa_cons pe_int (pa_cons pe_int (pa_cons pe_int pa_nil))))) pa_nil))))
      (pss_cons (ps_par (i := 2) (j := 3) rfl sc_law_heads.nd rfl rfl (by decide) rfl rfl (pa_cons (pe_call HL hr2 (by rfl) GO.g GO.F.kp GO.b .nil pass0 (pa_cons (pv 0) (pa_cons (pe_lst (pa_cons (pe_call HD hr1 (by rfl) GD.g GD.F.kp GD.b .nil pass0 (pa_cons (pv 0) (pa_cons pe_int pa_nil)))
          (pa_cons (pe_op op_add pe_int (pe_call HD hr1 (by rfl) GD.g GD.F.kp GD.b .nil pass0 (pa_cons (pv 0) (pa_cons pe_int pa_nil)))) pa_nil))) pa_nil))) (pa_cons (pe_call HD hr1 (by rfl) GD.g GD.F.kp GD.b .nil pass0 (pa_cons (pv 0) (pa_cons pe_int pa_nil))) pa_nil)) (by rfl))
      (pss_cons (ps_set (i := 4) sc_law_heads.nd rfl (Or.inr rfl) (pe_lc (own := [("_law_turn", 5)]) (g := gName 5) (tt := tYes) (te := tCall spNm [] (fun _ _ _ => False) (tCons (tVar 0) tNil)) rfl sc_law_heads.nd (pi_range1 (by rfl) X.rng (pa_cons (pe_op op_add (pv 2) pe_int) pa_nil))
          (blkOk_by (N := ["_law_feed_here", "_law_calm", "_law_many", "_law_chain", "_law_pool", "_law_turn", "_law_fields", "_law_methods", "_law_shared", "_law_name_here", "_law_classes", "_law_k", "_law_above_here", "_law_rows", "_law_own", "_law_functions", "_law_at", "_law_result", "_law_main"]) (sc := defScope s_law_heads) (by decide +kernel))
          (fun _ _ _ _ _ => pg_name (i := 5) sc_law_heads.nd rfl (Or.inl rfl)) (fun _ _ _ _ _ => pts_nil) (fun _ _ _ _ _ => pe_call HN hr3 (by rfl) GN.g GN.F.kp GN.b .nil pass0 (pa_cons (pv 0) pa_nil))))
      (pss_cons (ps_asg (pe_tup (pa_cons (pe_lc (own := [("_law_turn", 5)]) (g := gName 5) (tt := tYes) (te := tCall spNm [] (fun _ _ _ => False) (tCons (tVar 0) tNil)) rfl sc_law_heads.nd (pi_range1 (by rfl) X.rng (pa_cons (pe_op op_add (pe_op op_mul pe_int (pv 2)) pe_int) pa_nil))
          (blkOk_by (N := ["_law_feed_here", "_law_calm", "_law_many", "_law_chain", "_law_pool", "_law_turn", "_law_fields", "_law_methods", "_law_shared", "_law_name_here", "_law_classes", "_law_k", "_law_above_here", "_law_rows", "_law_own", "_law_functions", "_law_at", "_law_result", "_law_main"]) (sc := defScope s_law_heads) (by decide +kernel))
          (fun _ _ _ _ _ => pg_name (i := 5) sc_law_heads.nd rfl (Or.inl rfl)) (fun _ _ _ _ _ => pts_nil) (fun _ _ _ _ _ => pe_call HN hr3 (by rfl) GN.g GN.F.kp GN.b .nil pass0 (pa_cons (pv 0) pa_nil)))
          (pa_cons (pe_lc (own := [("_law_turn", 5)]) (g := gName 5) (tt := tYes) (te := tCall spNm [] (fun _ _ _ => False) (tCons (tVar 0) tNil)) rfl sc_law_heads.nd (pi_range1 (by rfl) X.rng (pa_cons pe_int pa_nil))
          (blkOk_by (N := ["_law_feed_here", "_law_calm", "_law_many", "_law_chain", "_law_pool", "_law_turn", "_law_fields", "_law_methods", "_law_shared", "_law_name_here", "_law_classes", "_law_k", "_law_above_here", "_law_rows", "_law_own", "_law_functions", "_law_at", "_law_result", "_law_main"]) (sc := defScope s_law_heads) (by decide +kernel))
          (fun _ _ _ _ _ => pg_name (i := 5) sc_law_heads.nd rfl (Or.inl rfl)) (fun _ _ _ _ _ => pts_nil) (fun _ _ _ _ _ => pe_call HN hr3 (by rfl) GN.g GN.F.kp GN.b .nil pass0 (pa_cons (pv 0) pa_nil))) pa_nil)))
          (pg_tup rfl (pgs_cons (pg_name (i := 6) sc_law_heads.nd rfl (Or.inl rfl)) (pgs_cons (pg_name (i := 7) sc_law_heads.nd rfl (Or.inr rfl)) pgs_nil))))
      (pss_cons (ps_setLc (i := 8) (own := [("_law_name_here", 9)]) (g := gName 9) (tt := tYes) (te := tCall spHed [] (fun _ _ _ => False) (tCons (tVar 0) (tCons (tVar 9) (tCons (tVar 4) (tCons (tC (.int 60)) tNil))))) rfl sc_law_heads.nd rfl rfl (sw_true rfl rfl rfl (by decide +kernel)) (pi_list (pv 7))
          (blkOk_by (N := ["_law_feed_here", "_law_calm", "_law_many", "_law_chain", "_law_pool", "_law_turn", "_law_fields", "_law_methods", "_law_shared", "_law_name_here", "_law_classes", "_law_k", "_law_above_here", "_law_rows", "_law_own", "_law_functions", "_law_at", "_law_result", "_law_main"]) (sc := defScope s_law_heads) (by decide +kernel))
          (fun _ _ _ _ _ => pg_name (i := 9) sc_law_heads.nd rfl (Or.inl rfl)) (fun _ _ _ _ _ => pts_nil) (fun _ _ _ _ _ => pe_call HH hr (by rfl) GH.g GH.F.kp GH.b .nil pass0 (pa_cons (pv 0) (pa_cons (pv 9) (pa_cons (pv 4) (pa_cons pe_int pa_nil))))))
      (pss_cons (ps_set (i := 10) sc_law_heads.nd rfl (Or.inl rfl) (pe_lst pa_nil))
      (pss_cons (ps_for PassesOwn.never rfl (pi_range1 (by rfl) X.rng (pa_cons (pv 2) pa_nil)) (pg_name (i := 11) sc_law_heads.nd rfl (Or.inl rfl))
        (pss_as (t := tTurn K) (by
          unfold tTurn
          exact (pss_cons (ps_set (i := 12) (te := tA K) sc_law_heads.nd rfl (Or.inl rfl) (by
              unfold tA
              exact (pe_ifExp (pt_cmpR op_eq (pe_call HD hr1 (by rfl) GD.g GD.F.kp GD.b .nil pass0 (pa_cons (pv 0) (pa_cons pe_int pa_nil))) pe_int (nomark _)) pe_non
                (pe_call HL hr2 (by rfl) GO.g GO.F.kp GO.b .nil pass0 (pa_cons (pv 0) (pa_cons (pe_slice sl_list (pv 4) po_none (po_some (pe_callB (call_max2 rfl) (by rfl) X.max (by decide +kernel) (pa_cons pe_int (pa_cons (pv 2) pa_nil))))) pa_nil))))))
            (pss_cons (ps_as (t := tB K) (by
              unfold tB
              exact (ps_if (pt_cmpR op_gt (pe_call HD hr1 (by rfl) GD.g GD.F.kp GD.b .nil pass0 (pa_cons (pv 0) (pa_cons (pv 1) pa_nil))) pe_int (nomark _))
                (pss_cons (ps_set (i := 12) sc_law_heads.nd rfl (Or.inl rfl) (pe_call HL hr2 (by rfl) GO.g GO.F.kp GO.b .nil pass0 (pa_cons (pv 0) (pa_cons (pe_as (t := tB2 K) (by
                    unfold tB2
                    exact (pe_ifExp (pt_cmpR op_eq (pe_call HD hr1 (by rfl) GD.g GD.F.kp GD.b .nil pass0 (pa_cons (pv 0) (pa_cons pe_int pa_nil))) pe_int (nomark _))
                      (pe_op op_cat (pe_lst (pa_cons pe_non pa_nil)) (pe_slice sl_list (pv 4) po_none (po_some (pv 11)))) (pe_op op_cat (pe_lst (pa_cons pe_non pa_nil)) (pe_slice sl_list (pv 4) (po_some (pe_op op_add (pv 11) pe_int)) (po_some (pv 2))))))) pa_nil))))
                (pss_one (ps_if (pt_cmpR op_gt (pv 3) pe_int (nomark _)) (pss_one (ps_set (i := 12) sc_law_heads.nd rfl (Or.inl rfl) (pe_ifExp (pt_cmpR op_eq (pv 3) pe_int (nomark _))
                    (pe_ix ix_list (pe_op op_cat (pe_lst (pa_cons pe_non pa_nil)) (pe_slice sl_list (pv 4) po_none (po_some (pv 11)))) (pe_un un_neg pe_int) (fun _ _ => rfl))
                    (pe_ix ix_list (pe_op op_cat (pe_slice sl_list (pv 4) (po_some (pe_op op_add (pv 11) pe_int)) (po_some (pv 2))) (pe_lst (pa_cons pe_non pa_nil))) pe_int (fun _ _ => rfl))))) pss_nil))) pss_nil)))
            (pss_cons (ps_set (i := 13) sc_law_heads.nd rfl (Or.inl rfl) (pe_call HP hr4 (by rfl) GP.g GP.F.kp GP.b .nil pass0 (pa_cons (pv 0) (pa_cons (pe_op op_cat (pe_slice sl_list (pv 6) (po_some (pe_op op_mul pe_int (pv 11))) (po_some (pe_op op_add (pe_op op_mul pe_int (pv 11)) pe_int))) (pe_slice sl_list (pv 6) po_none (po_some pe_int)))
                (pa_cons (pv 4) (pa_cons (pe_call HD hr1 (by rfl) GD.g GD.F.kp GD.b .nil pass0 (pa_cons (pv 0) (pa_cons pe_int pa_nil))) (pa_cons (pv 1) pa_nil)))))))
            (pss_cons (ps_set (i := 14) sc_law_heads.nd rfl (Or.inl rfl) (pe_lst pa_nil))
            (pss_cons (ps_for PassesOwn.never rfl (pi_range1 (by rfl) X.rng (pa_cons (pe_call HD hr1 (by rfl) GD.g GD.F.kp GD.b .nil pass0 (pa_cons (pv 0) (pa_cons pe_int pa_nil))) pa_nil)) (pg_name (i := 5) sc_law_heads.nd rfl (Or.inl rfl))
              (pss_one (ps_expr (pe_bm PySem.F.plainAttrs_list PySem.F.slot_list_append PySem.F.type_list_append mt_append (pv 14) (pa_cons (pe_as (t := tEl K) (by
                unfold tEl
                exact (pe_ifExp (pt_cmpR op_eq (pe_call HD hr1 (by rfl) GD.g GD.F.kp GD.b .nil pass0 (pa_cons (pv 0) (pa_cons (pv 1) pa_nil))) pe_int (nomark _))
                  (pe_call HH hr (by rfl) GH.g GH.F.kp GH.b .nil pass0 (pa_cons (pv 0) (pa_cons (pe_call HS hr3 (by rfl) GS.g GS.F.kp GS.b .nil pass0 (pa_cons (pv 0) (pa_cons (pv 7) (pa_cons (pv 5) (pa_cons (pv 1) pa_nil))))) (pa_cons (pv 4) (pa_cons (pv 1) pa_nil)))))
                  (pe_ix ix_list (pv 8) (pv 5) (fun _ _ => rfl))))) pa_nil)))))
            (pss_one (ps_expr (pe_bm PySem.F.plainAttrs_list PySem.F.slot_list_append PySem.F.type_list_append mt_append (pv 10) (pa_cons (pe_tup (pa_cons (pe_call HS hr3 (by rfl) GS.g GS.F.kp GS.b .nil pass0 (pa_cons (pv 0) (pa_cons (pv 4) (pa_cons (pv 11) (pa_cons (pv 1) pa_nil)))))
              (pa_cons (pv 12) (pa_cons (pv 13) (pa_cons (pe_callTy call_tuple_of (by rfl) X.tup (by decide +kernel) (pa_cons (pv 14) pa_nil)) pa_nil))))) pa_nil))))))))))))
      (pss_cons (ps_setLc (i := 15) (own := [("_law_k", 11)]) (g := gName 11) (tt := tYes) (te := tCall spHed [] (fun _ _ _ => False) (tCons (tVar 0) (tCons (tCall spSom [] (fun _ _ _ => False) (tCons (tVar 0) (tCons (tOp rCat (tVar 7) (tVar 4)) (tCons (tVar 11) (tCons (tVar 1) tNil))))) (tCons (tVar 4) (tCons (tVar 1) tNil))))) rfl sc_law_heads.nd rfl rfl (sw_true rfl rfl rfl (by decide +kernel))
          (pi_range1 (by rfl) X.rng (pa_cons (pe_call HD hr1 (by rfl) GD.g GD.F.kp GD.b .nil pass0 (pa_cons (pv 0) (pa_cons pe_int pa_nil))) pa_nil))
          (blkOk_by (N := ["_law_feed_here", "_law_calm", "_law_many", "_law_chain", "_law_pool", "_law_turn", "_law_fields", "_law_methods", "_law_shared", "_law_name_here", "_law_classes", "_law_k", "_law_above_here", "_law_rows", "_law_own", "_law_functions", "_law_at", "_law_result", "_law_main"]) (sc := defScope s_law_heads) (by decide +kernel))
          (fun _ _ _ _ _ => pg_name (i := 11) sc_law_heads.nd rfl (Or.inl rfl)) (fun _ _ _ _ _ => pts_nil)
          (fun _ _ _ _ _ => pe_call HH hr (by rfl) GH.g GH.F.kp GH.b .nil pass0 (pa_cons (pv 0) (pa_cons (pe_call HS hr3 (by rfl) GS.g GS.F.kp GS.b .nil pass0 (pa_cons (pv 0) (pa_cons (pe_op op_cat (pv 7) (pv 4)) (pa_cons (pv 11) (pa_cons (pv 1) pa_nil))))) (pa_cons (pv 4) (pa_cons (pv 1) pa_nil))))))
      (pss_cons (ps_as (t := tG K) (by
          unfold tG
          exact (ps_if (pt_cmpR op_gt (pe_call HD hr1 (by rfl) GD.g GD.F.kp GD.b .nil pass0 (pa_cons (pv 0) (pa_cons (pv 1) pa_nil))) pe_int (nomark _))
        (pss_cons (ps_set (i := 16) sc_law_heads.nd rfl (Or.inl rfl) (pe_call HD hr1 (by rfl) GD.g GD.F.kp GD.b .nil pass0 (pa_cons (pv 0) (pa_cons (pe_op op_add (pe_callB call_len_seq (by rfl) X.len PySem.boot_len (pa_cons (pv 15) pa_nil)) pe_int) pa_nil))))
        (pss_cons (ps_set (i := 17) (te := tRs) sc_law_heads.nd rfl (Or.inl rfl) (by
            unfold tRs
            exact (pe_ifExp (pt_cmpR op_gt (pe_call HD hr1 (by rfl) GD.g GD.F.kp GD.b .nil pass0 (pa_cons (pv 0) (pa_cons (pv 1) pa_nil))) pe_int (nomark _)) pe_non pe_str)))
        (pss_cons (ps_set (i := 18) sc_law_heads.nd rfl (Or.inl rfl) (pe_tup (pa_cons pe_str (pa_cons (pe_as (t := tMp) (by
            unfold tMp
            exact (pe_ifExp (pt_cmpR op_gt (pe_call HD hr1 (by rfl) GD.g GD.F.kp GD.b .nil pass0 (pa_cons (pv 0) (pa_cons (pv 1) pa_nil))) pe_int (nomark _)) (pe_tup pa_nil) (pe_tup (pa_cons (pe_tup (pa_cons pe_str (pa_cons pe_str pa_nil))) pa_nil)))))
            (pa_cons (pv 17) (pa_cons (pe_as (t := tBody) (pe_tup (pa_cons (pe_tup (pa_cons pe_str (pa_cons (pe_tup (pa_cons pe_str (pa_cons pe_bl pa_nil))) (pa_cons (pe_tup pa_nil) pa_nil)))) pa_nil))) pa_nil))))))
        (pss_one (ps_set (i := 15) sc_law_heads.nd rfl (Or.inl rfl) (pe_op op_cat (pe_op op_cat (pe_slice sl_list (pv 15) po_none (po_some (pv 16))) (pe_lst (pa_cons (pv 18) pa_nil))) (pe_slice sl_list (pv 15) (po_some (pv 16)) po_none))))))) pss_nil)))
      (pss_one (ps_ret (pe_tup (pa_cons (pe_callTy call_tuple_of (by rfl) X.tup (by decide +kernel) (pa_cons (pv 10) pa_nil)) (pa_cons (pe_callTy call_tuple_of (by rfl) X.tup (by decide +kernel) (pa_cons (pv 15) pa_nil)) pa_nil))))))))))))), ?_⟩
    -- calm
    refine ⟨_, rfl, by show 4 ≤ sizeLine; decide, fun L1 w1 => ?_⟩
    refine ⟨p, L1, _, n, rfl, feed_new hF w1, by omega, upd_same, feed_ne hF w1, by show 0 < 4; decide, by show 4 < 2 ^ 30; decide, fun x H1 hx k1 F1 => ?_⟩
    have hc : ∃ c : Int, x = .int c ∧ 0 < c ∧ c < 2 ^ 30 := by
      rcases (by simpa using hx : x = .int 2 ∨ x = .int 5 ∨ x = .int 20 ∨ x = .int 60) with rfl | rfl | rfl | rfl
      · exact ⟨2, rfl, by decide, by decide⟩
      · exact ⟨5, rfl, by decide, by decide⟩
      · exact ⟨20, rfl, by decide, by decide⟩
      · exact ⟨60, rfl, by decide, by decide⟩
    obtain ⟨c, rfl, c0, c1⟩ := hc
    have k01 : Kept p H H1 := (Kept.new w1).trans k1
    -- many, chain
    refine ⟨_, rfl, _, rfl, p, 6, n + 1, rfl, F1, by omega, by decide, by decide, fun r H2 r0 r1 k2 F2 => ?_⟩
    refine ⟨_, rfl, p, 6, n + 1 + 1, rfl, F2, by omega, by decide, by decide, fun r2 H3 r20 r21 k3 F3 => ⟨_, _, rfl, rfl, by show 2 ≤ sizeLine; decide, fun L2' w2 => ?_⟩⟩
    refine ⟨p, L2', _, n + 1 + 1 + 1, rfl, feed_new F3 w2, by omega, upd_same, feed_ne F3 w2, by show 0 < 2; decide, by show 2 < 2 ^ 30; decide, fun x H4 hx k4 F4 => ?_⟩
    have hmn : ∃ mn : Nat, x = .int mn ∧ mn ≤ 12 := by
      rcases (by simpa using hx : x = .int r ∨ x = .int (7 + r2)) with rfl | rfl
      · exact ⟨r.toNat, by rw [Int.toNat_of_nonneg r0], by omega⟩
      · exact ⟨(7 + r2).toNat, by rw [Int.toNat_of_nonneg (by omega)], by omega⟩
    obtain ⟨mn, rfl, hmn⟩ := hmn
    refine ⟨_, rfl, p, 3, n + 1 + 1 + 1 + 1, rfl, F4, by omega, by decide, by decide, fun ch Hb ch0 ch1 kb Fb => ⟨_, _, rfl, ?_⟩⟩
    have k05 : Kept p H Hb := ((((k01.trans k2).trans k3).trans (Kept.new w2)).trans k4).trans kb
    generalize hm5 : n + 1 + 1 + 1 + 1 + 1 = m5 at Fb
    -- pool
    refine ⟨_, rfl, _, _, rfl, rfl, _, rfl, by omega, by omega, fun Dp wp => ?_⟩
    have ndDp : Dp ≠ p := feed_ne Fb wp
    refine lc_range (n := ((mn : Int) + 2).toNat) (lo := 0) (fun i H5 => ∃ (zs : List Str) (m : Nat), H5 Dp = some (.lst (zs.map V.str)) ∧ zs.length = i ∧ (∀ z ∈ zs, nameB z = true) ∧ Kept p Hb H5 ∧ FeedAt H5 p m ∧ m ≤ m5 + 12 * (i)) ⟨[], m5, upd_same, rfl, (fun z hz => by cases hz), Kept.new wp, feed_new Fb wp, by omega⟩ ?_ ?_
    · rintro i H5 hi ⟨zs, m, hD, hl, hz, k5, F5, hm⟩
      refine ⟨rfl, iteT (B := ∃ (zs : List Str) (m : Nat), H5 Dp = some (.lst (zs.map V.str)) ∧ zs.length = i + 1 ∧ (∀ z ∈ zs, nameB z = true) ∧ Kept p Hb H5 ∧ FeedAt H5 p m ∧ m ≤ m5 + 12 * (i + 1)) ?_⟩
      refine ⟨_, rfl, p, m, rfl, F5, by omega, fun z m6 H6 hz6 k6 F6 hm6 => ?_⟩
      have hD6 := k6 _ _ ndDp hD
      refine ⟨zs.map V.str, hD6, by rw [List.length_map]; exact Nat.lt_of_le_of_lt (by omega : zs.length ≤ 100) (by decide), zs ++ [z], m6, by rw [List.map_append]; exact upd_same, by simp [hl], fun q hq => ?_, Kept.at (k5.trans k6) wp, feed_at F6 ndDp, by omega⟩
      rcases List.mem_append.mp hq with hq | hq
      · exact hz q hq
      · obtain rfl := List.mem_singleton.mp hq
        exact hz6
    rintro H6 ⟨zs, m6, hP, hzl, hzn, k6, F6, hm6⟩
    have hzl : zs.length = mn + 2 := by omega
    have sP : strsAt H6 Dp zs := ⟨hP, hzn, by omega⟩
    -- fields, methods
    refine ⟨_, rfl, _, _, rfl, rfl, .inl ⟨by decide, by decide⟩, _, _, rfl, rfl, _, rfl, by omega, by omega, fun Df wf => ?_⟩
    have ndDf : Df ≠ p := feed_ne F6 wf
    refine lc_range (n := (3 * (mn : Int) + 1).toNat) (lo := 0) (fun i H5 => ∃ (zs : List Str) (m : Nat), H5 Df = some (.lst (zs.map V.str)) ∧ zs.length = i ∧ (∀ z ∈ zs, nameB z = true) ∧ Kept p H6 H5 ∧ FeedAt H5 p m ∧ m ≤ m6 + 12 * (i)) ⟨[], m6, upd_same, rfl, (fun z hz => by cases hz), Kept.new wf, feed_new F6 wf, by omega⟩ ?_ ?_
    · rintro i H5 hi ⟨zs, m, hD, hl, hz, k5, F5, hm⟩
      refine ⟨rfl, iteT (B := ∃ (zs : List Str) (m : Nat), H5 Df = some (.lst (zs.map V.str)) ∧ zs.length = i + 1 ∧ (∀ z ∈ zs, nameB z = true) ∧ Kept p H6 H5 ∧ FeedAt H5 p m ∧ m ≤ m6 + 12 * (i + 1)) ?_⟩
      refine ⟨_, rfl, p, m, rfl, F5, by omega, fun z m6 H6 hz6 k6 F6 hm6 => ?_⟩
      have hD6 := k6 _ _ ndDf hD
      refine ⟨zs.map V.str, hD6, by rw [List.length_map]; exact Nat.lt_of_le_of_lt (by omega : zs.length ≤ 100) (by decide), zs ++ [z], m6, by rw [List.map_append]; exact upd_same, by simp [hl], fun q hq => ?_, Kept.at (k5.trans k6) wf, feed_at F6 ndDf, by omega⟩
      rcases List.mem_append.mp hq with hq | hq
      · exact hz q hq
      · obtain rfl := List.mem_singleton.mp hq
        exact hz6
    rintro H7 ⟨fs, m7, hFd, hfl, hfn, k7, F7, hm7⟩
    have hfl : fs.length = 3 * mn + 1 := by omega
    have sF : strsAt H7 Df fs := ⟨hFd, hfn, by omega⟩
    have sP7 := sP.keep ndDp k7
    refine ⟨_, rfl, by decide, by decide, fun Dm wm => ?_⟩
    have ndDm : Dm ≠ p := feed_ne F7 wm
    refine lc_range (n := (3 : Int).toNat) (lo := 0) (fun i H5 => ∃ (zs : List Str) (m : Nat), H5 Dm = some (.lst (zs.map V.str)) ∧ zs.length = i ∧ (∀ z ∈ zs, nameB z = true) ∧ Kept p H7 H5 ∧ FeedAt H5 p m ∧ m ≤ m7 + 12 * (i)) ⟨[], m7, upd_same, rfl, (fun z hz => by cases hz), Kept.new wm, feed_new F7 wm, by omega⟩ ?_ ?_
    · rintro i H5 hi ⟨zs, m, hD, hl, hz, k5, F5, hm⟩
      refine ⟨rfl, iteT (B := ∃ (zs : List Str) (m : Nat), H5 Dm = some (.lst (zs.map V.str)) ∧ zs.length = i + 1 ∧ (∀ z ∈ zs, nameB z = true) ∧ Kept p H7 H5 ∧ FeedAt H5 p m ∧ m ≤ m7 + 12 * (i + 1)) ?_⟩
      refine ⟨_, rfl, p, m, rfl, F5, by omega, fun z m6 H6 hz6 k6 F6 hm6 => ?_⟩
      have hD6 := k6 _ _ ndDm hD
      refine ⟨zs.map V.str, hD6, by rw [List.length_map]; exact Nat.lt_of_le_of_lt (by omega : zs.length ≤ 100) (by decide), zs ++ [z], m6, by rw [List.map_append]; exact upd_same, by simp [hl], fun q hq => ?_, Kept.at (k5.trans k6) wm, feed_at F6 ndDm, by omega⟩
      rcases List.mem_append.mp hq with hq | hq
      · exact hz q hq
      · obtain rfl := List.mem_singleton.mp hq
        exact hz6
    rintro H8 ⟨ms, m8, hM, hml, hmn', k8, F8, hm8⟩
    have hml : ms.length = 3 := by omega
    have sM : strsAt H8 Dm ms := ⟨hM, hmn', by omega⟩
    have sP8 := sP7.keep ndDp k8
    have sF8 := sF.keep ndDf k8
    refine ⟨by show 2 ≤ sizeLine; decide, fun t8 w8 => ?_⟩
    refine ⟨t8, _, rfl, SqT.of upd_same, rfl, _, _, rfl, _, _, rfl, rfl, ?_⟩
    have F9 := feed_new (o := .tup [.ref Df, .ref Dm]) F8 w8
    have k9 : Kept p H8 (upd H8 t8 (.tup [.ref Df, .ref Dm])) := Kept.new w8
    generalize upd H8 t8 (.tup [.ref Df, .ref Dm]) = H9 at F9 k9
    have sP9 := sP8.keep ndDp k9
    have sF9 := sF8.keep ndDf k9
    have sM9 := sM.keep ndDm k9
    -- shared
    refine ⟨_, rfl, Dm, rfl, ⟨_, SqL.of sM9.1⟩, fun Ds ws => ?_⟩
    have ndDs : Ds ≠ p := feed_ne F9 ws
    have dPs : Dp ≠ Ds := ne_of_none sP9.1 ws
    refine lc_list (xs := ms.map V.str) (fun i H5 => ∃ (acc : List V) (gs : List Fn) (m : Nat), H5 Ds = some (.lst acc) ∧ DvAll H5 acc (gs.map Fn.py) ∧ gs.length = i ∧ (∀ g ∈ gs, fnOk g ∧ g.body = WB) ∧ Kept p H9 H5 ∧ FeedAt H5 p m ∧ m ≤ m8 + 80 * i)
      ⟨[], [], m8, upd_same, .nil, rfl, (fun g hg => by cases hg), Kept.new ws, feed_new F9 ws, by omega⟩ (fun i H5 _ h => by obtain ⟨acc, gs, m, _, _, _, _, k5, _⟩ := h; exact SqL.of (k5 _ _ ndDm sM9.1)) ?_ ?_
    · rintro i x H10 hxi ⟨acc, gs, m, hD, hdv, hl, hg, k10, F10, hm⟩
      have hi : i < ms.length := by
        have := (List.getElem?_eq_some_iff.mp hxi).1
        rw [List.length_map] at this
        exact this
      obtain ⟨z, hz, rfl⟩ := List.mem_map.mp (List.mem_of_getElem? hxi)
      refine ⟨rfl, iteT (B := ∃ (acc : List V) (gs : List Fn) (m : Nat), H10 Ds = some (.lst acc) ∧ DvAll H10 acc (gs.map Fn.py) ∧ gs.length = i + 1 ∧ (∀ g ∈ gs, fnOk g ∧ g.body = WB) ∧ Kept p H9 H10 ∧ FeedAt H10 p m ∧ m ≤ m8 + 80 * (i + 1)) ?_⟩
      refine ⟨_, rfl, _, rfl, _, rfl, p, Dp, z, zs, m, 60, rfl, F10, by omega, sP9.keep ndDp k10, ndDp, by omega, sM9.2.1 z hz, by decide, by decide, fun a f m11 H11 hd ho hb k11 F11 hm11 => ?_⟩
      have hD11 := k11 _ _ ndDs hD
      refine ⟨acc, hD11, ?_, acc ++ [.ref a], gs ++ [f], m11, upd_same, ?_, by simp [hl], ?_, Kept.at (k10.trans k11) ws, feed_at F11 ndDs, by omega⟩
      · have := hdv.len
        rw [List.length_map] at this
        exact Nat.lt_of_le_of_lt (by omega : acc.length ≤ 3) (by decide)
      · rw [List.map_append]
        exact ((hdv.same (k11.tups F10)).same (tup_at hD11)).app (.cons (hd.same (tup_at hD11)) .nil)
      · intro g hgm
        rcases List.mem_append.mp hgm with hgm | hgm
        · exact hg g hgm
        · obtain rfl := List.mem_singleton.mp hgm
          exact ⟨ho, hb⟩
    rintro H10 ⟨acc, gs, m10, hS, hdS, hgl, hg, k10, F10, hm10⟩
    rw [List.length_map] at hgl hm10
    have ev : Ev p Dp Df Dm Ds zs fs ms gs H10 := ⟨sP9.keep ndDp k10, sF9.keep ndDf k10, sM9.keep ndDm k10, ⟨acc, hS, hdS⟩, ndDp, ndDf, ndDm, ndDs⟩
    have k010 : Kept p H H10 := ((((k05.trans k6).trans k7).trans k8).trans k9).trans k10
    -- classes
    refine ⟨Nat.zero_le _, fun Cs wc => ?_⟩
    have nC : Cs ≠ p := feed_ne F10 wc
    have n1 : Dp ≠ Cs := ne_of_none ev.pool.1 wc
    have n2 : Df ≠ Cs := ne_of_none ev.fld.1 wc
    have n3 : Dm ≠ Cs := ne_of_none ev.mth.1 wc
    have n4 : Ds ≠ Cs := ne_of_none hS wc
    refine ⟨_, rfl, _, rfl, by omega, by omega, ?_⟩
    refine for_range (lo := 0) (n := ((mn : Nat) : Int).toNat) (fun i σ H' => ∃ (acc : List V) (cs : List Cl) (m : Nat) (s5 s11 s12 s13 s14 : Option V), σ = fr2 p Dp Df Dm Ds Cs c mn ch s5 s11 s12 s13 s14 none none none none ∧ H' Cs = some (.lst acc) ∧ DvAll H' acc (cs.map Cl.py) ∧ cs.length = i ∧ (∀ d ∈ cs, clOk d ∧ d.methods.length ≤ 2 ∧ ∀ f ∈ d.methods, f.body = WB) ∧ Kept p H10 H' ∧ Ev p Dp Df Dm Ds zs fs ms gs H' ∧ FeedAt H' p m ∧ m ≤ m10 + 400 * i)
      ⟨[], [], m10, _, _, _, _, _, rfl, upd_same, .nil, rfl, (fun d hd => by cases hd), Kept.new wc, ev.keep (Kept.new wc) F10, feed_new F10 wc, by omega⟩ ?_ ?_
    · rintro i σ H11 hi ⟨acc2, cs, m, s5, s11, s12, s13, s14, rfl, hC, hdc, hcl, hco, k11, ev11, F11, hm⟩
      rw [Int.zero_add]
      have hal : acc2.length = i := by
        have := hdc.len
        rw [List.length_map] at this
        omega
      refine rd_Turn (K := K) (p := p) (P := Dp) (Fd := Df) (M := Dm) (Sh := Ds) (Cs := Cs) (c := c) (ch := ch) (mn := mn) (i := i) F11 (by omega) ev11 hzl hfl hml (by omega) (by omega) hmn hg c0 c1 hC nC n1 n2 n3 n4 hdc (by omega) fun v cl m12 H12 t5 t12 t13 t14 hcl1 hcl2 hcl3 hC12 hd12 ev12 kk F12 hm12 => ?_
      refine ⟨acc2 ++ [v], cs ++ [cl], m12, t5, _, t12, t13, t14, rfl, hC12, hd12, by simp [hcl], ?_, fun b o hb e => ?_, ev12, F12, by omega⟩
      · intro d hd
        rcases List.mem_append.mp hd with hd | hd
        · exact hco d hd
        · obtain rfl := List.mem_singleton.mp hd
          exact ⟨hcl1, hcl2, hcl3⟩
      · exact kk b o hb (ne_of_none e wc) (k11 b o hb e)
    rintro σ H11 ⟨acc2, cs, m11, s5, s11, s12, s13, s14, rfl, hC, hdc, hcl, hco, k11, ev11, F11, hm11⟩
    have hcl : cs.length = mn := by omega
    -- functions
    refine ⟨_, rfl, p, 4, m11, rfl, F11, by omega, by decide, by decide, fun r4 H12 r40 r41 k12 F12 => ?_⟩
    obtain ⟨nf, rfl⟩ := Int.eq_ofNat_of_zero_le r40
    have ev12 := ev11.keep k12 F11
    refine ⟨_, rfl, by omega, by omega, fun Fu wu => ?_⟩
    have nFu : Fu ≠ p := feed_ne F12 wu
    refine lc_range (n := ((nf : Nat) : Int).toNat) (lo := 0) (fun i H5 => ∃ (acc : List V) (gs : List Fn) (m : Nat), H5 Fu = some (.lst acc) ∧ DvAll H5 acc (gs.map Fn.py) ∧ gs.length = i ∧ (∀ g ∈ gs, fnOk g ∧ g.body = WB) ∧ Kept p H12 H5 ∧ FeedAt H5 p m ∧ m ≤ m11 + 1 + 90 * i)
      ⟨[], [], m11 + 1, upd_same, .nil, rfl, (fun g hg => by cases hg), Kept.new wu, feed_new F12 wu, by omega⟩ ?_ ?_
    · rintro i H13 hi ⟨acc3, gs3, m, hD, hdv, hl, hg3, k13, F13, hm⟩
      rw [Int.zero_add]
      refine ⟨rfl, iteT (B := ∃ (acc : List V) (gs : List Fn) (m : Nat), H13 Fu = some (.lst acc) ∧ DvAll H13 acc (gs.map Fn.py) ∧ gs.length = i + 1 ∧ (∀ g ∈ gs, fnOk g ∧ g.body = WB) ∧ Kept p H12 H13 ∧ FeedAt H13 p m ∧ m ≤ m11 + 1 + 90 * (i + 1)) ?_⟩
      have ev13 := ev12.keep k13 F12
      have lM := ev13.mth.2.2
      have lP := ev13.pool.2.2
      refine ⟨_, rfl, _, rfl, _, rfl, _, rfl, Dm, Dp, _, _, rfl, rfl, ev13.mth.1, ev13.pool.1, by rw [List.length_map, List.length_map]; exact Nat.le_trans (by omega : _ ≤ 2000) (by decide), fun T w13 => ?_⟩
      have evT := ev13.keep (Kept.new (o := .lst (ms.map V.str ++ zs.map V.str)) w13) F13
      have FT := feed_new (o := .lst (ms.map V.str ++ zs.map V.str)) F13 w13
      have hDT : (upd H13 T (.lst (ms.map V.str ++ zs.map V.str))) Fu = some (.lst acc3) := by rw [upd_ne (ne_of_none hD w13)]; exact hD
      have kT : Kept p H13 (upd H13 T (.lst (ms.map V.str ++ zs.map V.str))) := Kept.new w13
      have hT : (upd H13 T (.lst (ms.map V.str ++ zs.map V.str))) T = some (.lst (ms.map V.str ++ zs.map V.str)) := upd_same
      have nT : T ≠ p := feed_ne F13 w13
      generalize upd H13 T (.lst (ms.map V.str ++ zs.map V.str)) = H14 at evT FT hDT kT hT
      refine ⟨_, rfl, _, rfl, p, T, _, i, m, c, rfl, FT, by omega, hT, nT, by rw [List.length_append, List.length_map, List.length_map]; omega, by rw [List.length_append, List.length_map, List.length_map]; exact Nat.lt_of_le_of_lt (by omega : _ ≤ 2000) (by decide), c0, c1, fun x m15 H15 hx k15 F15 hm15 => ?_⟩
      have hxn : ∃ z : Str, x = .str z ∧ nameB z = true := by
        rcases List.mem_append.mp hx with hx | hx
        · obtain ⟨z, hz, rfl⟩ := List.mem_map.mp hx
          exact ⟨z, rfl, evT.mth.2.1 z hz⟩
        · obtain ⟨z, hz, rfl⟩ := List.mem_map.mp hx
          exact ⟨z, rfl, evT.pool.2.1 z hz⟩
      obtain ⟨z, rfl, hzn'⟩ := hxn
      have ev15 := evT.keep k15 FT
      refine ⟨_, rfl, _, rfl, p, Dp, z, zs, m15, c, rfl, F15, by omega, ev15.pool, ndDp, by omega, hzn', c0, c1, fun a f m16 H16 hd ho hb k16 F16 hm16 => ?_⟩
      have k1316 := (kT.trans k15).trans k16
      have hD16 := k1316 _ _ nFu hD
      refine ⟨acc3, hD16, ?_, acc3 ++ [.ref a], gs3 ++ [f], m16, upd_same, ?_, by simp [hl], ?_, Kept.at (k13.trans k1316) wu, feed_at F16 nFu, by omega⟩
      · have := hdv.len
        rw [List.length_map] at this
        exact Nat.lt_of_le_of_lt (by omega : acc3.length ≤ 4) (by decide)
      · rw [List.map_append]
        exact ((hdv.same (k1316.tups F13)).same (tup_at hD16)).app (.cons (hd.same (tup_at hD16)) .nil)
      · intro g hgm
        rcases List.mem_append.mp hgm with hgm | hgm
        · exact hg3 g hgm
        · obtain rfl := List.mem_singleton.mp hgm
          exact ⟨ho, hb⟩
    rintro H13 ⟨acc3, gs3, m13, hFu, hdF, hgl3, hg3, k13, F13, hm13⟩
    have hgl3 : gs3.length = nf := by omega
    -- main
    refine rd_G (K := K) (p := p) (P := Dp) (Fd := Df) (M := Dm) (Sh := Ds) (Cs := Cs) (Fu := Fu) (c := c) (mn := mn) (ch := ch) F13 (by omega) c0 c1 hFu nFu hdF (by omega) hg3 fun Fu' ys gs' t16 t17 t18 H14 hY hdY hgl' hg' k14 => ?_
    have k1114 := (k12.trans k13).trans k14
    have hC14 := k1114 _ _ nC hC
    have hdc14 := ((hdc.same (k12.tups F11)).same (k13.tups F12)).same (k14.tups F13)
    refine ⟨_, rfl, Cs, acc2, rfl, .inl ⟨SqL.of hC14, fun t1 u1 => ?_⟩⟩
    have nw1 : TupSame H14 (upd H14 t1 (.tup acc2)) := fun b xs e => by rw [upd_ne (ne_of_none e u1)]; exact e
    have hY1 : (upd H14 t1 (.tup acc2)) Fu' = some (.lst ys) := by rw [upd_ne (ne_of_none hY u1)]; exact hY
    refine ⟨_, rfl, Fu', ys, rfl, .inl ⟨SqL.of hY1, fun t2 u2 => ?_⟩⟩
    have nw2 : TupSame (upd H14 t1 (.tup acc2)) (upd (upd H14 t1 (.tup acc2)) t2 (.tup ys)) := fun b xs e => by rw [upd_ne (ne_of_none e u2)]; exact e
    refine ⟨by show 2 ≤ sizeLine; decide, fun t3 u3 => ?_⟩
    have nw3 : TupSame (upd (upd H14 t1 (.tup acc2)) t2 (.tup ys)) (upd (upd (upd H14 t1 (.tup acc2)) t2 (.tup ys)) t3 (.tup [.ref t1, .ref t2])) := fun b xs e => by rw [upd_ne (ne_of_none e u3)]; exact e
    have la : acc2.length ≤ 1000 := by
      have := hdc.len
      rw [List.length_map] at this
      omega
    have ly : ys.length ≤ 1000 := by
      have := hdY.len
      rw [List.length_map] at this
      omega
    have d1 : Dv (upd H14 t1 (.tup acc2)) (.ref t1) (.tuple (cs.map Cl.py)) := .tup upd_same la (hdc14.same nw1)
    have d2 : Dv (upd (upd H14 t1 (.tup acc2)) t2 (.tup ys)) (.ref t2) (.tuple (gs'.map Fn.py)) := .tup upd_same ly ((hdY.same nw1).same nw2)
    refine q t3 cs gs' 0 _ (.tup upd_same (by show 2 ≤ 1000; decide) (.cons ((d1.same nw2).same nw3) (.cons (d2.same nw3) .nil))) ⟨by omega, ?_, fun d hd => (hco d hd).1, fun f hf => (hg' f hf).1⟩ ⟨fun d hd => (hco d hd).2.2, fun f hf => (hg' f hf).2⟩ (((((k010.trans k11).trans k1114).trans (Kept.new u1)).trans (Kept.new u2)).trans (Kept.new u3))
    have hme : ∀ l : List Cl, (∀ d ∈ l, d.methods.length ≤ 2) → meths l ≤ 2 * l.length := by
      intro l
      induction l with
      | nil => intro _; exact Nat.le_refl _
      | cons d l ih =>
        intro h
        have := ih fun e he => h e (List.mem_cons_of_mem _ he)
        have := h d List.mem_cons_self
        unfold meths at *
        rw [List.map_cons, List.sum_cons, List.length_cons]
        omega
    have := hme cs fun d hd => (hco d hd).2.1
    omega
end
end LN

/-! law. -/
namespace LW
open PySem PySem.Spec PyProof.Rows L2 PV PF T ET PB PP FM AM AB WR CK WF WL WH LM LS LN
def spLaw (K : PySem.W.Frag) : Sp := fun vs H Q _ => ∃ (a : Addr) (ns : List Int), vs = [.ref a] ∧ SqL K H a (ns.map V.int) ∧ ns.length ≤ 63 ∧ ∀ H', Q (.bl true) H'
structure Lw (P : Program) (K : PySem.W.Frag) (w : World) (mg : Str → Option Value) (CN C CB : Addr) : Prop where
  tl : Tl P K w mg CN C CB
  dr : Dr K mg
  ab : Ab mg
  wl : Wl K mg
  told : ∃ f d, Gd K mg "_law_told" s_law_told ["_law_program", "_law_by_name"] f d
  hds : ∃ f d, Gd K mg "_law_heads" s_law_heads ["_law_feed_here"] f d
  abv : ∃ f d, Gd K mg "_law_above" s_law_above ["_law_classes"] f d
  wc : ∃ f d, Gd K mg "_law_wrong_classes" s_law_wrong_classes ["_law_classes", "_law_first", "_law_rows"] f d
  wh : ∃ f d, Gd K mg "_law_wrong_heads" s_law_wrong_heads ["_law_program", "_law_first", "_law_rows"] f d
  feed : ∃ f d, Gd K mg "_law_feed" s_law_feed ["_law_script", "_law_k"] f d
  max : mg "max" = none
  min : mg "min" = none
  int : mg "int" = none
  sum : mg "sum" = none
section
variable {P : Program} {w : World} {K : PySem.W.Frag} {mg : Str → Option Value} {base : Heap} {CN C CB : Addr}
theorem ok_law {f : Addr} {fd : FuncData} (F : Fun K "law" "law" s_law f fd) (X : Lw P K w mg CN C CB) : FnOk P w K mg base CX0 96 f fd ["_law_script"] (spLaw K) := by
  obtain ⟨fT, dT, GT⟩ := X.told
  obtain ⟨fH, dH, GH⟩ := X.hds
  obtain ⟨fB, dB, GB⟩ := X.abv
  obtain ⟨fC, dC, GC⟩ := X.wc
  obtain ⟨fW, dW, GW⟩ := X.wh
  obtain ⟨fF, dF, GF⟩ := X.feed
  obtain ⟨fA, dA, GA⟩ := X.tl.al
  have HT' : FnOk P w K mg base CX0 95 fT dT ["_law_program", "_law_by_name"] spTold := ok_told GT.F X.tl
  have HH : FnOk P w K mg base CX0 6 fH dH ["_law_feed_here"] spHds := ok_hds GH.F X.dr
  have HB : FnOk P w K mg base CX0 1 fB dB ["_law_classes"] spAbv := ok_abv GB.F X.ab
  have HC : FnOk P w K mg base CX0 2 fC dC ["_law_classes", "_law_first", "_law_rows"] spWc := ok_wc GC.F X.wl
  have HW' : FnOk P w K mg base CX0 2 fW dW ["_law_program", "_law_first", "_law_rows"] spWh := ok_wh GW.F X.wl
  have HF : FnOk P w K mg base CX0 1 fF dF ["_law_script", "_law_k"] (KA.spFeed K) := KA.ok_feed GF.F X.sum X.wl.len X.max X.int
  have HA : FnOk P w K mg base CX0 1 fA dA ["_law_found", "_law_due"] KI.spAlike := KI.ok_alike GA.F X.tl.isi X.tl.bool X.tl.tup X.tl.len X.tl.rng
  refine F.ok sc_law (fun vs H Q E h => ?_) (fun cdv A outer s H vs Q E hr h => ?_)
  · obtain ⟨a, ns, rfl, _⟩ := h
    rfl
  · obtain ⟨a, ns, rfl, hS, hlen, q⟩ := h
    have hr1 : Room 1 _ := hr.mono (by decide)
    have hr2 : Room 2 _ := hr.mono (by decide)
    have hr6 : Room 6 _ := hr.mono (by decide)
    refine ⟨_, pss_cons (ps_for PassesOwn.never rfl (pi_range1 (by rfl) X.wl.rng (pa_cons (pe_callB (call_max2 rfl) (by rfl) X.max (by decide +kernel) (pa_cons pe_int (pa_cons (pe_callB (call_min2 rfl) (by rfl) X.min (by decide +kernel) (pa_cons pe_int (pa_cons (pe_callB call_len_seq (by rfl) X.wl.len PySem.boot_len (pa_cons (pv 0) pa_nil)) pa_nil))) pa_nil))) pa_nil))
        (pg_name (i := 1) sc_law.nd rfl (Or.inl rfl))
        (pss_cons (ps_set (i := 2) sc_law.nd rfl (Or.inl rfl) (pe_call HF hr1 (by rfl) GF.g GF.F.kp GF.b .nil pass0 (pa_cons (pv 0) (pa_cons (pv 1) pa_nil))))
        (pss_cons (ps_set (i := 3) sc_law.nd rfl (Or.inl rfl) (pe_call HH hr6 (by rfl) GH.g GH.F.kp GH.b .nil pass0 (pa_cons (pv 2) pa_nil)))
        (pss_cons (ps_asg (pe_call HB hr1 (by rfl) GB.g GB.F.kp GB.b .nil pass0 (pa_cons (pe_ix ix_tup (pv 3) pe_int (fun _ _ => rfl)) pa_nil)) (pg_tup rfl (pgs_cons (pg_name (i := 4) sc_law.nd rfl (Or.inl rfl)) (pgs_cons (pg_name (i := 5) sc_law.nd rfl (Or.inl rfl)) pgs_nil))))
        (pss_cons (ps_set (i := 6) sc_law.nd rfl (Or.inl rfl) (pe_op op_cat (pe_call HC hr2 (by rfl) GC.g GC.F.kp GC.b .nil pass0 (pa_cons (pe_ix ix_tup (pv 3) pe_int (fun _ _ => rfl)) (pa_cons (pv 4) (pa_cons (pv 5) pa_nil)))) (pe_call HW' hr2 (by rfl) GW.g GW.F.kp GW.b .nil pass0 (pa_cons (pv 3) (pa_cons (pv 4) (pa_cons (pv 5) pa_nil))))))
        (pss_cons (ps_set (i := 7) sc_law.nd rfl (Or.inl rfl) pe_non)
        (pss_cons (ps_if (pt_cmpR (op_neD hr.units) (pv 6) (pe_lst pa_nil) (nomark _))
          (pss_cons (ps_asg (pe_ix ix_list (pv 6) pe_int (fun _ _ => rfl)) (pg_tup rfl (pgs_cons (pg_name (i := 8) sc_law.nd rfl (Or.inl rfl)) (pgs_cons (pg_name (i := 9) sc_law.nd rfl (Or.inl rfl)) (pgs_cons (pg_name (i := 10) sc_law.nd rfl (Or.inl rfl)) pgs_nil)))))
          (pss_cons (ps_for PassesOwn.never rfl (pi_list (pv 6)) (pg_name (i := 11) sc_law.nd rfl (Or.inl rfl))
            (pss_one (ps_if (pt_cmpR (op_ltT hr.units0) (pe_ix ix_tup (pv 11) pe_int (fun _ _ => rfl)) (pv 8) (nomark _))
              (pss_one (ps_asg (pv 11) (pg_tup rfl (pgs_cons (pg_name (i := 8) sc_law.nd rfl (Or.inl rfl)) (pgs_cons (pg_name (i := 9) sc_law.nd rfl (Or.inl rfl)) (pgs_cons (pg_name (i := 10) sc_law.nd rfl (Or.inl rfl)) pgs_nil)))))) pss_nil)))
          (pss_one (ps_set (i := 7) sc_law.nd rfl (Or.inl rfl) (pe_tup (pa_cons (pv 9) (pa_cons (pv 10) pa_nil))))))) pss_nil)
        (pss_one (ps_for PassesOwn.never rfl (pi_range1 (by rfl) X.wl.rng (pa_cons pe_int pa_nil)) (pg_name (i := 12) sc_law.nd rfl (Or.inl rfl))
          (pss_one (ps_if (pt_not (pt_val (pe_call HA hr1 (by rfl) GA.g GA.F.kp GA.b .nil pass0 (pa_cons (pe_call HT' hr (by rfl) GT.g GT.F.kp GT.b .nil pass0 (pa_cons (pv 3) (pa_cons (pe_cmpR op_eq (pv 12) pe_int (nomark _)) pa_nil))) (pa_cons (pv 7) pa_nil))))) (pss_one (ps_ret pe_bl)) pss_nil)))))))))))
      (pss_one (ps_ret pe_bl)), ?_⟩
    refine ⟨_, rfl, a, _, rfl, .inl hS, _, _, rfl, _, _, rfl, _, rfl, ?_, ?_, ?_⟩
    · split <;> split <;> omega
    · split <;> split <;> omega
    refine for_range (lo := 0) (fun i σ H' => ∃ o1 o2 o3 o4 o5 o6 o7 o8 o9 o10 o11 o12 : Option V, σ = [some (.ref a), o1, o2, o3, o4, o5, o6, o7, o8, o9, o10, o11, o12] ∧ Same H H') ⟨none, none, none, none, none, none, none, none, none, none, none, none, rfl, Same.refl H⟩ ?_ (fun σ H' _ => q H')
    rintro k σ H1 hk ⟨o1, o2, o3, o4, o5, o6, o7, o8, o9, o10, o11, o12, rfl, hS1⟩
    have hk10 : k ≤ 1000 := by
      have : k < 20 := by
        refine Nat.lt_of_lt_of_le hk ?_
        rw [List.length_map]
        split <;> split <;> omega
      omega
    refine ⟨_, rfl, _, rfl, a, ns, k, by rw [Int.zero_add]; rfl, hS1.seq hS, hk10, fun p H2 np s2 hF2 => ?_⟩
    refine ⟨_, rfl, p, 0, rfl, hF2, by decide, fun ap cs fs m H3 dv hpo hbo k3 => ?_⟩
    have s3 : Same H H3 := fun b o e => k3 b o (fun z => by rw [z] at e; have := hS1 _ _ e; rw [np] at this; cases this) (s2 _ _ (hS1 b o e))
    obtain ⟨ap', us, e', hap, _, p2⟩ := id dv.tupE
    cases e'
    obtain ⟨x0, us, rfl, c0, p3⟩ := p2.consE
    obtain ⟨x1, us, rfl, c1, p3⟩ := p3.consE
    obtain rfl := p3.nilE
    obtain ⟨hc12, _, hcl, hfn⟩ := id hpo
    refine ⟨_, rfl, ap, _, 0, x0, rfl, rfl, SqT.of hap, atI_nat (j := 0) rfl, x0, cs, rfl, c0, hc12, fun t d1 d2 kvs1 A R H4 s4 ht hd1 hh hrows hsame hlen => ?_⟩
    refine ⟨t, _, rfl, SqT.of ht, rfl, _, _, rfl, _, _, rfl, rfl, ?_⟩
    have up4 : Up H4 cs d1 d2 A R := ⟨⟨kvs1, hd1, hh⟩, hrows, hsame, hlen⟩
    refine ⟨_, rfl, ap, _, 0, x0, rfl, rfl, SqT.of (s4 _ _ hap), atI_nat (j := 0) rfl, _, rfl, _, rfl, x0, d1, d2, cs, A, R, rfl, c0.same (TupSame.of s4), hc12, hcl, up4, fun F1 xs1 H5 s5 n5 hF5 hx5 hl5 => ?_⟩
    refine ⟨_, rfl, _, rfl, _, rfl, .ref ap, d1, d2, cs, fs, A, R, rfl, dv.same (TupSame.of (s4.trans s5)), hpo, up4.keep s5, fun F2 xs2 es H6 s6 n6 hF6 hds hx6 hl6 => ?_⟩
    refine ⟨F1, F2, xs1, xs2, rfl, rfl, s6 _ _ hF5, hF6, Nat.le_trans (show _ ≤ 4000 by omega) (by decide), fun Lf nL => ?_⟩
    have s7 := same_new (o := .lst (xs1 ++ xs2)) nL
    have hL7 : (upd H6 Lf (.lst (xs1 ++ xs2))) Lf = some (.lst (xs1 ++ xs2)) := upd_same
    have hx7 : DvAll (upd H6 Lf (.lst (xs1 ++ xs2))) (xs1 ++ xs2) ((wrongC cs ++ (es ++ mainE fs)).map En.py) := by
      rw [List.map_append]
      exact (hx5.same (TupSame.of (s6.trans s7))).app (hx6.same (TupSame.of s7))
    have s37 : Same H3 (upd H6 Lf (.lst (xs1 ++ xs2))) := ((s4.trans s5).trans s6).trans s7
    generalize upd H6 Lf (.lst (xs1 ++ xs2)) = H7 at hL7 hx7 s37
    generalize xs1 ++ xs2 = vs at hL7 hx7
    have hfd := found_hw hds
    have hso := found_sorted hpo hds
    have hok := found_ok hpo hds
    generalize wrongC cs ++ (es ++ mainE fs) = all at hx7 hfd hso hok
    have og := optW_good (r := checkW cs fs) fun w h => checkW_ok hpo h
    refine ⟨_, rfl, Nat.zero_le _, fun e ne => ?_⟩
    have s8 := same_new (o := .lst []) ne
    have hL8 := s8 _ _ hL7
    have he8 : (upd H7 e (.lst [])) e = some (.lst []) := upd_same
    have hx8 := hx7.same (TupSame.of s8)
    have s38 := s37.trans s8
    generalize upd H7 e (.lst []) = H8 at hL8 he8 hx8 s38
    refine ⟨.list (all.map En.py), .list [], .lst (SqL.of hL8) (hx8.dp K), .lst (SqL.of he8) .nil, ens_shaped hok, by decide +kernel, ?_⟩
    have kNOW : Same H H8 := s3.trans s38
    have s3x : Same H3 H8 := s38
    cases all with
    | nil =>
      have hd : checkW cs fs = none := hfd.symm
      refine ⟨false, by rfl, iteF ?_⟩
      have dDUE : Dv H8 .non (optW (checkW cs fs)) := by rw [hd]; exact .non
      have kMID : Same H8 H8 := Same.refl _
      refine nx_of ?_
      refine ⟨_, rfl, by decide, by decide, ?_⟩
      refine for_range (lo := 0) (fun i2 σ H' => ∃ p12 : Option V, σ = [some (.ref a), some (.int (0 + k)), some (.ref p), some (.ref ap), some (.ref d1), some (.ref d2), some (.ref Lf), some .non, o8, o9, o10, o11, p12] ∧ Same H8 H')
        ⟨_, rfl, Same.refl _⟩ ?_ (fun σ H' ⟨p12, e, s'⟩ => ⟨_, _, _, _, _, _, _, _, _, _, _, _, e, kNOW.trans s'⟩)
      rintro i2 σ HA hi2 ⟨p12, rfl, sA⟩
      refine ⟨_, rfl, _, rfl, rfl, .ref ap, decide (V.int (0 + (i2 : Int)) = V.int 1), cs, fs, rfl, dv.same (TupSame.of (((s3x.trans kMID)).trans sA)), hpo, hbo, fun u HB sB du => ?_⟩
      refine ⟨_, rfl, u, _, optW (checkW cs fs), rfl, du, (dDUE.same (TupSame.of (sA.trans sB))), og.1, og.2, fun HC sC => ⟨true, rfl, iteF ?_⟩⟩
      exact ⟨_, rfl, (sA.trans sB).trans sC⟩
    | cons e0 rest =>
      have hd : checkW cs fs = some e0.w := hfd.symm
      refine ⟨true, by rfl, iteT ?_⟩
      obtain ⟨v0, vr, rfl, dv0, dvr⟩ := DvAll.consE hx8
      obtain ⟨q0, qs0, rfl, hq0, _, z1⟩ := dv0.tupE
      obtain ⟨y0, us, rfl, m0, z2⟩ := z1.consE
      obtain ⟨y1, us, rfl, m1, z2⟩ := z2.consE
      obtain ⟨y2, us, rfl, m2, z2⟩ := z2.consE
      obtain rfl := z2.nilE
      have triple : ∀ {v : V} {e : En}, Dv H8 v (.tuple [.int e.i, .int e.j, .int e.k]) → ∃ b, v = .ref b ∧ H8 b = some (.tup ((pl e).map V.int)) := fun h => by
        obtain ⟨b, ws, rfl, hb, _, w1⟩ := h.tupE
        obtain ⟨a0, us, rfl, n0, w2⟩ := w1.consE
        obtain ⟨a1, us, rfl, n1, w2⟩ := w2.consE
        obtain ⟨a2, us, rfl, n2, w2⟩ := w2.consE
        obtain rfl := w2.nilE
        cases n0
        cases n1
        cases n2
        exact ⟨b, rfl, hb⟩
      obtain ⟨p0, rfl, hp0⟩ := triple m0
      obtain ⟨rfl, hyl⟩ := m1.strE
      refine ⟨_, rfl, Lf, _, 0, .ref q0, rfl, rfl, SqL.of hL8, atI_nat (j := 0) rfl, q0, _, rfl, SqT.of hq0, rfl, _, _, rfl, _, _, rfl, _, _, rfl, rfl, ?_⟩
      refine ⟨_, rfl, Lf, rfl, ⟨_, SqL.of hL8⟩, ?_⟩
      refine for_list (xs := .ref q0 :: vr) (fun i2 σ H' => ∃ p11 : Option V, σ = [some (.ref a), some (.int (0 + k)), some (.ref p), some (.ref ap), some (.ref d1), some (.ref d2), some (.ref Lf), some .non, some (.ref p0), some (.str e0.w.word), some y2, p11, o12] ∧ H' = H8)
        ⟨_, rfl, rfl⟩ (fun i2 σ H' _ h => by obtain ⟨_, _, h⟩ := h; rw [h]; exact SqL.of hL8) ?_ ?_
      · rintro i2 x σ H' hx ⟨p11, rfl, rfl⟩
        obtain ⟨_, hdd, dx⟩ := WM.at_of hx8 hx
        rw [List.getElem?_map] at hdd
        cases hgi : (e0 :: rest)[i2]? with
        | none => rw [hgi] at hdd; cases hdd
        | some en =>
        rw [hgi] at hdd
        cases hdd
        have hle : Le e0 en := by
          rcases List.mem_cons.mp (List.mem_of_getElem? hgi) with rfl | hm
          · exact .inr ⟨rfl, .inr ⟨rfl, Nat.le_refl _⟩⟩
          · exact (List.pairwise_cons.mp hso).1 en hm
        obtain ⟨qx, qxs, rfl, hqx, _, zz1⟩ := dx.tupE
        obtain ⟨yy0, us, rfl, mm0, zz2⟩ := zz1.consE
        obtain ⟨yy1, us, rfl, mm1, zz2⟩ := zz2.consE
        obtain ⟨yy2, us, rfl, mm2, zz2⟩ := zz2.consE
        obtain rfl := zz2.nilE
        obtain ⟨px, rfl, hpx⟩ := triple mm0
        refine ⟨_, rfl, qx, _, 0, .ref px, rfl, rfl, SqT.of hqx, atI_nat (j := 0) rfl, _, rfl, px, p0, pl en, pl e0, rfl, rfl, SqT.of hpx, SqT.of hp0, _, rfl, ?_⟩
        rw [le_lt hle]
        exact iteF ⟨_, rfl, rfl⟩
      · rintro σ H' ⟨p11, rfl, e8⟩
        obtain rfl : H8 = H' := e8.symm
        refine ⟨_, rfl, _, rfl, by show 2 ≤ sizeLine; decide, fun td ntd => ?_⟩
        have s9 := same_new (o := .tup [.str e0.w.word, y2]) ntd
        have htd : (upd H8 td (.tup [.str e0.w.word, y2])) td = some (.tup [.str e0.w.word, y2]) := upd_same
        generalize upd H8 td (.tup [.str e0.w.word, y2]) = H9 at s9 htd
        have dDUE : Dv H9 (.ref td) (optW (checkW cs fs)) := by
          rw [hd]
          exact .tup htd (by show 2 ≤ 1000; decide) (.cons (.str _ hyl) (.cons (m2.same (TupSame.of s9)) .nil))
        have kMID : Same H8 H9 := s9
        have kNOW : Same H H9 := kNOW.trans s9
        show gName 7 _ _ _ _
        refine gName_of ?_
        refine nx_of ?_
        refine ⟨_, rfl, by decide, by decide, ?_⟩
        refine for_range (lo := 0) (fun i2 σ H' => ∃ p12 : Option V, σ = [some (.ref a), some (.int (0 + k)), some (.ref p), some (.ref ap), some (.ref d1), some (.ref d2), some (.ref Lf), some (.ref td), some (.ref p0), some (.str e0.w.word), some y2, p11, p12] ∧ Same H9 H')
          ⟨_, rfl, Same.refl _⟩ ?_ (fun σ H' ⟨p12, e, s'⟩ => ⟨_, _, _, _, _, _, _, _, _, _, _, _, e, kNOW.trans s'⟩)
        rintro i2 σ HA hi2 ⟨p12, rfl, sA⟩
        refine ⟨_, rfl, _, rfl, rfl, .ref ap, decide (V.int (0 + (i2 : Int)) = V.int 1), cs, fs, rfl, dv.same (TupSame.of (((s3x.trans kMID)).trans sA)), hpo, hbo, fun u HB sB du => ?_⟩
        refine ⟨_, rfl, u, _, optW (checkW cs fs), rfl, du, (dDUE.same (TupSame.of (sA.trans sB))), og.1, og.2, fun HC sC => ⟨true, rfl, iteF ?_⟩⟩
        exact ⟨_, rfl, (sA.trans sB).trans sC⟩
end
end LW

/-! The facts. -/
namespace HX
open PySem PySem.Spec PyProof.Rows L2 PV PF T ET PB PP FM AM AB WR CK WF WL WH LN LW BL
open He (Fa FnD ga ma)
theorem fun_of {K : PySem.W.Frag} (ce : He.SaysE fa fn K) (i : Nat) {p : Str × Option Str} {x q : Str} {st : Stmt} (h : fn[i]? = some ⟨p, x, q, defArgs st, defBody st, defScope st⟩) (kp : PySem.W.keepIn K (.ref (He.fAd K p)) = true) : ∃ fd, L2.Fun K x q st (He.fAd K p) fd := by
  obtain ⟨oc, od, osl, kV, doc, pm, an, cdv, ct, e1, e2⟩ := ce.def_ i h
  exact ⟨_, ⟨oc, od, kV, doc, pm, an, cdv, ct, osl, rfl, e1, e2⟩, kp⟩
theorem lw {w : World} {K : PySem.W.Frag} {h : Heap} {mg : Str → Option Value} (X : K.In h) (G : h.Ns mainGlobals mg) (c : Says w K) : Lw R.prog K w mg (NB K) (ga K "Family") (ga K "BodyLook") ∧ ∃ fd, Gd K mg "law" s_law ["_law_script"] (ga K "law") fd := by
  have ce : He.SaysE fa fn K := congrArg (fun z : Ob => z.1) c
  have ct : (ts.map fun t => He.dicW K (t.1 K)) = ts.map fun t => some (He.keysIn w.params t.2) := congrArg (fun z : Ob => z.2.1) c
  have cx : xb K = true := congrArg (fun z : Ob => z.2.2.1) c
  have ci : fnI K (NI K) = (some ("__init__", "NotLetBy.__init__", defArgs s_NotLetBy_init, .stmts (defBody s_NotLetBy_init), defScope s_NotLetBy_init, mainGlobals, ["__class__"], .none, .none, builtinsNs) : FnI) := congrArg (fun z : Ob => z.2.2.2) c
  have tab : ∀ (i : Nat) t, ts[i]? = some t → ∃ es n, KDict K w (t.1 K) es n := fun i t e => by
    have e2 : (ts.map fun t => He.dicW K (t.1 K))[i]? = (ts.map fun t => some (He.keysIn w.params t.2))[i]? := by rw [ct]
    rw [List.getElem?_map, List.getElem?_map, e] at e2
    exact He.dicW_ok (Option.some.inj e2)
  have g : ∀ x, (Fa.glo x).ok K = true → mg x = some (.ref (ga K x)) := fun x c => He.glo_ok X G c
  obtain ⟨cx1, cx2, cx3, cx4⟩ : xb1 K = true ∧ xb2 K = true ∧ xb3 K = true ∧ xb4 K = true := by
    unfold xb at cx
    simpa only [Bool.and_eq_true] using cx
  obtain ⟨tP, tW, tS, tE, tT⟩ : tupA K (ga K "PLAIN_KINDS") (plainK.map V.str) = true ∧ tupA K (ga K "WORDS") (words.map V.str) = true ∧ tupA K (ga K "SIGNS") (signs.map V.str) = true ∧ tabB K (ga K "EXPRESSIONS") exL = true ∧ tabB K (ga K "STATEMENTS") stL = true := by
    unfold xb1 at cx1
    simpa only [Bool.and_eq_true] using cx1
  obtain ⟨vL, vS⟩ : He.valsB K (ga K "LEAF_KINDS") [("truth", .str "truth")] = true ∧ He.valsB K (ga K "STATEMENT_RULES") [("while", .glo "look_at_while")] = true := by
    unfold xb2 at cx2
    simpa only [Bool.and_eq_true] using cx2
  unfold xb3 at cx3
  unfold xb4 at cx4
  simp only [Bool.and_eq_true, decide_eq_true_eq] at cx3 cx4
  obtain ⟨eXf, eCl, eSa, eTf, eRc, eCd, eCo⟩ := cx3
  obtain ⟨eCe, eSu, eOp, eSv, eKc, eTy, eIc⟩ := cx4
  have xf := xfB_ok eXf
  have z_isinstance : mg "isinstance" = none := He.free_ok X G (ce.fact 115 rfl)
  have z_bool : mg "bool" = none := He.free_ok X G (ce.fact 116 rfl)
  have z_tuple : mg "tuple" = none := He.free_ok X G (ce.fact 117 rfl)
  have z_len : mg "len" = none := He.free_ok X G (ce.fact 118 rfl)
  have z_range : mg "range" = none := He.free_ok X G (ce.fact 119 rfl)
  have z_max : mg "max" = none := He.free_ok X G (ce.fact 120 rfl)
  have z_min : mg "min" = none := He.free_ok X G (ce.fact 121 rfl)
  have z_int : mg "int" = none := He.free_ok X G (ce.fact 122 rfl)
  have z_sum : mg "sum" = none := He.free_ok X G (ce.fact 123 rfl)
  have z_list : mg "list" = none := He.free_ok X G (ce.fact 124 rfl)
  have z_str : mg "str" = none := He.free_ok X G (ce.fact 125 rfl)
  have z_enumerate : mg "enumerate" = none := He.free_ok X G (ce.fact 126 rfl)
  have z_ord : mg "ord" = none := He.free_ok X G (ce.fact 127 rfl)
  have z_super : mg "super" = none := He.free_ok X G (ce.fact 128 rfl)
  have i_MOST_ROWS : ∃ t, mg "MOST_ROWS" = some (.int (3) t) := He.int_ok X G (ce.fact 129 rfl)
  have i_MOST_PARAMS : ∃ t, mg "MOST_PARAMS" = some (.int (6) t) := He.int_ok X G (ce.fact 130 rfl)
  have i_MOST_FIELDS : ∃ t, mg "MOST_FIELDS" = some (.int (8) t) := He.int_ok X G (ce.fact 131 rfl)
  have i_MOST_METHODS : ∃ t, mg "MOST_METHODS" = some (.int (8) t) := He.int_ok X G (ce.fact 132 rfl)
  have i_MOST_CLASSES : ∃ t, mg "MOST_CLASSES" = some (.int (12) t) := He.int_ok X G (ce.fact 133 rfl)
  have i_MOST_FUNCTIONS : ∃ t, mg "MOST_FUNCTIONS" = some (.int (30) t) := He.int_ok X G (ce.fact 134 rfl)
  have i_MOST_NAMES_TOLD : ∃ t, mg "MOST_NAMES_TOLD" = some (.int (16) t) := He.int_ok X G (ce.fact 135 rfl)
  have i_MOST_TRIES : ∃ t, mg "MOST_TRIES" = some (.int (10) t) := He.int_ok X G (ce.fact 136 rfl)
  have i_MOST_NAME_SIGNS : ∃ t, mg "MOST_NAME_SIGNS" = some (.int (8) t) := He.int_ok X G (ce.fact 137 rfl)
  have i_MOST_IN_BODY : ∃ t, mg "MOST_IN_BODY" = some (.int (400) t) := He.int_ok X G (ce.fact 138 rfl)
  have i_MOST_IN_CHAIN : ∃ t, mg "MOST_IN_CHAIN" = some (.int (20) t) := He.int_ok X G (ce.fact 139 rfl)
  have i_LEAST_INT : ∃ t, mg "LEAST_INT" = some (.int (-2147483648) t) := He.int_ok X G (ce.fact 140 rfl)
  have i_GREATEST_INT : ∃ t, mg "GREATEST_INT" = some (.int (2147483647) t) := He.int_ok X G (ce.fact 141 rfl)
  have i_MOST_ENTRY_ROWS : ∃ t, mg "MOST_ENTRY_ROWS" = some (.int (2) t) := He.int_ok X G (ce.fact 142 rfl)
  have i_MOST_TEXT_SIGNS : ∃ t, mg "MOST_TEXT_SIGNS" = some (.int (40) t) := He.int_ok X G (ce.fact 143 rfl)
  have i_NIL : ∃ t, mg "NIL" = some (.str "nil" t) := He.str_ok X G (ce.fact 144 rfl)
  have i_LETTERS : ∃ t, mg "LETTERS" = some (.str letters t) := He.str_ok X G (ce.fact 145 rfl)
  have i_DIGITS : ∃ t, mg "DIGITS" = some (.str digits t) := He.str_ok X G (ce.fact 146 rfl)
  have g_Family := g "Family" (ce.fact 104 rfl)
  have g_BodyLook := g "BodyLook" (ce.fact 105 rfl)
  have g_BodyForm := g "BodyForm" (ce.fact 106 rfl)
  have g_NotLetBy := g "NotLetBy" (ce.fact 107 rfl)
  have g_PLAIN_KINDS := g "PLAIN_KINDS" (ce.fact 108 rfl)
  have g_WORDS := g "WORDS" (ce.fact 109 rfl)
  have g_SIGNS := g "SIGNS" (ce.fact 110 rfl)
  have g_LEAF_KINDS := g "LEAF_KINDS" (ce.fact 111 rfl)
  have g_STATEMENT_RULES := g "STATEMENT_RULES" (ce.fact 112 rfl)
  have g_EXPRESSIONS := g "EXPRESSIONS" (ce.fact 113 rfl)
  have g_STATEMENTS := g "STATEMENTS" (ce.fact 114 rfl)
  have d_is_tuple_to : ∃ fd, Gd K mg "is_tuple_to" s_is_tuple_to ["thing", "most"] (ga K "is_tuple_to") fd := by
    obtain ⟨fd, F⟩ := fun_of ce 0 (st := s_is_tuple_to) rfl (He.keep_ok (x := "is_tuple_to") (ce.fact 1 rfl))
    exact ⟨fd, F, g "is_tuple_to" (ce.fact 0 rfl), F.binds (ps := ["thing", "most"]) fun _ _ _ _ _ _ us hl => match us, hl with | [_, _], _ => rfl⟩
  have d_are_named_kinds : ∃ fd, Gd K mg "are_named_kinds" s_are_named_kinds ["thing", "most"] (ga K "are_named_kinds") fd := by
    obtain ⟨fd, F⟩ := fun_of ce 1 (st := s_are_named_kinds) rfl (He.keep_ok (x := "are_named_kinds") (ce.fact 3 rfl))
    exact ⟨fd, F, g "are_named_kinds" (ce.fact 2 rfl), F.binds (ps := ["thing", "most"]) fun _ _ _ _ _ _ us hl => match us, hl with | [_, _], _ => rfl⟩
  have d_is_function : ∃ fd, Gd K mg "is_function" s_is_function ["thing"] (ga K "is_function") fd := by
    obtain ⟨fd, F⟩ := fun_of ce 2 (st := s_is_function) rfl (He.keep_ok (x := "is_function") (ce.fact 5 rfl))
    exact ⟨fd, F, g "is_function" (ce.fact 4 rfl), F.binds (ps := ["thing"]) fun _ _ _ _ _ _ us hl => match us, hl with | [_], _ => rfl⟩
  have d_are_functions : ∃ fd, Gd K mg "are_functions" s_are_functions ["things"] (ga K "are_functions") fd := by
    obtain ⟨fd, F⟩ := fun_of ce 3 (st := s_are_functions) rfl (He.keep_ok (x := "are_functions") (ce.fact 7 rfl))
    exact ⟨fd, F, g "are_functions" (ce.fact 6 rfl), F.binds (ps := ["things"]) fun _ _ _ _ _ _ us hl => match us, hl with | [_], _ => rfl⟩
  have d_is_class : ∃ fd, Gd K mg "is_class" s_is_class ["thing"] (ga K "is_class") fd := by
    obtain ⟨fd, F⟩ := fun_of ce 4 (st := s_is_class) rfl (He.keep_ok (x := "is_class") (ce.fact 9 rfl))
    exact ⟨fd, F, g "is_class" (ce.fact 8 rfl), F.binds (ps := ["thing"]) fun _ _ _ _ _ _ us hl => match us, hl with | [_], _ => rfl⟩
  have d_is_body : ∃ fd, Gd K mg "is_body" s_is_body ["thing", "params"] (ga K "is_body") fd := by
    obtain ⟨fd, F⟩ := fun_of ce 5 (st := s_is_body) rfl (He.keep_ok (x := "is_body") (ce.fact 11 rfl))
    exact ⟨fd, F, g "is_body" (ce.fact 10 rfl), F.binds (ps := ["thing", "params"]) fun _ _ _ _ _ _ us hl => match us, hl with | [_, _], _ => rfl⟩
  have d_is_tuple_of : ∃ fd, Gd K mg "is_tuple_of" s_is_tuple_of ["thing", "many"] (ga K "is_tuple_of") fd := by
    obtain ⟨fd, F⟩ := fun_of ce 6 (st := s_is_tuple_of) rfl (He.keep_ok (x := "is_tuple_of") (ce.fact 13 rfl))
    exact ⟨fd, F, g "is_tuple_of" (ce.fact 12 rfl), F.binds (ps := ["thing", "many"]) fun _ _ _ _ _ _ us hl => match us, hl with | [_, _], _ => rfl⟩
  have d_is_name : ∃ fd, Gd K mg "is_name" s_is_name ["thing"] (ga K "is_name") fd := by
    obtain ⟨fd, F⟩ := fun_of ce 7 (st := s_is_name) rfl (He.keep_ok (x := "is_name") (ce.fact 15 rfl))
    exact ⟨fd, F, g "is_name" (ce.fact 14 rfl), F.binds (ps := ["thing"]) fun _ _ _ _ _ _ us hl => match us, hl with | [_], _ => rfl⟩
  have d_is_kind : ∃ fd, Gd K mg "is_kind" s_is_kind ["thing", "rows"] (ga K "is_kind") fd := by
    obtain ⟨fd, F⟩ := fun_of ce 8 (st := s_is_kind) rfl (He.keep_ok (x := "is_kind") (ce.fact 17 rfl))
    exact ⟨fd, F, g "is_kind" (ce.fact 16 rfl), F.binds (ps := ["thing", "rows"]) fun _ _ _ _ _ _ us hl => match us, hl with | [_, _], _ => rfl⟩
  have d_is_leaf : ∃ fd, Gd K mg "is_leaf" s_is_leaf ["sort", "thing"] (ga K "is_leaf") fd := by
    obtain ⟨fd, F⟩ := fun_of ce 9 (st := s_is_leaf) rfl (He.keep_ok (x := "is_leaf") (ce.fact 19 rfl))
    exact ⟨fd, F, g "is_leaf" (ce.fact 18 rfl), F.binds (ps := ["sort", "thing"]) fun _ _ _ _ _ _ us hl => match us, hl with | [_, _], _ => rfl⟩
  have d_is_integer : ∃ fd, Gd K mg "is_integer" s_is_integer ["thing"] (ga K "is_integer") fd := by
    obtain ⟨fd, F⟩ := fun_of ce 10 (st := s_is_integer) rfl (He.keep_ok (x := "is_integer") (ce.fact 21 rfl))
    exact ⟨fd, F, g "is_integer" (ce.fact 20 rfl), F.binds (ps := ["thing"]) fun _ _ _ _ _ _ us hl => match us, hl with | [_], _ => rfl⟩
  have d_is_between : ∃ fd, Gd K mg "is_between" s_is_between ["thing", "least", "greatest"] (ga K "is_between") fd := by
    obtain ⟨fd, F⟩ := fun_of ce 11 (st := s_is_between) rfl (He.keep_ok (x := "is_between") (ce.fact 23 rfl))
    exact ⟨fd, F, g "is_between" (ce.fact 22 rfl), F.binds (ps := ["thing", "least", "greatest"]) fun _ _ _ _ _ _ us hl => match us, hl with | [_, _, _], _ => rfl⟩
  have d_is_signs : ∃ fd, Gd K mg "is_signs" s_is_signs ["thing"] (ga K "is_signs") fd := by
    obtain ⟨fd, F⟩ := fun_of ce 12 (st := s_is_signs) rfl (He.keep_ok (x := "is_signs") (ce.fact 25 rfl))
    exact ⟨fd, F, g "is_signs" (ce.fact 24 rfl), F.binds (ps := ["thing"]) fun _ _ _ _ _ _ us hl => match us, hl with | [_], _ => rfl⟩
  have d_is_short_text : ∃ fd, Gd K mg "is_short_text" s_is_short_text ["thing"] (ga K "is_short_text") fd := by
    obtain ⟨fd, F⟩ := fun_of ce 13 (st := s_is_short_text) rfl (He.keep_ok (x := "is_short_text") (ce.fact 27 rfl))
    exact ⟨fd, F, g "is_short_text" (ce.fact 26 rfl), F.binds (ps := ["thing"]) fun _ _ _ _ _ _ us hl => match us, hl with | [_], _ => rfl⟩
  have d_entry_of : ∃ fd, Gd K mg "entry_of" s_entry_of ["kind"] (ga K "entry_of") fd := by
    obtain ⟨fd, F⟩ := fun_of ce 14 (st := s_entry_of) rfl (He.keep_ok (x := "entry_of") (ce.fact 29 rfl))
    exact ⟨fd, F, g "entry_of" (ce.fact 28 rfl), F.binds (ps := ["kind"]) fun _ _ _ _ _ _ us hl => match us, hl with | [_], _ => rfl⟩
  have d_class_of : ∃ fd, Gd K mg "class_of" s_class_of ["kind"] (ga K "class_of") fd := by
    obtain ⟨fd, F⟩ := fun_of ce 15 (st := s_class_of) rfl (He.keep_ok (x := "class_of") (ce.fact 31 rfl))
    exact ⟨fd, F, g "class_of" (ce.fact 30 rfl), F.binds (ps := ["kind"]) fun _ _ _ _ _ _ us hl => match us, hl with | [_], _ => rfl⟩
  have d_is_reference : ∃ fd, Gd K mg "is_reference" s_is_reference ["kind"] (ga K "is_reference") fd := by
    obtain ⟨fd, F⟩ := fun_of ce 16 (st := s_is_reference) rfl (He.keep_ok (x := "is_reference") (ce.fact 33 rfl))
    exact ⟨fd, F, g "is_reference" (ce.fact 32 rfl), F.binds (ps := ["kind"]) fun _ _ _ _ _ _ us hl => match us, hl with | [_], _ => rfl⟩
  have d_is_program : ∃ fd, Gd K mg "is_program" s_is_program ["thing"] (ga K "is_program") fd := by
    obtain ⟨fd, F⟩ := fun_of ce 17 (st := s_is_program) rfl (He.keep_ok (x := "is_program") (ce.fact 35 rfl))
    exact ⟨fd, F, g "is_program" (ce.fact 34 rfl), F.binds (ps := ["thing"]) fun _ _ _ _ _ _ us hl => match us, hl with | [_], _ => rfl⟩
  have d_look_at_classes : ∃ fd, Gd K mg "look_at_classes" s_look_at_classes ["classes", "family"] (ga K "look_at_classes") fd := by
    obtain ⟨fd, F⟩ := fun_of ce 18 (st := s_look_at_classes) rfl (He.keep_ok (x := "look_at_classes") (ce.fact 37 rfl))
    exact ⟨fd, F, g "look_at_classes" (ce.fact 36 rfl), F.binds (ps := ["classes", "family"]) fun _ _ _ _ _ _ us hl => match us, hl with | [_, _], _ => rfl⟩
  have d_look_at_fields : ∃ fd, Gd K mg "look_at_fields" s_look_at_fields ["name", "above", "fields", "family"] (ga K "look_at_fields") fd := by
    obtain ⟨fd, F⟩ := fun_of ce 19 (st := s_look_at_fields) rfl (He.keep_ok (x := "look_at_fields") (ce.fact 39 rfl))
    exact ⟨fd, F, g "look_at_fields" (ce.fact 38 rfl), F.binds (ps := ["name", "above", "fields", "family"]) fun _ _ _ _ _ _ us hl => match us, hl with | [_, _, _, _], _ => rfl⟩
  have d_look_at_methods : ∃ fd, Gd K mg "look_at_methods" s_look_at_methods ["each", "family"] (ga K "look_at_methods") fd := by
    obtain ⟨fd, F⟩ := fun_of ce 20 (st := s_look_at_methods) rfl (He.keep_ok (x := "look_at_methods") (ce.fact 41 rfl))
    exact ⟨fd, F, g "look_at_methods" (ce.fact 40 rfl), F.binds (ps := ["each", "family"]) fun _ _ _ _ _ _ us hl => match us, hl with | [_, _], _ => rfl⟩
  have d_look_at_head : ∃ fd, Gd K mg "look_at_head" s_look_at_head ["family", "owner", "ahead", "function"] (ga K "look_at_head") fd := by
    obtain ⟨fd, F⟩ := fun_of ce 21 (st := s_look_at_head) rfl (He.keep_ok (x := "look_at_head") (ce.fact 43 rfl))
    exact ⟨fd, F, g "look_at_head" (ce.fact 42 rfl), F.binds (ps := ["family", "owner", "ahead", "function"]) fun _ _ _ _ _ _ us hl => match us, hl with | [_, _, _, _], _ => rfl⟩
  have d_look_at_override : ∃ fd, Gd K mg "look_at_override" s_look_at_override ["family", "owner", "above", "method"] (ga K "look_at_override") fd := by
    obtain ⟨fd, F⟩ := fun_of ce 22 (st := s_look_at_override) rfl (He.keep_ok (x := "look_at_override") (ce.fact 45 rfl))
    exact ⟨fd, F, g "look_at_override" (ce.fact 44 rfl), F.binds (ps := ["family", "owner", "above", "method"]) fun _ _ _ _ _ _ us hl => match us, hl with | [_, _, _, _], _ => rfl⟩
  have d_head_kinds : ∃ fd, Gd K mg "head_kinds" s_head_kinds ["function"] (ga K "head_kinds") fd := by
    obtain ⟨fd, F⟩ := fun_of ce 23 (st := s_head_kinds) rfl (He.keep_ok (x := "head_kinds") (ce.fact 47 rfl))
    exact ⟨fd, F, g "head_kinds" (ce.fact 46 rfl), F.binds (ps := ["function"]) fun _ _ _ _ _ _ us hl => match us, hl with | [_], _ => rfl⟩
  have d_look_at_functions : ∃ fd, Gd K mg "look_at_functions" s_look_at_functions ["functions", "family"] (ga K "look_at_functions") fd := by
    obtain ⟨fd, F⟩ := fun_of ce 24 (st := s_look_at_functions) rfl (He.keep_ok (x := "look_at_functions") (ce.fact 49 rfl))
    exact ⟨fd, F, g "look_at_functions" (ce.fact 48 rfl), F.binds (ps := ["functions", "family"]) fun _ _ _ _ _ _ us hl => match us, hl with | [_, _], _ => rfl⟩
  have d_look_for_main : ∃ fd, Gd K mg "look_for_main" s_look_for_main ["functions"] (ga K "look_for_main") fd := by
    obtain ⟨fd, F⟩ := fun_of ce 25 (st := s_look_for_main) rfl (He.keep_ok (x := "look_for_main") (ce.fact 51 rfl))
    exact ⟨fd, F, g "look_for_main" (ce.fact 50 rfl), F.binds (ps := ["functions"]) fun _ _ _ _ _ _ us hl => match us, hl with | [_], _ => rfl⟩
  have d_look_at_body : ∃ fd, Gd K mg "look_at_body" s_look_at_body ["family", "functions", "owner", "function"] (ga K "look_at_body") fd := by
    obtain ⟨fd, F⟩ := fun_of ce 26 (st := s_look_at_body) rfl (He.keep_ok (x := "look_at_body") (ce.fact 53 rfl))
    exact ⟨fd, F, g "look_at_body" (ce.fact 52 rfl), F.binds (ps := ["family", "functions", "owner", "function"]) fun _ _ _ _ _ _ us hl => match us, hl with | [_, _, _, _], _ => rfl⟩
  have d_kind_of : ∃ fd, Gd K mg "kind_of" s_kind_of ["look", "expression"] (ga K "kind_of") fd := by
    obtain ⟨fd, F⟩ := fun_of ce 27 (st := s_kind_of) rfl (He.keep_ok (x := "kind_of") (ce.fact 55 rfl))
    exact ⟨fd, F, g "kind_of" (ce.fact 54 rfl), F.binds (ps := ["look", "expression"]) fun _ _ _ _ _ _ us hl => match us, hl with | [_, _], _ => rfl⟩
  have d_look_for_fit : ∃ fd, Gd K mg "look_for_fit" s_look_for_fit ["look", "part", "wanted"] (ga K "look_for_fit") fd := by
    obtain ⟨fd, F⟩ := fun_of ce 28 (st := s_look_for_fit) rfl (He.keep_ok (x := "look_for_fit") (ce.fact 57 rfl))
    exact ⟨fd, F, g "look_for_fit" (ce.fact 56 rfl), F.binds (ps := ["look", "part", "wanted"]) fun _ _ _ _ _ _ us hl => match us, hl with | [_, _, _], _ => rfl⟩
  have d_look_at_block : ∃ fd, Gd K mg "look_at_block" s_look_at_block ["look", "block"] (ga K "look_at_block") fd := by
    obtain ⟨fd, F⟩ := fun_of ce 29 (st := s_look_at_block) rfl (He.keep_ok (x := "look_at_block") (ce.fact 59 rfl))
    exact ⟨fd, F, g "look_at_block" (ce.fact 58 rfl), F.binds (ps := ["look", "block"]) fun _ _ _ _ _ _ us hl => match us, hl with | [_, _], _ => rfl⟩
  have d_look_at_while : ∃ fd, Gd K mg "look_at_while" s_look_at_while ["look", "statement", "at"] (ga K "look_at_while") fd := by
    obtain ⟨fd, F⟩ := fun_of ce 30 (st := s_look_at_while) rfl (He.keep_ok (x := "look_at_while") (ce.fact 61 rfl))
    exact ⟨fd, F, g "look_at_while" (ce.fact 60 rfl), F.binds (ps := ["look", "statement", "at"]) fun _ _ _ _ _ _ us hl => match us, hl with | [_, _, _], _ => rfl⟩
  have d_is_ended : ∃ fd, Gd K mg "is_ended" s_is_ended ["block"] (ga K "is_ended") fd := by
    obtain ⟨fd, F⟩ := fun_of ce 31 (st := s_is_ended) rfl (He.keep_ok (x := "is_ended") (ce.fact 63 rfl))
    exact ⟨fd, F, g "is_ended" (ce.fact 62 rfl), F.binds (ps := ["block"]) fun _ _ _ _ _ _ us hl => match us, hl with | [_], _ => rfl⟩
  have d_ends_block : ∃ fd, Gd K mg "ends_block" s_ends_block ["statement"] (ga K "ends_block") fd := by
    obtain ⟨fd, F⟩ := fun_of ce 32 (st := s_ends_block) rfl (He.keep_ok (x := "ends_block") (ce.fact 65 rfl))
    exact ⟨fd, F, g "ends_block" (ce.fact 64 rfl), F.binds (ps := ["statement"]) fun _ _ _ _ _ _ us hl => match us, hl with | [_], _ => rfl⟩
  have d_checked : ∃ fd, Gd K mg "checked" s_checked ["program"] (ga K "checked") fd := by
    obtain ⟨fd, F⟩ := fun_of ce 33 (st := s_checked) rfl (He.keep_ok (x := "checked") (ce.fact 67 rfl))
    exact ⟨fd, F, g "checked" (ce.fact 66 rfl), F.binds (ps := ["program"]) fun _ _ _ _ _ _ us hl => match us, hl with | [_], _ => rfl⟩
  have d_check : ∃ fd, Gd K mg "check" s_check ["program"] (ga K "check") fd := by
    obtain ⟨fd, F⟩ := fun_of ce 34 (st := s_check) rfl (He.keep_ok (x := "check") (ce.fact 69 rfl))
    exact ⟨fd, F, g "check" (ce.fact 68 rfl), F.binds (ps := ["program"]) fun _ _ _ _ _ _ us hl => match us, hl with | [_], _ => rfl⟩
  have d__law_alike : ∃ fd, Gd K mg "_law_alike" s_law_alike ["_law_found", "_law_due"] (ga K "_law_alike") fd := by
    obtain ⟨fd, F⟩ := fun_of ce 35 (st := s_law_alike) rfl (He.keep_ok (x := "_law_alike") (ce.fact 71 rfl))
    exact ⟨fd, F, g "_law_alike" (ce.fact 70 rfl), F.binds (ps := ["_law_found", "_law_due"]) fun _ _ _ _ _ _ us hl => match us, hl with | [_, _], _ => rfl⟩
  have d__law_told : ∃ fd, Gd K mg "_law_told" s_law_told ["_law_program", "_law_by_name"] (ga K "_law_told") fd := by
    obtain ⟨fd, F⟩ := fun_of ce 36 (st := s_law_told) rfl (He.keep_ok (x := "_law_told") (ce.fact 73 rfl))
    exact ⟨fd, F, g "_law_told" (ce.fact 72 rfl), F.binds (ps := ["_law_program", "_law_by_name"]) fun _ _ _ _ _ _ us hl => match us, hl with | [_, _], _ => rfl⟩
  have d__law_heads : ∃ fd, Gd K mg "_law_heads" s_law_heads ["_law_feed_here"] (ga K "_law_heads") fd := by
    obtain ⟨fd, F⟩ := fun_of ce 37 (st := s_law_heads) rfl (He.keep_ok (x := "_law_heads") (ce.fact 75 rfl))
    exact ⟨fd, F, g "_law_heads" (ce.fact 74 rfl), F.binds (ps := ["_law_feed_here"]) fun _ _ _ _ _ _ us hl => match us, hl with | [_], _ => rfl⟩
  have d__law_above : ∃ fd, Gd K mg "_law_above" s_law_above ["_law_classes"] (ga K "_law_above") fd := by
    obtain ⟨fd, F⟩ := fun_of ce 38 (st := s_law_above) rfl (He.keep_ok (x := "_law_above") (ce.fact 77 rfl))
    exact ⟨fd, F, g "_law_above" (ce.fact 76 rfl), F.binds (ps := ["_law_classes"]) fun _ _ _ _ _ _ us hl => match us, hl with | [_], _ => rfl⟩
  have d__law_wrong_classes : ∃ fd, Gd K mg "_law_wrong_classes" s_law_wrong_classes ["_law_classes", "_law_first", "_law_rows"] (ga K "_law_wrong_classes") fd := by
    obtain ⟨fd, F⟩ := fun_of ce 39 (st := s_law_wrong_classes) rfl (He.keep_ok (x := "_law_wrong_classes") (ce.fact 79 rfl))
    exact ⟨fd, F, g "_law_wrong_classes" (ce.fact 78 rfl), F.binds (ps := ["_law_classes", "_law_first", "_law_rows"]) fun _ _ _ _ _ _ us hl => match us, hl with | [_, _, _], _ => rfl⟩
  have d__law_wrong_heads : ∃ fd, Gd K mg "_law_wrong_heads" s_law_wrong_heads ["_law_program", "_law_first", "_law_rows"] (ga K "_law_wrong_heads") fd := by
    obtain ⟨fd, F⟩ := fun_of ce 40 (st := s_law_wrong_heads) rfl (He.keep_ok (x := "_law_wrong_heads") (ce.fact 81 rfl))
    exact ⟨fd, F, g "_law_wrong_heads" (ce.fact 80 rfl), F.binds (ps := ["_law_program", "_law_first", "_law_rows"]) fun _ _ _ _ _ _ us hl => match us, hl with | [_, _, _], _ => rfl⟩
  have d__law_feed : ∃ fd, Gd K mg "_law_feed" s_law_feed ["_law_script", "_law_k"] (ga K "_law_feed") fd := by
    obtain ⟨fd, F⟩ := fun_of ce 41 (st := s_law_feed) rfl (He.keep_ok (x := "_law_feed") (ce.fact 83 rfl))
    exact ⟨fd, F, g "_law_feed" (ce.fact 82 rfl), F.binds (ps := ["_law_script", "_law_k"]) fun _ _ _ _ _ _ us hl => match us, hl with | [_, _], _ => rfl⟩
  have d__law_draw : ∃ fd, Gd K mg "_law_draw" s_law_draw ["_law_feed_here", "_law_many"] (ga K "_law_draw") fd := by
    obtain ⟨fd, F⟩ := fun_of ce 42 (st := s_law_draw) rfl (He.keep_ok (x := "_law_draw") (ce.fact 85 rfl))
    exact ⟨fd, F, g "_law_draw" (ce.fact 84 rfl), F.binds (ps := ["_law_feed_here", "_law_many"]) fun _ _ _ _ _ _ us hl => match us, hl with | [_, _], _ => rfl⟩
  have d__law_one : ∃ fd, Gd K mg "_law_one" s_law_one ["_law_feed_here", "_law_things"] (ga K "_law_one") fd := by
    obtain ⟨fd, F⟩ := fun_of ce 43 (st := s_law_one) rfl (He.keep_ok (x := "_law_one") (ce.fact 87 rfl))
    exact ⟨fd, F, g "_law_one" (ce.fact 86 rfl), F.binds (ps := ["_law_feed_here", "_law_things"]) fun _ _ _ _ _ _ us hl => match us, hl with | [_, _], _ => rfl⟩
  have d__law_words : ∃ fd, Gd K mg "_law_words" s_law_words [] (ga K "_law_words") fd := by
    obtain ⟨fd, F⟩ := fun_of ce 44 (st := s_law_words) rfl (He.keep_ok (x := "_law_words") (ce.fact 89 rfl))
    exact ⟨fd, F, g "_law_words" (ce.fact 88 rfl), F.binds (ps := []) fun _ _ _ _ _ _ us hl => match us, hl with | [], _ => rfl⟩
  have d__law_name : ∃ fd, Gd K mg "_law_name" s_law_name ["_law_feed_here"] (ga K "_law_name") fd := by
    obtain ⟨fd, F⟩ := fun_of ce 45 (st := s_law_name) rfl (He.keep_ok (x := "_law_name") (ce.fact 91 rfl))
    exact ⟨fd, F, g "_law_name" (ce.fact 90 rfl), F.binds (ps := ["_law_feed_here"]) fun _ _ _ _ _ _ us hl => match us, hl with | [_], _ => rfl⟩
  have d__law_some : ∃ fd, Gd K mg "_law_some" s_law_some ["_law_feed_here", "_law_pool", "_law_at", "_law_calm"] (ga K "_law_some") fd := by
    obtain ⟨fd, F⟩ := fun_of ce 46 (st := s_law_some) rfl (He.keep_ok (x := "_law_some") (ce.fact 93 rfl))
    exact ⟨fd, F, g "_law_some" (ce.fact 92 rfl), F.binds (ps := ["_law_feed_here", "_law_pool", "_law_at", "_law_calm"]) fun _ _ _ _ _ _ us hl => match us, hl with | [_, _, _, _], _ => rfl⟩
  have d__law_kind_in : ∃ fd, Gd K mg "_law_kind_in" s_law_kind_in ["_law_feed_here", "_law_pool", "_law_calm"] (ga K "_law_kind_in") fd := by
    obtain ⟨fd, F⟩ := fun_of ce 47 (st := s_law_kind_in) rfl (He.keep_ok (x := "_law_kind_in") (ce.fact 95 rfl))
    exact ⟨fd, F, g "_law_kind_in" (ce.fact 94 rfl), F.binds (ps := ["_law_feed_here", "_law_pool", "_law_calm"]) fun _ _ _ _ _ _ us hl => match us, hl with | [_, _, _], _ => rfl⟩
  have d__law_pairs : ∃ fd, Gd K mg "_law_pairs" s_law_pairs ["_law_feed_here", "_law_names", "_law_pool", "_law_many", "_law_calm"] (ga K "_law_pairs") fd := by
    obtain ⟨fd, F⟩ := fun_of ce 48 (st := s_law_pairs) rfl (He.keep_ok (x := "_law_pairs") (ce.fact 97 rfl))
    exact ⟨fd, F, g "_law_pairs" (ce.fact 96 rfl), F.binds (ps := ["_law_feed_here", "_law_names", "_law_pool", "_law_many", "_law_calm"]) fun _ _ _ _ _ _ us hl => match us, hl with | [_, _, _, _, _], _ => rfl⟩
  have d__law_head : ∃ fd, Gd K mg "_law_head" s_law_head ["_law_feed_here", "_law_name_here", "_law_pool", "_law_calm"] (ga K "_law_head") fd := by
    obtain ⟨fd, F⟩ := fun_of ce 49 (st := s_law_head) rfl (He.keep_ok (x := "_law_head") (ce.fact 99 rfl))
    exact ⟨fd, F, g "_law_head" (ce.fact 98 rfl), F.binds (ps := ["_law_feed_here", "_law_name_here", "_law_pool", "_law_calm"]) fun _ _ _ _ _ _ us hl => match us, hl with | [_, _, _, _], _ => rfl⟩
  have d__law_lacks : ∃ fd, Gd K mg "_law_lacks" s_law_lacks ["_law_first", "_law_kind_here"] (ga K "_law_lacks") fd := by
    obtain ⟨fd, F⟩ := fun_of ce 50 (st := s_law_lacks) rfl (He.keep_ok (x := "_law_lacks") (ce.fact 101 rfl))
    exact ⟨fd, F, g "_law_lacks" (ce.fact 100 rfl), F.binds (ps := ["_law_first", "_law_kind_here"]) fun _ _ _ _ _ _ us hl => match us, hl with | [_, _], _ => rfl⟩
  have d_law : ∃ fd, Gd K mg "law" s_law ["_law_script"] (ga K "law") fd := by
    obtain ⟨fd, F⟩ := fun_of ce 51 (st := s_law) rfl (He.keep_ok (x := "law") (ce.fact 103 rfl))
    exact ⟨fd, F, g "law" (ce.fact 102 rfl), F.binds (ps := ["_law_script"]) fun _ _ _ _ _ _ us hl => match us, hl with | [_], _ => rfl⟩
  have h_m_Family_init : Meth K (ga K "Family") "__init__" (ma K (ga K "Family") "__init__") := He.meth_ok (ce.fact 164 rfl)
  have m_Family_init : ∃ fd, L2.Fun K "__init__" "Family.__init__" s_Family_init (ma K (ga K "Family") "__init__") fd ∧ Binds K fd ["self", "classes"] [] := by
    obtain ⟨fd, F⟩ := fun_of ce 52 (st := s_Family_init) rfl h_m_Family_init.kp
    exact ⟨fd, F, F.binds (ps := ["self", "classes"]) fun _ _ _ _ _ _ us hl => match us, hl with | [_, _], _ => rfl⟩
  have h_m_Family_has : Meth K (ga K "Family") "has" (ma K (ga K "Family") "has") := He.meth_ok (ce.fact 165 rfl)
  have m_Family_has : ∃ fd, Md K (ga K "Family") "has" "Family.has" s_Family_has ["self", "name"] (ma K (ga K "Family") "has") fd := by
    obtain ⟨fd, F⟩ := fun_of ce 53 (st := s_Family_has) rfl h_m_Family_has.kp
    exact ⟨fd, F, h_m_Family_has, F.binds (ps := ["self", "name"]) fun _ _ _ _ _ _ us hl => match us, hl with | [_, _], _ => rfl⟩
  have h_m_Family_knows : Meth K (ga K "Family") "knows" (ma K (ga K "Family") "knows") := He.meth_ok (ce.fact 166 rfl)
  have m_Family_knows : ∃ fd, Md K (ga K "Family") "knows" "Family.knows" s_Family_knows ["self", "kind"] (ma K (ga K "Family") "knows") fd := by
    obtain ⟨fd, F⟩ := fun_of ce 54 (st := s_Family_knows) rfl h_m_Family_knows.kp
    exact ⟨fd, F, h_m_Family_knows, F.binds (ps := ["self", "kind"]) fun _ _ _ _ _ _ us hl => match us, hl with | [_, _], _ => rfl⟩
  have h_m_Family_field_kind : Meth K (ga K "Family") "field_kind" (ma K (ga K "Family") "field_kind") := He.meth_ok (ce.fact 167 rfl)
  have m_Family_field_kind : ∃ fd, Md K (ga K "Family") "field_kind" "Family.field_kind" s_Family_field_kind ["self", "name", "field"] (ma K (ga K "Family") "field_kind") fd := by
    obtain ⟨fd, F⟩ := fun_of ce 55 (st := s_Family_field_kind) rfl h_m_Family_field_kind.kp
    exact ⟨fd, F, h_m_Family_field_kind, F.binds (ps := ["self", "name", "field"]) fun _ _ _ _ _ _ us hl => match us, hl with | [_, _, _], _ => rfl⟩
  have h_m_Family_line : Meth K (ga K "Family") "line" (ma K (ga K "Family") "line") := He.meth_ok (ce.fact 168 rfl)
  have m_Family_line : ∃ fd, Md K (ga K "Family") "line" "Family.line" s_Family_line ["self", "name"] (ma K (ga K "Family") "line") fd := by
    obtain ⟨fd, F⟩ := fun_of ce 56 (st := s_Family_line) rfl h_m_Family_line.kp
    exact ⟨fd, F, h_m_Family_line, F.binds (ps := ["self", "name"]) fun _ _ _ _ _ _ us hl => match us, hl with | [_, _], _ => rfl⟩
  have h_m_Family_is_below : Meth K (ga K "Family") "is_below" (ma K (ga K "Family") "is_below") := He.meth_ok (ce.fact 169 rfl)
  have m_Family_is_below : ∃ fd, Md K (ga K "Family") "is_below" "Family.is_below" s_Family_is_below ["self", "name", "other"] (ma K (ga K "Family") "is_below") fd := by
    obtain ⟨fd, F⟩ := fun_of ce 57 (st := s_Family_is_below) rfl h_m_Family_is_below.kp
    exact ⟨fd, F, h_m_Family_is_below, F.binds (ps := ["self", "name", "other"]) fun _ _ _ _ _ _ us hl => match us, hl with | [_, _, _], _ => rfl⟩
  have h_m_Family_is_kind_below : Meth K (ga K "Family") "is_kind_below" (ma K (ga K "Family") "is_kind_below") := He.meth_ok (ce.fact 170 rfl)
  have m_Family_is_kind_below : ∃ fd, Md K (ga K "Family") "is_kind_below" "Family.is_kind_below" s_Family_is_kind_below ["self", "kind", "other"] (ma K (ga K "Family") "is_kind_below") fd := by
    obtain ⟨fd, F⟩ := fun_of ce 58 (st := s_Family_is_kind_below) rfl h_m_Family_is_kind_below.kp
    exact ⟨fd, F, h_m_Family_is_kind_below, F.binds (ps := ["self", "kind", "other"]) fun _ _ _ _ _ _ us hl => match us, hl with | [_, _, _], _ => rfl⟩
  have h_m_Family_fits : Meth K (ga K "Family") "fits" (ma K (ga K "Family") "fits") := He.meth_ok (ce.fact 171 rfl)
  have m_Family_fits : ∃ fd, Md K (ga K "Family") "fits" "Family.fits" s_Family_fits ["self", "kind", "other"] (ma K (ga K "Family") "fits") fd := by
    obtain ⟨fd, F⟩ := fun_of ce 59 (st := s_Family_fits) rfl h_m_Family_fits.kp
    exact ⟨fd, F, h_m_Family_fits, F.binds (ps := ["self", "kind", "other"]) fun _ _ _ _ _ _ us hl => match us, hl with | [_, _, _], _ => rfl⟩
  have h_m_Family_may_be_same : Meth K (ga K "Family") "may_be_same" (ma K (ga K "Family") "may_be_same") := He.meth_ok (ce.fact 172 rfl)
  have m_Family_may_be_same : ∃ fd, Md K (ga K "Family") "may_be_same" "Family.may_be_same" s_Family_may_be_same ["self", "kind", "other"] (ma K (ga K "Family") "may_be_same") fd := by
    obtain ⟨fd, F⟩ := fun_of ce 60 (st := s_Family_may_be_same) rfl h_m_Family_may_be_same.kp
    exact ⟨fd, F, h_m_Family_may_be_same, F.binds (ps := ["self", "kind", "other"]) fun _ _ _ _ _ _ us hl => match us, hl with | [_, _, _], _ => rfl⟩
  have h_m_BodyLook_init : Meth K (ga K "BodyLook") "__init__" (ma K (ga K "BodyLook") "__init__") := He.meth_ok (ce.fact 173 rfl)
  have m_BodyLook_init : ∃ fd, L2.Fun K "__init__" "BodyLook.__init__" s_BodyLook_init (ma K (ga K "BodyLook") "__init__") fd ∧ Binds K fd ["self", "family", "functions", "owner", "function"] [] := by
    obtain ⟨fd, F⟩ := fun_of ce 61 (st := s_BodyLook_init) rfl h_m_BodyLook_init.kp
    exact ⟨fd, F, F.binds (ps := ["self", "family", "functions", "owner", "function"]) fun _ _ _ _ _ _ us hl => match us, hl with | [_, _, _, _, _], _ => rfl⟩
  have h_m_BodyLook_begin : Meth K (ga K "BodyLook") "begin" (ma K (ga K "BodyLook") "begin") := He.meth_ok (ce.fact 174 rfl)
  have m_BodyLook_begin : ∃ fd, Md K (ga K "BodyLook") "begin" "BodyLook.begin" s_BodyLook_begin ["self"] (ma K (ga K "BodyLook") "begin") fd := by
    obtain ⟨fd, F⟩ := fun_of ce 62 (st := s_BodyLook_begin) rfl h_m_BodyLook_begin.kp
    exact ⟨fd, F, h_m_BodyLook_begin, F.binds (ps := ["self"]) fun _ _ _ _ _ _ us hl => match us, hl with | [_], _ => rfl⟩
  have h_m_BodyForm_init : Meth K (ga K "BodyForm") "__init__" (ma K (ga K "BodyForm") "__init__") := He.meth_ok (ce.fact 175 rfl)
  have m_BodyForm_init : ∃ fd, L2.Fun K "__init__" "BodyForm.__init__" s_BodyForm_init (ma K (ga K "BodyForm") "__init__") fd ∧ Binds K fd ["self", "params"] [] := by
    obtain ⟨fd, F⟩ := fun_of ce 63 (st := s_BodyForm_init) rfl h_m_BodyForm_init.kp
    exact ⟨fd, F, F.binds (ps := ["self", "params"]) fun _ _ _ _ _ _ us hl => match us, hl with | [_, _], _ => rfl⟩
  have h_m_BodyForm_is_expression : Meth K (ga K "BodyForm") "is_expression" (ma K (ga K "BodyForm") "is_expression") := He.meth_ok (ce.fact 176 rfl)
  have m_BodyForm_is_expression : ∃ fd, Md K (ga K "BodyForm") "is_expression" "BodyForm.is_expression" s_BodyForm_is_expression ["self", "thing", "depth"] (ma K (ga K "BodyForm") "is_expression") fd := by
    obtain ⟨fd, F⟩ := fun_of ce 64 (st := s_BodyForm_is_expression) rfl h_m_BodyForm_is_expression.kp
    exact ⟨fd, F, h_m_BodyForm_is_expression, F.binds (ps := ["self", "thing", "depth"]) fun _ _ _ _ _ _ us hl => match us, hl with | [_, _, _], _ => rfl⟩
  have h_m_BodyForm_is_statement : Meth K (ga K "BodyForm") "is_statement" (ma K (ga K "BodyForm") "is_statement") := He.meth_ok (ce.fact 177 rfl)
  have m_BodyForm_is_statement : ∃ fd, Md K (ga K "BodyForm") "is_statement" "BodyForm.is_statement" s_BodyForm_is_statement ["self", "thing", "depth"] (ma K (ga K "BodyForm") "is_statement") fd := by
    obtain ⟨fd, F⟩ := fun_of ce 65 (st := s_BodyForm_is_statement) rfl h_m_BodyForm_is_statement.kp
    exact ⟨fd, F, h_m_BodyForm_is_statement, F.binds (ps := ["self", "thing", "depth"]) fun _ _ _ _ _ _ us hl => match us, hl with | [_, _, _], _ => rfl⟩
  have h_m_BodyForm_is_block : Meth K (ga K "BodyForm") "is_block" (ma K (ga K "BodyForm") "is_block") := He.meth_ok (ce.fact 178 rfl)
  have m_BodyForm_is_block : ∃ fd, Md K (ga K "BodyForm") "is_block" "BodyForm.is_block" s_BodyForm_is_block ["self", "thing", "depth"] (ma K (ga K "BodyForm") "is_block") fd := by
    obtain ⟨fd, F⟩ := fun_of ce 66 (st := s_BodyForm_is_block) rfl h_m_BodyForm_is_block.kp
    exact ⟨fd, F, h_m_BodyForm_is_block, F.binds (ps := ["self", "thing", "depth"]) fun _ _ _ _ _ _ us hl => match us, hl with | [_, _, _], _ => rfl⟩
  have h_m_BodyForm_are_args : Meth K (ga K "BodyForm") "are_args" (ma K (ga K "BodyForm") "are_args") := He.meth_ok (ce.fact 179 rfl)
  have m_BodyForm_are_args : ∃ fd, Md K (ga K "BodyForm") "are_args" "BodyForm.are_args" s_BodyForm_are_args ["self", "thing", "depth"] (ma K (ga K "BodyForm") "are_args") fd := by
    obtain ⟨fd, F⟩ := fun_of ce 67 (st := s_BodyForm_are_args) rfl h_m_BodyForm_are_args.kp
    exact ⟨fd, F, h_m_BodyForm_are_args, F.binds (ps := ["self", "thing", "depth"]) fun _ _ _ _ _ _ us hl => match us, hl with | [_, _, _], _ => rfl⟩
  have h_m_BodyForm_may_begin : Meth K (ga K "BodyForm") "may_begin" (ma K (ga K "BodyForm") "may_begin") := He.meth_ok (ce.fact 180 rfl)
  have m_BodyForm_may_begin : ∃ fd, Md K (ga K "BodyForm") "may_begin" "BodyForm.may_begin" s_BodyForm_may_begin ["self", "thing", "depth"] (ma K (ga K "BodyForm") "may_begin") fd := by
    obtain ⟨fd, F⟩ := fun_of ce 68 (st := s_BodyForm_may_begin) rfl h_m_BodyForm_may_begin.kp
    exact ⟨fd, F, h_m_BodyForm_may_begin, F.binds (ps := ["self", "thing", "depth"]) fun _ _ _ _ _ _ us hl => match us, hl with | [_, _, _], _ => rfl⟩
  have h_m_BodyForm_are_parts : Meth K (ga K "BodyForm") "are_parts" (ma K (ga K "BodyForm") "are_parts") := He.meth_ok (ce.fact 181 rfl)
  have m_BodyForm_are_parts : ∃ fd, Md K (ga K "BodyForm") "are_parts" "BodyForm.are_parts" s_BodyForm_are_parts ["self", "sorts", "thing", "depth"] (ma K (ga K "BodyForm") "are_parts") fd := by
    obtain ⟨fd, F⟩ := fun_of ce 69 (st := s_BodyForm_are_parts) rfl h_m_BodyForm_are_parts.kp
    exact ⟨fd, F, h_m_BodyForm_are_parts, F.binds (ps := ["self", "sorts", "thing", "depth"]) fun _ _ _ _ _ _ us hl => match us, hl with | [_, _, _, _], _ => rfl⟩
  have h_m_BodyForm_is_part : Meth K (ga K "BodyForm") "is_part" (ma K (ga K "BodyForm") "is_part") := He.meth_ok (ce.fact 182 rfl)
  have m_BodyForm_is_part : ∃ fd, Md K (ga K "BodyForm") "is_part" "BodyForm.is_part" s_BodyForm_is_part ["self", "sort", "thing", "depth"] (ma K (ga K "BodyForm") "is_part") fd := by
    obtain ⟨fd, F⟩ := fun_of ce 70 (st := s_BodyForm_is_part) rfl h_m_BodyForm_is_part.kp
    exact ⟨fd, F, h_m_BodyForm_is_part, F.binds (ps := ["self", "sort", "thing", "depth"]) fun _ _ _ _ _ _ us hl => match us, hl with | [_, _, _, _], _ => rfl⟩
  have c_Family : Cls K (ga K "Family") := He.cls_ok (ce.fact 147 rfl)
  have k_Family : Mk K (ga K "Family") (ma K (ga K "Family") "__init__") := He.mkr_ok (ce.fact 148 rfl)
  have c_BodyLook : Cls K (ga K "BodyLook") := He.cls_ok (ce.fact 149 rfl)
  have k_BodyLook : Mk K (ga K "BodyLook") (ma K (ga K "BodyLook") "__init__") := He.mkr_ok (ce.fact 150 rfl)
  have c_BodyForm : Cls K (ga K "BodyForm") := He.cls_ok (ce.fact 151 rfl)
  have k_BodyForm : Mk K (ga K "BodyForm") (ma K (ga K "BodyForm") "__init__") := He.mkr_ok (ce.fact 152 rfl)
  have n_Family_by_name : NoAttr K (ga K "Family") "by_name" := He.noat_ok (ce.fact 153 rfl)
  have n_BodyLook_family : NoAttr K (ga K "BodyLook") "family" := He.noat_ok (ce.fact 154 rfl)
  have n_BodyLook_functions : NoAttr K (ga K "BodyLook") "functions" := He.noat_ok (ce.fact 155 rfl)
  have n_BodyLook_owner : NoAttr K (ga K "BodyLook") "owner" := He.noat_ok (ce.fact 156 rfl)
  have n_BodyLook_function : NoAttr K (ga K "BodyLook") "function" := He.noat_ok (ce.fact 157 rfl)
  have n_BodyLook_begun : NoAttr K (ga K "BodyLook") "begun" := He.noat_ok (ce.fact 158 rfl)
  have n_BodyLook_reach : NoAttr K (ga K "BodyLook") "reach" := He.noat_ok (ce.fact 159 rfl)
  have n_BodyForm_names : NoAttr K (ga K "BodyForm") "names" := He.noat_ok (ce.fact 160 rfl)
  have n_BodyForm_tries : NoAttr K (ga K "BodyForm") "tries" := He.noat_ok (ce.fact 161 rfl)
  have n_BodyForm_begun : NoAttr K (ga K "BodyForm") "begun" := He.noat_ok (ce.fact 162 rfl)
  have n_NotLetBy_what : NoAttr K (ga K "NotLetBy") "what" := He.noat_ok (ce.fact 163 rfl)
  have eXm := He.exm_ok (ce.fact 183 rfl : (Fa.exm "NotLetBy" "NotLetBy" true).ok K = true)
  have bt : Bt mg := ⟨z_isinstance, z_str, z_int, z_bool, z_tuple, z_len⟩
  have nm : Nm K mg := ⟨bt, i_LETTERS, i_DIGITS, i_MOST_NAME_SIGNS, ⟨_, g_WORDS, fun H => tupA_ok tW H⟩⟩
  obtain ⟨dT, gT⟩ := d_is_tuple_of
  obtain ⟨dN, gN⟩ := d_is_name
  obtain ⟨dK, gK⟩ := d_is_kind
  have kdt : ∃ fT fN fK dT dN dK, KdT K mg fT fN fK dT dN dK := ⟨_, _, _, dT, dN, dK, nm, ⟨_, g_PLAIN_KINDS, fun H => tupA_ok tP H⟩, gT, gN, gK⟩
  have lf : LfT K mg := ⟨kdt, z_ord, ⟨_, g_SIGNS, fun H => tupA_ok tS H⟩, i_LEAST_INT, i_GREATEST_INT, i_MOST_ROWS, i_MOST_ENTRY_ROWS, i_MOST_TEXT_SIGNS, ⟨_, d_is_integer⟩, ⟨_, d_is_between⟩, ⟨_, d_is_signs⟩, ⟨_, d_is_short_text⟩⟩
  have bf : BfC K mg (ga K "BodyForm") := ⟨bt, c_BodyForm, n_BodyForm_names, n_BodyForm_tries, n_BodyForm_begun, i_MOST_IN_BODY, i_MOST_IN_CHAIN, z_enumerate, lf⟩
  obtain ⟨es0, m0, kd0⟩ := tab 0 _ rfl
  obtain ⟨es1, m1, kd1⟩ := tab 1 _ rfl
  obtain ⟨es2, m2, kd2⟩ := tab 2 _ rfl
  obtain ⟨es3, m3, kd3⟩ := tab 3 _ rfl
  have tabs : Tabs K w mg := ⟨⟨_, es0, m0, g_EXPRESSIONS, kd0, fun e => tabB_ok tE (ex_in e)⟩, ⟨_, es1, m1, g_STATEMENTS, kd1, fun e => tabB_ok tT (st_in e)⟩⟩
  obtain ⟨dE, gE⟩ := m_BodyForm_is_expression
  obtain ⟨dS, gS⟩ := m_BodyForm_is_statement
  obtain ⟨dB, gB⟩ := m_BodyForm_is_block
  obtain ⟨dA, gA⟩ := m_BodyForm_are_args
  obtain ⟨dM, gM⟩ := m_BodyForm_may_begin
  obtain ⟨dP, gP⟩ := m_BodyForm_are_parts
  obtain ⟨dR, gR⟩ := m_BodyForm_is_part
  obtain ⟨dL, gL⟩ := d_is_leaf
  obtain ⟨dI, gI, bI⟩ := m_BodyForm_init
  have body : Body K w mg := ⟨⟨_, _, dI, _, _, _, _, _, _, _, _, dE, dS, dB, dA, dM, dP, dR, dL, ⟨gE, gS, gB, gA, gM, gP, gR, gL⟩, bf, k_BodyForm, gI, bI, g_BodyForm⟩, tabs, i_MOST_NAMES_TOLD, i_MOST_TRIES⟩
  have pg : Pg K w mg := ⟨kdt, ⟨_, d_is_tuple_to⟩, ⟨_, d_are_named_kinds⟩, ⟨_, d_is_function⟩, ⟨_, d_are_functions⟩, ⟨_, d_is_class⟩, ⟨_, d_is_body⟩, body, i_MOST_ROWS, i_MOST_PARAMS, i_MOST_FIELDS, i_MOST_METHODS, i_MOST_CLASSES, i_MOST_FUNCTIONS⟩
  have er : KC.ErrC R.prog K mg (NB K) (NI K) (cdaOf K (NI K)) (ccOf K (NI K)) "NotLetBy.__init__" (defArgs s_NotLetBy_init) (defBody s_NotLetBy_init) (defScope s_NotLetBy_init) :=
    ⟨clsB_ok eCl, eSa, eIc, eTf, fnI_ok ci eRc, eCd, codB_ok eCo, celB_ok eCe, eSu, eOp, z_super, eSv, eKc, rfl⟩
  have nl : Nl R.prog K mg (NB K) := ⟨⟨_, _, _, er⟩, n_NotLetBy_what, xf.exC, eTy, g_NotLetBy⟩
  have fm : FmC K mg (ga K "Family") := ⟨bt, c_Family, n_Family_by_name, z_list, i_NIL, ⟨_, d_entry_of⟩, ⟨_, d_class_of⟩, ⟨_, d_is_reference⟩⟩
  obtain ⟨d1, g1⟩ := m_Family_line
  obtain ⟨d2, g2⟩ := m_Family_is_below
  obtain ⟨d3, g3⟩ := m_Family_is_kind_below
  obtain ⟨d4, g4⟩ := m_Family_fits
  obtain ⟨d5, g5⟩ := m_Family_may_be_same
  obtain ⟨dJ, gJ, bJ⟩ := m_Family_init
  obtain ⟨dO, gO, bO⟩ := m_BodyLook_init
  obtain ⟨uL, eL, rL⟩ := He.valsB_ok vL (q := ("truth", .str "truth")) (List.mem_singleton.mpr rfl)
  obtain ⟨uS, eS, rS⟩ := He.valsB_ok vS (q := ("while", .glo "look_at_while")) (List.mem_singleton.mpr rfl)
  obtain ⟨tL, rfl⟩ : ∃ t, uL = .str "truth" t := rL
  obtain rfl : uS = .ref (ga K "look_at_while") := rS
  obtain ⟨dW, gW⟩ := d_look_at_while
  have blc : BlC K mg (ga K "BodyLook") := ⟨c_BodyLook, n_BodyLook_family, n_BodyLook_functions, n_BodyLook_owner, n_BodyLook_function, n_BodyLook_begun, n_BodyLook_reach, z_list, z_len⟩
  have lk : Lk K w mg (ga K "BodyLook") := ⟨blc, ⟨_, m_BodyLook_begin⟩, ⟨_, dO, k_BodyLook, gO, bO⟩, g_BodyLook, ⟨_, es2, m2, tL, g_LEAF_KINDS, kd2, eL⟩, ⟨_, d_kind_of⟩, ⟨_, d_look_for_fit⟩, ⟨_, d_look_at_block⟩, ⟨_, dW, gW, _, es3, m3, g_STATEMENT_RULES, kd3, eS⟩, ⟨_, d_is_ended⟩, ⟨_, d_ends_block⟩⟩
  have chp : ChP R.prog K w mg (NB K) (ga K "Family") (ga K "BodyLook") := ⟨pg, nl, xf, eXm, fm, ⟨_, dJ, k_Family, gJ, bJ⟩, g_Family, ⟨_, m_Family_has⟩, ⟨_, m_Family_knows⟩, ⟨_, m_Family_field_kind⟩, ⟨_, _, _, _, _, d1, d2, d3, d4, d5, g1, g2, g3, g4, g5⟩, lk, ⟨_, d_is_program⟩, ⟨_, d_look_at_classes⟩, ⟨_, d_look_at_fields⟩, ⟨_, d_look_at_methods⟩, ⟨_, d_look_at_head⟩, ⟨_, d_look_at_override⟩, ⟨_, d_head_kinds⟩, ⟨_, d_look_at_functions⟩, ⟨_, d_look_for_main⟩, ⟨_, d_look_at_body⟩⟩
  have tl : Tl R.prog K w mg (NB K) (ga K "Family") (ga K "BodyLook") := ⟨chp, ⟨_, d_checked⟩, ⟨_, d_check⟩, ⟨_, d__law_alike⟩, z_isinstance, z_bool, z_tuple, z_len, z_range⟩
  have dr : Dr K mg := ⟨⟨_, d__law_draw⟩, ⟨_, d__law_one⟩, ⟨_, d__law_words⟩, ⟨_, d__law_name⟩, ⟨_, d__law_some⟩, ⟨_, d__law_kind_in⟩, ⟨_, d__law_pairs⟩, ⟨_, d__law_head⟩, z_int, z_len, z_range, z_tuple, z_max⟩
  exact ⟨⟨tl, dr, ⟨z_list, z_len, z_range⟩, ⟨z_isinstance, z_tuple, z_len, z_range, ⟨_, d__law_lacks⟩⟩, ⟨_, d__law_told⟩, ⟨_, d__law_heads⟩, ⟨_, d__law_above⟩, ⟨_, d__law_wrong_classes⟩, ⟨_, d__law_wrong_heads⟩, ⟨_, d__law_feed⟩, z_max, z_min, z_int, z_sum⟩, d_law⟩
end HX

namespace HX
open PySem PySem.Spec PyProof.Rows L2 T
theorem law_binds {K : PySem.W.Frag} {f : Addr} {fd : FuncData} (F : L2.Fun K "law" "law" s_law f fd) : ∀ (s : Shared) (v : Value), BindsTo s fd ⟨[v], []⟩ [("_law_script", v)] := by
  obtain ⟨oc, od, kV, doc, pm, an, cdv, ct, osl, rfl, lk, hcd⟩ := F.ex
  exact fun s v => .of_eq rfl
theorem walked {w : World} {mg : Str → Option Value} {fa : Addr} {h : Heap} (Y : hook.says w h) (G : h.Ns mainGlobals mg) (hmg : mg ("law" : PySem.Str) = some (.ref fa)) :
    ∃ (K : PySem.W.Frag) (fd : FuncData) (sp : Sp), K.In h ∧ (∀ (s : Shared) (u : Value), BindsTo s fd ⟨[u], []⟩ [("_law_script", u)]) ∧
      (∀ (H : Hp) (a : Addr) (ns : List Int), ns.length ≤ 63 → Only H → SqL K H a (ns.map V.int) → sp [.ref a] H (fun v _ => v = .bl true) fun _ _ _ => False) ∧
      ∀ base : Heap, K.In base → base.Ns mainGlobals mg → FnOk R.prog w K mg base CX0 96 fa fd ["_law_script"] sp := by
  obtain ⟨K, KX, c⟩ := Y
  obtain ⟨L, fd, gl⟩ := lw KX G c
  have e := hmg.symm.trans gl.g
  cases e
  exact ⟨K, fd, LW.spLaw K, KX, law_binds gl.F, fun H a ns hl _ hS => ⟨a, ns, rfl, hS, hl, fun _ => rfl⟩, fun base _ _ => LW.ok_law gl.F L⟩
theorem room : Room 96 callerA := ⟨rfl, by decide, by decide⟩
end HX

open PySem PySem.W PyProof.Rows
set_option maxRecDepth 100000 in
set_option maxHeartbeats 0 in
theorem PySem.Challenge.cw_movedrun_k05_heads_looked_at_holds : PySem.Challenge.rw_movedrun_k05_heads_looked_at.Holds := by
  w_on; o_law
  refine HandSHeadRun.head_any (r := OpenLaw.row PySem.Challenge.rw_movedrun_k05_heads_looked_at) (q := HX.qv) (H := HX.hook) (ob := HX.ob) (M := 15000) (loose := HX.names) (d := HandSHeadRun.topDef (OpenLaw.row PySem.Challenge.rw_movedrun_k05_heads_looked_at).prog 125) (kwd := []) HX.ob_eq
    (by kernel_rfl) (fun s => by kernel_rfl) HX.run (by kernel_rfl) (by kernel_rfl) (by kernel_rfl) (by rfl) (by first | assumption | decide +kernel) (by decide +kernel) ⟨rfl, rfl, rfl, rfl, rfl, by decide +kernel⟩ ?hw ?hc
  case hw => w_witness2
  case hc =>
    refine L2.walk_ofE (l := PySem.Challenge.rw_movedrun_k05_heads_looked_at) (n := 63) (k := 96) (x := "_law_script") (CX := L2.CX0) rfl (by decide) (by kernel_rfl) HX.room ?F (fun _ _ _ _ z => z)
    intro w mg fa h Y G hmg0
    have hmg : mg ("law" : PySem.Str) = some (.ref fa) := by
      have e : (HandSHeadRun.topDef (OpenLaw.row PySem.Challenge.rw_movedrun_k05_heads_looked_at).prog 125).name = ("law" : PySem.Str) := by kernel_rfl
      rw [← e]
      exact hmg0
    exact HX.walked Y G hmg
