import PyProof.Rows.All
import Wide.All
import OpenK.AllK
import Wide.FinOn
import HandS.ForExc
import HandS.Wide
import HandS.IsInst
import HandS.ExcInit
import HandS.CallLocal
import HandS.IterVal
import HandS.Codes
import HandS.Flow
import KE.KStateDown
import Lean
import HandS.Base
import HandS.Call
import HandS.Ends
import HandS.More
import HandS.Words
import HandS.WordsExc
import HandS.Defaults
import HandS.Head0
import HandS.Head1
import HandS.Head2
import HandS.HeadEnd
import HandS.HeadHook1
import HandS.HeadHook2
import HandS.HeadHook3
import HandS.HeadHook4
import HandS.ForMost
import HandS.MakeKwOnly
import HandS.Conv
import KE.GoesMore
import HandS.Walk
import HandS.SortInts
import HandS.DictComp
import HandS.Style
import PySem.Challenge.RW_movedrun_k38_objects_are_words
set_option Elab.async false
set_option linter.all false
set_option maxRecDepth 100000
set_option maxHeartbeats 16000000
namespace T
open PySem L2
def top (i : Nat) : Stmt := PySem.Challenge.pw_movedrun_k38_objects_are_words.main.body.getD i (.Pass ⟨0, 0, 0, 0⟩)
abbrev s__wall : Stmt := top 0
theorem sc__wall : FnScope ["k"] ["k"] (defScope s__wall) := ⟨rfl, rfl, rfl, by decide +kernel, rfl, by decide +kernel, by decide +kernel⟩
abbrev s_is_integer : Stmt := top 12
theorem sc_is_integer : FnScope ["thing"] ["thing"] (defScope s_is_integer) := ⟨rfl, rfl, rfl, by decide +kernel, rfl, by decide +kernel, by decide +kernel⟩
abbrev s_is_between : Stmt := top 13
theorem sc_is_between : FnScope ["thing", "least", "greatest"] ["thing", "least", "greatest"] (defScope s_is_between) := ⟨rfl, rfl, rfl, by decide +kernel, rfl, by decide +kernel, by decide +kernel⟩
abbrev s_is_tuple_to : Stmt := top 14
theorem sc_is_tuple_to : FnScope ["thing", "most"] ["thing", "most"] (defScope s_is_tuple_to) := ⟨rfl, rfl, rfl, by decide +kernel, rfl, by decide +kernel, by decide +kernel⟩
abbrev s_is_tuple_of : Stmt := top 15
theorem sc_is_tuple_of : FnScope ["thing", "many"] ["thing", "many"] (defScope s_is_tuple_of) := ⟨rfl, rfl, rfl, by decide +kernel, rfl, by decide +kernel, by decide +kernel⟩
abbrev s_look_at_shapes : Stmt := top 31
theorem sc_look_at_shapes : FnScope ["shapes", "shape", "truth"] ["shapes"] (defScope s_look_at_shapes) := ⟨rfl, rfl, rfl, by decide +kernel, rfl, by decide +kernel, by decide +kernel⟩
abbrev s_look_at_sizes : Stmt := top 32
theorem sc_look_at_sizes : FnScope ["sizes", "nursery", "half", "great", "age"] ["sizes"] (defScope s_look_at_sizes) := ⟨rfl, rfl, rfl, by decide +kernel, rfl, by decide +kernel, by decide +kernel⟩
abbrev s_look_at_kind : Stmt := top 33
theorem sc_look_at_kind : FnScope ["shapes", "kind"] ["shapes", "kind"] (defScope s_look_at_kind) := ⟨rfl, rfl, rfl, by decide +kernel, rfl, by decide +kernel, by decide +kernel⟩
abbrev s_look_at_size : Stmt := top 34
theorem sc_look_at_size : FnScope ["shapes", "kind", "slots"] ["shapes", "kind", "slots"] (defScope s_look_at_size) := ⟨rfl, rfl, rfl, by decide +kernel, rfl, by decide +kernel, by decide +kernel⟩
abbrev s_is_size : Stmt := top 35
theorem sc_is_size : FnScope ["shapes", "kind", "slots"] ["shapes", "kind", "slots"] (defScope s_is_size) := ⟨rfl, rfl, rfl, by decide +kernel, rfl, by decide +kernel, by decide +kernel⟩
abbrev s_look_at_roots : Stmt := top 36
theorem sc_look_at_roots : FnScope ["roots", "holder"] ["roots", "holder"] (defScope s_look_at_roots) := ⟨rfl, rfl, rfl, by decide +kernel, rfl, by decide +kernel, by decide +kernel⟩
abbrev s_are_roots : Stmt := top 37
theorem sc_are_roots : FnScope ["roots", "holder", "root"] ["roots", "holder"] (defScope s_are_roots) := ⟨rfl, rfl, rfl, by decide +kernel, rfl, by decide +kernel, by decide +kernel⟩
abbrev s_shape_links : Stmt := top 38
theorem sc_shape_links : FnScope ["shape", "index", "truth"] ["shape"] (defScope s_shape_links) := ⟨rfl, rfl, rfl, by decide +kernel, rfl, by decide +kernel, by decide +kernel⟩
abbrev s_head_word : Stmt := top 39
theorem sc_head_word : FnScope ["kind", "age", "colour"] ["kind", "age", "colour"] (defScope s_head_word) := ⟨rfl, rfl, rfl, by decide +kernel, rfl, by decide +kernel, by decide +kernel⟩
abbrev s_kind_told : Stmt := top 40
theorem sc_kind_told : FnScope ["head"] ["head"] (defScope s_kind_told) := ⟨rfl, rfl, rfl, by decide +kernel, rfl, by decide +kernel, by decide +kernel⟩
abbrev s_age_told : Stmt := top 41
theorem sc_age_told : FnScope ["head"] ["head"] (defScope s_age_told) := ⟨rfl, rfl, rfl, by decide +kernel, rfl, by decide +kernel, by decide +kernel⟩
abbrev s_colour_told : Stmt := top 42
theorem sc_colour_told : FnScope ["head"] ["head"] (defScope s_colour_told) := ⟨rfl, rfl, rfl, by decide +kernel, rfl, by decide +kernel, by decide +kernel⟩
abbrev s_move_young : Stmt := top 44
theorem sc_move_young : FnScope ["memory", "roots", "is_settling", "moving", "root", "place"] ["memory", "roots", "is_settling"] (defScope s_move_young) := ⟨rfl, rfl, rfl, by decide +kernel, rfl, by decide +kernel, by decide +kernel⟩
abbrev s_Moving_init : Stmt := inClass (top 45) 0
theorem sc_Moving_init : FnScope ["self", "memory", "is_settling"] ["self", "memory", "is_settling"] (defScope s_Moving_init) := ⟨rfl, rfl, rfl, by decide +kernel, rfl, by decide +kernel, by decide +kernel⟩
abbrev s_Moving_led : Stmt := inClass (top 45) 1
theorem sc_Moving_led : FnScope ["self", "reference"] ["self", "reference"] (defScope s_Moving_led) := ⟨rfl, rfl, rfl, by decide +kernel, rfl, by decide +kernel, by decide +kernel⟩
abbrev s_Moving_move : Stmt := inClass (top 45) 2
theorem sc_Moving_move : FnScope ["self", "address", "memory", "many", "age", "words", "room", "other"] ["self", "address"] (defScope s_Moving_move) := ⟨rfl, rfl, rfl, by decide +kernel, rfl, by decide +kernel, by decide +kernel⟩
abbrev s_Moving_lead_moved : Stmt := inClass (top 45) 3
theorem sc_Moving_lead_moved : FnScope ["self", "in_half", "in_old"] ["self"] (defScope s_Moving_lead_moved) := ⟨rfl, rfl, rfl, by decide +kernel, rfl, by decide +kernel, by decide +kernel⟩
abbrev s_Moving_lead_slots : Stmt := inClass (top 45) 4
theorem sc_Moving_lead_slots : FnScope ["self", "address", "place"] ["self", "address"] (defScope s_Moving_lead_slots) := ⟨rfl, rfl, rfl, by decide +kernel, rfl, by decide +kernel, by decide +kernel⟩
abbrev s_Moving_finish : Stmt := inClass (top 45) 5
theorem sc_Moving_finish : FnScope ["self", "memory", "address", "places", "place"] ["self"] (defScope s_Moving_finish) := ⟨rfl, rfl, rfl, by decide +kernel, rfl, by decide +kernel, by decide +kernel⟩
abbrev s_begin_marking : Stmt := top 47
theorem sc_begin_marking : FnScope ["memory", "roots", "root"] ["memory", "roots"] (defScope s_begin_marking) := ⟨rfl, rfl, rfl, by decide +kernel, rfl, by decide +kernel, by decide +kernel⟩
abbrev s_is_grey_left : Stmt := top 48
theorem sc_is_grey_left : FnScope ["memory"] ["memory"] (defScope s_is_grey_left) := ⟨rfl, rfl, rfl, by decide +kernel, rfl, by decide +kernel, by decide +kernel⟩
abbrev s_blacken_first : Stmt := top 49
theorem sc_blacken_first : FnScope ["memory", "address", "place"] ["memory"] (defScope s_blacken_first) := ⟨rfl, rfl, rfl, by decide +kernel, rfl, by decide +kernel, by decide +kernel⟩
abbrev s_blacken_all : Stmt := top 50
theorem sc_blacken_all : FnScope ["memory"] ["memory"] (defScope s_blacken_all) := ⟨rfl, rfl, rfl, by decide +kernel, rfl, by decide +kernel, by decide +kernel⟩
abbrev s_end_marking : Stmt := top 51
theorem sc_end_marking : FnScope ["memory", "roots", "root"] ["memory", "roots"] (defScope s_end_marking) := ⟨rfl, rfl, rfl, by decide +kernel, rfl, by decide +kernel, by decide +kernel⟩
abbrev s_slide : Stmt := top 52
theorem sc_slide : FnScope ["memory", "roots", "places", "words", "address", "first", "place", "root"] ["memory", "roots"] (defScope s_slide) := ⟨rfl, rfl, rfl, by decide +kernel, rfl, by decide +kernel, by decide +kernel⟩
abbrev s_new_places : Stmt := top 53
theorem sc_new_places : FnScope ["memory", "places", "free", "address"] ["memory"] (defScope s_new_places) := ⟨rfl, rfl, rfl, by decide +kernel, rfl, by decide +kernel, by decide +kernel⟩
abbrev s_Memory_init : Stmt := inClass (top 55) 0
theorem sc_Memory_init : FnScope ["self", "shapes", "sizes", "nursery", "half", "great", "age", "shape"] ["self", "shapes", "sizes"] (defScope s_Memory_init) := ⟨rfl, rfl, rfl, by decide +kernel, rfl, by decide +kernel, by decide +kernel⟩
abbrev s_Memory_is_object : Stmt := inClass (top 55) 1
theorem sc_Memory_is_object : FnScope ["self", "address"] ["self", "address"] (defScope s_Memory_is_object) := ⟨rfl, rfl, rfl, by decide +kernel, rfl, by decide +kernel, by decide +kernel⟩
abbrev s_Memory_is_young : Stmt := inClass (top 55) 2
theorem sc_Memory_is_young : FnScope ["self", "reference"] ["self", "reference"] (defScope s_Memory_is_young) := ⟨rfl, rfl, rfl, by decide +kernel, rfl, by decide +kernel, by decide +kernel⟩
abbrev s_Memory_kind : Stmt := inClass (top 55) 3
theorem sc_Memory_kind : FnScope ["self", "address"] ["self", "address"] (defScope s_Memory_kind) := ⟨rfl, rfl, rfl, by decide +kernel, rfl, by decide +kernel, by decide +kernel⟩
abbrev s_Memory_slots : Stmt := inClass (top 55) 4
theorem sc_Memory_slots : FnScope ["self", "address"] ["self", "address"] (defScope s_Memory_slots) := ⟨rfl, rfl, rfl, by decide +kernel, rfl, by decide +kernel, by decide +kernel⟩
abbrev s_Memory_age_of : Stmt := inClass (top 55) 5
theorem sc_Memory_age_of : FnScope ["self", "address"] ["self", "address"] (defScope s_Memory_age_of) := ⟨rfl, rfl, rfl, by decide +kernel, rfl, by decide +kernel, by decide +kernel⟩
abbrev s_Memory_size : Stmt := inClass (top 55) 6
theorem sc_Memory_size : FnScope ["self", "address"] ["self", "address"] (defScope s_Memory_size) := ⟨rfl, rfl, rfl, by decide +kernel, rfl, by decide +kernel, by decide +kernel⟩
abbrev s_Memory_link_places : Stmt := inClass (top 55) 7
theorem sc_Memory_link_places : FnScope ["self", "address", "first", "kind", "index"] ["self", "address"] (defScope s_Memory_link_places) := ⟨rfl, rfl, rfl, by decide +kernel, rfl, by decide +kernel, by decide +kernel⟩
abbrev s_Memory_is_great : Stmt := inClass (top 55) 8
theorem sc_Memory_is_great : FnScope ["self", "slots"] ["self", "slots"] (defScope s_Memory_is_great) := ⟨rfl, rfl, rfl, by decide +kernel, rfl, by decide +kernel, by decide +kernel⟩
abbrev s_Memory_fits : Stmt := inClass (top 55) 9
theorem sc_Memory_fits : FnScope ["self", "room", "many", "end"] ["self", "room", "many"] (defScope s_Memory_fits) := ⟨rfl, rfl, rfl, by decide +kernel, rfl, by decide +kernel, by decide +kernel⟩
abbrev s_Memory_lay_young : Stmt := inClass (top 55) 10
theorem sc_Memory_lay_young : FnScope ["self", "room", "words", "address"] ["self", "room", "words"] (defScope s_Memory_lay_young) := ⟨rfl, rfl, rfl, by decide +kernel, rfl, by decide +kernel, by decide +kernel⟩
abbrev s_Memory_lay_old : Stmt := inClass (top 55) 11
theorem sc_Memory_lay_old : FnScope ["self", "words", "address"] ["self", "words"] (defScope s_Memory_lay_old) := ⟨rfl, rfl, rfl, by decide +kernel, rfl, by decide +kernel, by decide +kernel⟩
abbrev s_Memory_make : Stmt := inClass (top 55) 12
theorem sc_Memory_make : FnScope ["self", "kind", "slots", "colour", "words"] ["self", "kind", "slots"] (defScope s_Memory_make) := ⟨rfl, rfl, rfl, by decide +kernel, rfl, by decide +kernel, by decide +kernel⟩
abbrev s_Memory_set_link : Stmt := inClass (top 55) 13
theorem sc_Memory_set_link : FnScope ["self", "address", "place", "reference"] ["self", "address", "place", "reference"] (defScope s_Memory_set_link) := ⟨rfl, rfl, rfl, by decide +kernel, rfl, by decide +kernel, by decide +kernel⟩
abbrev s_Memory_is_white : Stmt := inClass (top 55) 14
theorem sc_Memory_is_white : FnScope ["self", "reference"] ["self", "reference"] (defScope s_Memory_is_white) := ⟨rfl, rfl, rfl, by decide +kernel, rfl, by decide +kernel, by decide +kernel⟩
abbrev s_Memory_shade : Stmt := inClass (top 55) 15
theorem sc_Memory_shade : FnScope ["self", "reference"] ["self", "reference"] (defScope s_Memory_shade) := ⟨rfl, rfl, rfl, by decide +kernel, rfl, by decide +kernel, by decide +kernel⟩
abbrev s_Memory_grey_row : Stmt := inClass (top 55) 16
theorem sc_Memory_grey_row : FnScope ["self"] ["self"] (defScope s_Memory_grey_row) := ⟨rfl, rfl, rfl, by decide +kernel, rfl, by decide +kernel, by decide +kernel⟩
abbrev s_Memory_room : Stmt := inClass (top 55) 17
theorem sc_Memory_room : FnScope ["self", "room"] ["self", "room"] (defScope s_Memory_room) := ⟨rfl, rfl, rfl, by decide +kernel, rfl, by decide +kernel, by decide +kernel⟩
abbrev s_Memory_old_room : Stmt := inClass (top 55) 18
theorem sc_Memory_old_room : FnScope ["self"] ["self"] (defScope s_Memory_old_room) := ⟨rfl, rfl, rfl, by decide +kernel, rfl, by decide +kernel, by decide +kernel⟩
abbrev s_Heap_init : Stmt := inClass (top 57) 0
theorem sc_Heap_init : FnScope ["self", "shapes", "sizes"] ["self", "shapes", "sizes"] (defScope s_Heap_init) := ⟨rfl, rfl, rfl, by decide +kernel, rfl, by decide +kernel, by decide +kernel⟩
abbrev s_Heap_make : Stmt := inClass (top 57) 1
theorem sc_Heap_make : FnScope ["self", "kind", "slots", "roots"] ["self", "kind", "slots", "roots"] (defScope s_Heap_make) := ⟨rfl, rfl, rfl, by decide +kernel, rfl, by decide +kernel, by decide +kernel⟩
abbrev s_Heap_has_room : Stmt := inClass (top 57) 2
theorem sc_Heap_has_room : FnScope ["self", "slots"] ["self", "slots"] (defScope s_Heap_has_room) := ⟨rfl, rfl, rfl, by decide +kernel, rfl, by decide +kernel, by decide +kernel⟩
abbrev s_Heap_moved_young : Stmt := inClass (top 57) 3
theorem sc_Heap_moved_young : FnScope ["self", "roots"] ["self", "roots"] (defScope s_Heap_moved_young) := ⟨rfl, rfl, rfl, by decide +kernel, rfl, by decide +kernel, by decide +kernel⟩
abbrev s_Heap_look_at : Stmt := inClass (top 57) 4
theorem sc_Heap_look_at : FnScope ["self", "roots"] ["self", "roots"] (defScope s_Heap_look_at) := ⟨rfl, rfl, rfl, by decide +kernel, rfl, by decide +kernel, by decide +kernel⟩
abbrev s_Heap_look_at_address : Stmt := inClass (top 57) 5
theorem sc_Heap_look_at_address : FnScope ["self", "address"] ["self", "address"] (defScope s_Heap_look_at_address) := ⟨rfl, rfl, rfl, by decide +kernel, rfl, by decide +kernel, by decide +kernel⟩
abbrev s_Heap_look_at_slot : Stmt := inClass (top 57) 6
theorem sc_Heap_look_at_slot : FnScope ["self", "address", "slot"] ["self", "address", "slot"] (defScope s_Heap_look_at_slot) := ⟨rfl, rfl, rfl, by decide +kernel, rfl, by decide +kernel, by decide +kernel⟩
abbrev s_Heap_kind : Stmt := inClass (top 57) 7
theorem sc_Heap_kind : FnScope ["self", "address"] ["self", "address"] (defScope s_Heap_kind) := ⟨rfl, rfl, rfl, by decide +kernel, rfl, by decide +kernel, by decide +kernel⟩
abbrev s_Heap_slots : Stmt := inClass (top 57) 8
theorem sc_Heap_slots : FnScope ["self", "address"] ["self", "address"] (defScope s_Heap_slots) := ⟨rfl, rfl, rfl, by decide +kernel, rfl, by decide +kernel, by decide +kernel⟩
abbrev s_Heap_get : Stmt := inClass (top 57) 9
theorem sc_Heap_get : FnScope ["self", "address", "slot"] ["self", "address", "slot"] (defScope s_Heap_get) := ⟨rfl, rfl, rfl, by decide +kernel, rfl, by decide +kernel, by decide +kernel⟩
abbrev s_Heap_put : Stmt := inClass (top 57) 10
theorem sc_Heap_put : FnScope ["self", "address", "slot", "value"] ["self", "address", "slot", "value"] (defScope s_Heap_put) := ⟨rfl, rfl, rfl, by decide +kernel, rfl, by decide +kernel, by decide +kernel⟩
abbrev s_Heap_where : Stmt := inClass (top 57) 11
theorem sc_Heap_where : FnScope ["self", "address"] ["self", "address"] (defScope s_Heap_where) := ⟨rfl, rfl, rfl, by decide +kernel, rfl, by decide +kernel, by decide +kernel⟩
abbrev s_Heap_remembered : Stmt := inClass (top 57) 12
theorem sc_Heap_remembered : FnScope ["self"] ["self"] (defScope s_Heap_remembered) := ⟨rfl, rfl, rfl, by decide +kernel, rfl, by decide +kernel, by decide +kernel⟩
abbrev s_Heap_graph : Stmt := inClass (top 57) 13
theorem sc_Heap_graph : FnScope ["self", "roots"] ["self", "roots"] (defScope s_Heap_graph) := ⟨rfl, rfl, rfl, by decide +kernel, rfl, by decide +kernel, by decide +kernel⟩
abbrev s_Heap_traced : Stmt := inClass (top 57) 14
theorem sc_Heap_traced : FnScope ["self", "roots"] ["self", "roots"] (defScope s_Heap_traced) := ⟨rfl, rfl, rfl, by decide +kernel, rfl, by decide +kernel, by decide +kernel⟩
abbrev s_Heap_unreached : Stmt := inClass (top 57) 15
theorem sc_Heap_unreached : FnScope ["self", "roots"] ["self", "roots"] (defScope s_Heap_unreached) := ⟨rfl, rfl, rfl, by decide +kernel, rfl, by decide +kernel, by decide +kernel⟩
abbrev s_Heap_counts : Stmt := inClass (top 57) 16
theorem sc_Heap_counts : FnScope ["self", "memory", "in_nursery", "address"] ["self"] (defScope s_Heap_counts) := ⟨rfl, rfl, rfl, by decide +kernel, rfl, by decide +kernel, by decide +kernel⟩
abbrev s_Heap_minor : Stmt := inClass (top 57) 17
theorem sc_Heap_minor : FnScope ["self", "roots"] ["self", "roots"] (defScope s_Heap_minor) := ⟨rfl, rfl, rfl, by decide +kernel, rfl, by decide +kernel, by decide +kernel⟩
abbrev s_Heap_settle : Stmt := inClass (top 57) 18
theorem sc_Heap_settle : FnScope ["self", "roots"] ["self", "roots"] (defScope s_Heap_settle) := ⟨rfl, rfl, rfl, by decide +kernel, rfl, by decide +kernel, by decide +kernel⟩
abbrev s_Heap_begin : Stmt := inClass (top 57) 19
theorem sc_Heap_begin : FnScope ["self", "roots"] ["self", "roots"] (defScope s_Heap_begin) := ⟨rfl, rfl, rfl, by decide +kernel, rfl, by decide +kernel, by decide +kernel⟩
abbrev s_Heap_slice : Stmt := inClass (top 57) 20
theorem sc_Heap_slice : FnScope ["self", "count", "roots"] ["self", "count", "roots"] (defScope s_Heap_slice) := ⟨rfl, rfl, rfl, by decide +kernel, rfl, by decide +kernel, by decide +kernel⟩
abbrev s_Heap_whole : Stmt := inClass (top 57) 21
theorem sc_Heap_whole : FnScope ["self", "roots"] ["self", "roots"] (defScope s_Heap_whole) := ⟨rfl, rfl, rfl, by decide +kernel, rfl, by decide +kernel, by decide +kernel⟩
abbrev s_Heap_is_marking : Stmt := inClass (top 57) 22
theorem sc_Heap_is_marking : FnScope ["self"] ["self"] (defScope s_Heap_is_marking) := ⟨rfl, rfl, rfl, by decide +kernel, rfl, by decide +kernel, by decide +kernel⟩
abbrev s_Heap_picture : Stmt := inClass (top 57) 23
theorem sc_Heap_picture : FnScope ["self", "memory"] ["self"] (defScope s_Heap_picture) := ⟨rfl, rfl, rfl, by decide +kernel, rfl, by decide +kernel, by decide +kernel⟩
abbrev s_law_feed : Stmt := top 59
theorem sc_law_feed : FnScope ["_law_script", "_law_k", "_law_cell"] ["_law_script", "_law_k"] (defScope s_law_feed) := ⟨rfl, rfl, rfl, by decide +kernel, rfl, by decide +kernel, by decide +kernel⟩
abbrev s_law_draw : Stmt := top 60
theorem sc_law_draw : FnScope ["_law_feed_here", "_law_many", "_law_rest", "_law_got", "_law_stir"] ["_law_feed_here", "_law_many"] (defScope s_law_draw) := ⟨rfl, rfl, rfl, by decide +kernel, rfl, by decide +kernel, by decide +kernel⟩
abbrev s_law_one : Stmt := top 61
theorem sc_law_one : FnScope ["_law_feed_here", "_law_things"] ["_law_feed_here", "_law_things"] (defScope s_law_one) := ⟨rfl, rfl, rfl, by decide +kernel, rfl, by decide +kernel, by decide +kernel⟩
abbrev s_law_same : Stmt := top 62
theorem sc_law_same : FnScope ["_law_told_here", "_law_due", "_law_k"] ["_law_told_here", "_law_due"] (defScope s_law_same) := ⟨rfl, rfl, rfl, by decide +kernel, rfl, by decide +kernel, by decide +kernel⟩
abbrev s_law_wide : Stmt := top 63
theorem sc_law_wide : FnScope ["_law_feed_here", "_law_many", "_law_most", "_law_a", "_law_b", "_law_shapes_here", "_law_slot", "_law_k", "_law_nursery", "_law_sizes_here", "_law_shape"] ["_law_feed_here"] (defScope s_law_wide) := ⟨rfl, rfl, rfl, by decide +kernel, rfl, by decide +kernel, by decide +kernel⟩
abbrev s_law_shapes : Stmt := top 64
theorem sc_law_shapes : FnScope ["_law_feed_here", "_law_many", "_law_wide_here", "_law_found", "_law_field", "_law_turn", "_law_at", "_law_one_here", "_law_two", "_law_shape"] ["_law_feed_here"] (defScope s_law_shapes) := ⟨rfl, rfl, rfl, by decide +kernel, rfl, by decide +kernel, by decide +kernel⟩
abbrev s_law_sizes : Stmt := top 65
theorem sc_law_sizes : FnScope ["_law_feed_here", "_law_nursery"] ["_law_feed_here"] (defScope s_law_sizes) := ⟨rfl, rfl, rfl, by decide +kernel, rfl, by decide +kernel, by decide +kernel⟩
abbrev s_law_number : Stmt := top 66
theorem sc_law_number : FnScope ["_law_feed_here", "_law_sizes_here", "_law_way"] ["_law_feed_here", "_law_sizes_here"] (defScope s_law_number) := ⟨rfl, rfl, rfl, by decide +kernel, rfl, by decide +kernel, by decide +kernel⟩
abbrev s_law_head : Stmt := top 67
theorem sc_law_head : FnScope ["_law_kind", "_law_colour", "_law_many"] ["_law_kind", "_law_colour", "_law_many"] (defScope s_law_head) := ⟨rfl, rfl, rfl, by decide +kernel, rfl, by decide +kernel, by decide +kernel⟩
abbrev s_law_told : Stmt := top 68
theorem sc_law_told : FnScope ["_law_heap", "_law_address", "_law_due"] ["_law_heap", "_law_address", "_law_due"] (defScope s_law_told) := ⟨rfl, rfl, rfl, by decide +kernel, rfl, by decide +kernel, by decide +kernel⟩
abbrev s_law_makes : Stmt := top 69
theorem sc_law_makes : FnScope ["_law_script", "_law_heap", "_law_shapes_here", "_law_sizes_here", "_law_marking", "_law_young", "_law_old", "_law_found", "_law_begin", "_law_k", "_law_feed_here", "_law_turn", "_law_kind", "_law_many", "_law_great", "_law_roots", "_law_one_here", "_law_due", "_law_address"] ["_law_script", "_law_heap", "_law_shapes_here", "_law_sizes_here", "_law_marking"] (defScope s_law_makes) := ⟨rfl, rfl, rfl, by decide +kernel, rfl, by decide +kernel, by decide +kernel⟩
abbrev s_law : Stmt := top 70
theorem sc_law : FnScope ["_law_script", "_law_feed_here", "_law_marking", "_law_wide_here", "_law_shapes_here", "_law_sizes_here", "_law_heap", "_law_other", "_law_built", "_law_young", "_law_old", "_law_first", "_law_many", "_law_half"] ["_law_script"] (defScope s_law) := ⟨rfl, rfl, rfl, by decide +kernel, rfl, by decide +kernel, by decide +kernel⟩
end T

/-! What the head tells. -/
namespace HX
open PySem PySem.Spec PyProof.Rows L2 T
open He (Fa FnD ga ma)
def fn0 : List FnD := [⟨("_wall", none), "_wall", "_wall", defArgs s__wall, defBody s__wall, defScope s__wall⟩, ⟨("is_integer", none), "is_integer", "is_integer", defArgs s_is_integer, defBody s_is_integer, defScope s_is_integer⟩, ⟨("is_between", none), "is_between", "is_between", defArgs s_is_between, defBody s_is_between, defScope s_is_between⟩, ⟨("is_tuple_to", none), "is_tuple_to", "is_tuple_to", defArgs s_is_tuple_to, defBody s_is_tuple_to, defScope s_is_tuple_to⟩, ⟨("is_tuple_of", none), "is_tuple_of", "is_tuple_of", defArgs s_is_tuple_of, defBody s_is_tuple_of, defScope s_is_tuple_of⟩, ⟨("look_at_shapes", none), "look_at_shapes", "look_at_shapes", defArgs s_look_at_shapes, defBody s_look_at_shapes, defScope s_look_at_shapes⟩, ⟨("look_at_sizes", none), "look_at_sizes", "look_at_sizes", defArgs s_look_at_sizes, defBody s_look_at_sizes, defScope s_look_at_sizes⟩, ⟨("look_at_kind", none), "look_at_kind", "look_at_kind", defArgs s_look_at_kind, defBody s_look_at_kind, defScope s_look_at_kind⟩, ⟨("look_at_size", none), "look_at_size", "look_at_size", defArgs s_look_at_size, defBody s_look_at_size, defScope s_look_at_size⟩, ⟨("is_size", none), "is_size", "is_size", defArgs s_is_size, defBody s_is_size, defScope s_is_size⟩, ⟨("look_at_roots", none), "look_at_roots", "look_at_roots", defArgs s_look_at_roots, defBody s_look_at_roots, defScope s_look_at_roots⟩, ⟨("are_roots", none), "are_roots", "are_roots", defArgs s_are_roots, defBody s_are_roots, defScope s_are_roots⟩]
def fn1 : List FnD := [⟨("shape_links", none), "shape_links", "shape_links", defArgs s_shape_links, defBody s_shape_links, defScope s_shape_links⟩, ⟨("head_word", none), "head_word", "head_word", defArgs s_head_word, defBody s_head_word, defScope s_head_word⟩, ⟨("kind_told", none), "kind_told", "kind_told", defArgs s_kind_told, defBody s_kind_told, defScope s_kind_told⟩, ⟨("age_told", none), "age_told", "age_told", defArgs s_age_told, defBody s_age_told, defScope s_age_told⟩, ⟨("colour_told", none), "colour_told", "colour_told", defArgs s_colour_told, defBody s_colour_told, defScope s_colour_told⟩, ⟨("move_young", none), "move_young", "move_young", defArgs s_move_young, defBody s_move_young, defScope s_move_young⟩, ⟨("begin_marking", none), "begin_marking", "begin_marking", defArgs s_begin_marking, defBody s_begin_marking, defScope s_begin_marking⟩, ⟨("is_grey_left", none), "is_grey_left", "is_grey_left", defArgs s_is_grey_left, defBody s_is_grey_left, defScope s_is_grey_left⟩, ⟨("blacken_first", none), "blacken_first", "blacken_first", defArgs s_blacken_first, defBody s_blacken_first, defScope s_blacken_first⟩, ⟨("blacken_all", none), "blacken_all", "blacken_all", defArgs s_blacken_all, defBody s_blacken_all, defScope s_blacken_all⟩, ⟨("end_marking", none), "end_marking", "end_marking", defArgs s_end_marking, defBody s_end_marking, defScope s_end_marking⟩, ⟨("slide", none), "slide", "slide", defArgs s_slide, defBody s_slide, defScope s_slide⟩]
def fn2 : List FnD := [⟨("new_places", none), "new_places", "new_places", defArgs s_new_places, defBody s_new_places, defScope s_new_places⟩, ⟨("_law_feed", none), "_law_feed", "_law_feed", defArgs s_law_feed, defBody s_law_feed, defScope s_law_feed⟩, ⟨("_law_draw", none), "_law_draw", "_law_draw", defArgs s_law_draw, defBody s_law_draw, defScope s_law_draw⟩, ⟨("_law_one", none), "_law_one", "_law_one", defArgs s_law_one, defBody s_law_one, defScope s_law_one⟩, ⟨("_law_same", none), "_law_same", "_law_same", defArgs s_law_same, defBody s_law_same, defScope s_law_same⟩, ⟨("_law_wide", none), "_law_wide", "_law_wide", defArgs s_law_wide, defBody s_law_wide, defScope s_law_wide⟩, ⟨("_law_shapes", none), "_law_shapes", "_law_shapes", defArgs s_law_shapes, defBody s_law_shapes, defScope s_law_shapes⟩, ⟨("_law_sizes", none), "_law_sizes", "_law_sizes", defArgs s_law_sizes, defBody s_law_sizes, defScope s_law_sizes⟩, ⟨("_law_number", none), "_law_number", "_law_number", defArgs s_law_number, defBody s_law_number, defScope s_law_number⟩, ⟨("_law_head", none), "_law_head", "_law_head", defArgs s_law_head, defBody s_law_head, defScope s_law_head⟩, ⟨("_law_told", none), "_law_told", "_law_told", defArgs s_law_told, defBody s_law_told, defScope s_law_told⟩, ⟨("_law_makes", none), "_law_makes", "_law_makes", defArgs s_law_makes, defBody s_law_makes, defScope s_law_makes⟩]
def fn3 : List FnD := [⟨("law", none), "law", "law", defArgs s_law, defBody s_law, defScope s_law⟩, ⟨("Moving", some "__init__"), "__init__", "Moving.__init__", defArgs s_Moving_init, defBody s_Moving_init, defScope s_Moving_init⟩, ⟨("Moving", some "led"), "led", "Moving.led", defArgs s_Moving_led, defBody s_Moving_led, defScope s_Moving_led⟩, ⟨("Moving", some "move"), "move", "Moving.move", defArgs s_Moving_move, defBody s_Moving_move, defScope s_Moving_move⟩, ⟨("Moving", some "lead_moved"), "lead_moved", "Moving.lead_moved", defArgs s_Moving_lead_moved, defBody s_Moving_lead_moved, defScope s_Moving_lead_moved⟩, ⟨("Moving", some "lead_slots"), "lead_slots", "Moving.lead_slots", defArgs s_Moving_lead_slots, defBody s_Moving_lead_slots, defScope s_Moving_lead_slots⟩, ⟨("Moving", some "finish"), "finish", "Moving.finish", defArgs s_Moving_finish, defBody s_Moving_finish, defScope s_Moving_finish⟩, ⟨("Memory", some "__init__"), "__init__", "Memory.__init__", defArgs s_Memory_init, defBody s_Memory_init, defScope s_Memory_init⟩, ⟨("Memory", some "is_object"), "is_object", "Memory.is_object", defArgs s_Memory_is_object, defBody s_Memory_is_object, defScope s_Memory_is_object⟩, ⟨("Memory", some "is_young"), "is_young", "Memory.is_young", defArgs s_Memory_is_young, defBody s_Memory_is_young, defScope s_Memory_is_young⟩, ⟨("Memory", some "kind"), "kind", "Memory.kind", defArgs s_Memory_kind, defBody s_Memory_kind, defScope s_Memory_kind⟩, ⟨("Memory", some "slots"), "slots", "Memory.slots", defArgs s_Memory_slots, defBody s_Memory_slots, defScope s_Memory_slots⟩]
def fn4 : List FnD := [⟨("Memory", some "age_of"), "age_of", "Memory.age_of", defArgs s_Memory_age_of, defBody s_Memory_age_of, defScope s_Memory_age_of⟩, ⟨("Memory", some "size"), "size", "Memory.size", defArgs s_Memory_size, defBody s_Memory_size, defScope s_Memory_size⟩, ⟨("Memory", some "link_places"), "link_places", "Memory.link_places", defArgs s_Memory_link_places, defBody s_Memory_link_places, defScope s_Memory_link_places⟩, ⟨("Memory", some "is_great"), "is_great", "Memory.is_great", defArgs s_Memory_is_great, defBody s_Memory_is_great, defScope s_Memory_is_great⟩, ⟨("Memory", some "fits"), "fits", "Memory.fits", defArgs s_Memory_fits, defBody s_Memory_fits, defScope s_Memory_fits⟩, ⟨("Memory", some "lay_young"), "lay_young", "Memory.lay_young", defArgs s_Memory_lay_young, defBody s_Memory_lay_young, defScope s_Memory_lay_young⟩, ⟨("Memory", some "lay_old"), "lay_old", "Memory.lay_old", defArgs s_Memory_lay_old, defBody s_Memory_lay_old, defScope s_Memory_lay_old⟩, ⟨("Memory", some "make"), "make", "Memory.make", defArgs s_Memory_make, defBody s_Memory_make, defScope s_Memory_make⟩, ⟨("Memory", some "set_link"), "set_link", "Memory.set_link", defArgs s_Memory_set_link, defBody s_Memory_set_link, defScope s_Memory_set_link⟩, ⟨("Memory", some "is_white"), "is_white", "Memory.is_white", defArgs s_Memory_is_white, defBody s_Memory_is_white, defScope s_Memory_is_white⟩, ⟨("Memory", some "shade"), "shade", "Memory.shade", defArgs s_Memory_shade, defBody s_Memory_shade, defScope s_Memory_shade⟩, ⟨("Memory", some "grey_row"), "grey_row", "Memory.grey_row", defArgs s_Memory_grey_row, defBody s_Memory_grey_row, defScope s_Memory_grey_row⟩]
def fn5 : List FnD := [⟨("Memory", some "room"), "room", "Memory.room", defArgs s_Memory_room, defBody s_Memory_room, defScope s_Memory_room⟩, ⟨("Memory", some "old_room"), "old_room", "Memory.old_room", defArgs s_Memory_old_room, defBody s_Memory_old_room, defScope s_Memory_old_room⟩, ⟨("Heap", some "__init__"), "__init__", "Heap.__init__", defArgs s_Heap_init, defBody s_Heap_init, defScope s_Heap_init⟩, ⟨("Heap", some "make"), "make", "Heap.make", defArgs s_Heap_make, defBody s_Heap_make, defScope s_Heap_make⟩, ⟨("Heap", some "has_room"), "has_room", "Heap.has_room", defArgs s_Heap_has_room, defBody s_Heap_has_room, defScope s_Heap_has_room⟩, ⟨("Heap", some "moved_young"), "moved_young", "Heap.moved_young", defArgs s_Heap_moved_young, defBody s_Heap_moved_young, defScope s_Heap_moved_young⟩, ⟨("Heap", some "look_at"), "look_at", "Heap.look_at", defArgs s_Heap_look_at, defBody s_Heap_look_at, defScope s_Heap_look_at⟩, ⟨("Heap", some "look_at_address"), "look_at_address", "Heap.look_at_address", defArgs s_Heap_look_at_address, defBody s_Heap_look_at_address, defScope s_Heap_look_at_address⟩, ⟨("Heap", some "look_at_slot"), "look_at_slot", "Heap.look_at_slot", defArgs s_Heap_look_at_slot, defBody s_Heap_look_at_slot, defScope s_Heap_look_at_slot⟩, ⟨("Heap", some "kind"), "kind", "Heap.kind", defArgs s_Heap_kind, defBody s_Heap_kind, defScope s_Heap_kind⟩, ⟨("Heap", some "slots"), "slots", "Heap.slots", defArgs s_Heap_slots, defBody s_Heap_slots, defScope s_Heap_slots⟩, ⟨("Heap", some "get"), "get", "Heap.get", defArgs s_Heap_get, defBody s_Heap_get, defScope s_Heap_get⟩]
def fn6 : List FnD := [⟨("Heap", some "put"), "put", "Heap.put", defArgs s_Heap_put, defBody s_Heap_put, defScope s_Heap_put⟩, ⟨("Heap", some "where"), "where", "Heap.where", defArgs s_Heap_where, defBody s_Heap_where, defScope s_Heap_where⟩, ⟨("Heap", some "remembered"), "remembered", "Heap.remembered", defArgs s_Heap_remembered, defBody s_Heap_remembered, defScope s_Heap_remembered⟩, ⟨("Heap", some "graph"), "graph", "Heap.graph", defArgs s_Heap_graph, defBody s_Heap_graph, defScope s_Heap_graph⟩, ⟨("Heap", some "traced"), "traced", "Heap.traced", defArgs s_Heap_traced, defBody s_Heap_traced, defScope s_Heap_traced⟩, ⟨("Heap", some "unreached"), "unreached", "Heap.unreached", defArgs s_Heap_unreached, defBody s_Heap_unreached, defScope s_Heap_unreached⟩, ⟨("Heap", some "counts"), "counts", "Heap.counts", defArgs s_Heap_counts, defBody s_Heap_counts, defScope s_Heap_counts⟩, ⟨("Heap", some "minor"), "minor", "Heap.minor", defArgs s_Heap_minor, defBody s_Heap_minor, defScope s_Heap_minor⟩, ⟨("Heap", some "settle"), "settle", "Heap.settle", defArgs s_Heap_settle, defBody s_Heap_settle, defScope s_Heap_settle⟩, ⟨("Heap", some "begin"), "begin", "Heap.begin", defArgs s_Heap_begin, defBody s_Heap_begin, defScope s_Heap_begin⟩, ⟨("Heap", some "slice"), "slice", "Heap.slice", defArgs s_Heap_slice, defBody s_Heap_slice, defScope s_Heap_slice⟩, ⟨("Heap", some "whole"), "whole", "Heap.whole", defArgs s_Heap_whole, defBody s_Heap_whole, defScope s_Heap_whole⟩]
def fn7 : List FnD := [⟨("Heap", some "is_marking"), "is_marking", "Heap.is_marking", defArgs s_Heap_is_marking, defBody s_Heap_is_marking, defScope s_Heap_is_marking⟩, ⟨("Heap", some "picture"), "picture", "Heap.picture", defArgs s_Heap_picture, defBody s_Heap_picture, defScope s_Heap_picture⟩]
def fn : List FnD := fn0 ++ (fn1 ++ (fn2 ++ (fn3 ++ (fn4 ++ (fn5 ++ (fn6 ++ (fn7)))))))
def fa0 : List Fa := [.glo "_wall", .keep "_wall", .glo "is_integer", .keep "is_integer", .glo "is_between", .keep "is_between", .glo "is_tuple_to", .keep "is_tuple_to", .glo "is_tuple_of", .keep "is_tuple_of", .glo "look_at_shapes", .keep "look_at_shapes", .glo "look_at_sizes", .keep "look_at_sizes", .glo "look_at_kind", .keep "look_at_kind", .glo "look_at_size", .keep "look_at_size", .glo "is_size", .keep "is_size"]
def fa1 : List Fa := [.glo "look_at_roots", .keep "look_at_roots", .glo "are_roots", .keep "are_roots", .glo "shape_links", .keep "shape_links", .glo "head_word", .keep "head_word", .glo "kind_told", .keep "kind_told", .glo "age_told", .keep "age_told", .glo "colour_told", .keep "colour_told", .glo "move_young", .keep "move_young", .glo "begin_marking", .keep "begin_marking", .glo "is_grey_left", .keep "is_grey_left"]
def fa2 : List Fa := [.glo "blacken_first", .keep "blacken_first", .glo "blacken_all", .keep "blacken_all", .glo "end_marking", .keep "end_marking", .glo "slide", .keep "slide", .glo "new_places", .keep "new_places", .glo "_law_feed", .keep "_law_feed", .glo "_law_draw", .keep "_law_draw", .glo "_law_one", .keep "_law_one", .glo "_law_same", .keep "_law_same", .glo "_law_wide", .keep "_law_wide"]
def fa3 : List Fa := [.glo "_law_shapes", .keep "_law_shapes", .glo "_law_sizes", .keep "_law_sizes", .glo "_law_number", .keep "_law_number", .glo "_law_head", .keep "_law_head", .glo "_law_told", .keep "_law_told", .glo "_law_makes", .keep "_law_makes", .glo "law", .keep "law", .glo "Moving", .glo "Memory", .glo "Heap", .free "bool", .free "enumerate", .free "int"]
def fa4 : List Fa := [.free "isinstance", .free "len", .free "list", .free "max", .free "min", .free "range", .free "sorted", .free "str", .free "sum", .free "tuple", .int "MOST_ENTRIES" (1000), .int "LINK_ROW" (-2), .int "SIGNS" (-3), .int "WHITE" (0), .int "GREY" (1), .int "BLACK" (2), .int "HEAD_WORDS" (2), .int "MOST_SHAPES" (60), .int "MOST_SHAPE_FIELDS" (100), .int "LEAST_NURSERY" (16)]
def fa5 : List Fa := [.int "MOST_ROOM" (4096), .int "LEAST_GREAT" (4), .int "MOST_AGE" (7), .int "MOST_ROOTS" (40000), .cls "Moving", .mkr "Moving", .cls "Memory", .mkr "Memory", .cls "Heap", .mkr "Heap", .noat "Moving" "memory", .noat "Moving" "is_settling", .noat "Moving" "half", .noat "Moving" "moved", .noat "Moving" "to_half", .noat "Moving" "to_old", .noat "Memory" "shapes", .noat "Memory" "sizes", .noat "Memory" "great", .noat "Memory" "age"]
def fa6 : List Fa := [.noat "Memory" "firsts", .noat "Memory" "first_old", .noat "Memory" "shapes_links", .noat "Memory" "words", .noat "Memory" "nexts", .noat "Memory" "half", .noat "Memory" "young", .noat "Memory" "old", .noat "Memory" "remembered", .noat "Memory" "grey", .noat "Memory" "done", .noat "Memory" "marks", .noat "Memory" "ended", .noat "Heap" "memory", .meth "Moving" "__init__", .meth "Moving" "led", .meth "Moving" "move", .meth "Moving" "lead_moved", .meth "Moving" "lead_slots", .meth "Moving" "finish"]
def fa7 : List Fa := [.meth "Memory" "__init__", .meth "Memory" "is_object", .meth "Memory" "is_young", .meth "Memory" "kind", .meth "Memory" "slots", .meth "Memory" "age_of", .meth "Memory" "size", .meth "Memory" "link_places", .meth "Memory" "is_great", .meth "Memory" "fits", .meth "Memory" "lay_young", .meth "Memory" "lay_old", .meth "Memory" "make", .meth "Memory" "set_link", .meth "Memory" "is_white", .meth "Memory" "shade", .meth "Memory" "grey_row", .meth "Memory" "room", .meth "Memory" "old_room", .meth "Heap" "__init__"]
def fa8 : List Fa := [.meth "Heap" "make", .meth "Heap" "has_room", .meth "Heap" "moved_young", .meth "Heap" "look_at", .meth "Heap" "look_at_address", .meth "Heap" "look_at_slot", .meth "Heap" "kind", .meth "Heap" "slots", .meth "Heap" "get", .meth "Heap" "put", .meth "Heap" "where", .meth "Heap" "remembered", .meth "Heap" "graph", .meth "Heap" "traced", .meth "Heap" "unreached", .meth "Heap" "counts", .meth "Heap" "minor", .meth "Heap" "settle", .meth "Heap" "begin", .meth "Heap" "slice"]
def fa9 : List Fa := [.meth "Heap" "whole", .meth "Heap" "is_marking", .meth "Heap" "picture"]
def fa : List Fa := fa0 ++ (fa1 ++ (fa2 ++ (fa3 ++ (fa4 ++ (fa5 ++ (fa6 ++ (fa7 ++ (fa8 ++ (fa9)))))))))
abbrev R : PySem.W.OpenRow := PySem.W.OpenLaw.row PySem.Challenge.rw_movedrun_k38_objects_are_words
abbrev Ob : Type := He.Al
def obs (K : PySem.W.Frag) : Ob := He.obsE fa fn K
def val (w : World) : Ob := He.valE fn
/-- what an object leads to -/
def leads (o : Obj) : List Addr := match o.data with
  | .dict es _ => es.toList.flatMap fun e => He.refV e.val
  | .func fd => He.refV fd.code ++ fd.closure.map (·.2)
  | .cls cd => cd.ns :: cd.mro.flatMap He.refV
  | _ => []
def onFrom (g : Addr → Option Obj) (as : List Addr) : List Addr := as.flatMap fun a => match g a with
  | some o => leads o
  | none => []
def layers (g : Addr → Option Obj) : Nat → List Addr → List Addr
  | 0, as => as
  | n + 1, as => as ++ layers g n (onFrom g as)
def at_ (g : Addr → Option Obj) : List Addr := cStatics :: layers g 4 [mainGlobals]
def obsG (g : Addr → Option Obj) : Ob := obs (He.frG g (at_ g))
def Says (w : World) (K : PySem.W.Frag) : Prop := obs K = val w
def hook : PySem.W.Hook where
  α := Ob
  obs := fun s => obsG s.heap.get?
  val := fun w => val w
  says := fun w h => ∃ K : PySem.W.Frag, K.In h ∧ Says w K
  of := fun _ _ e => ⟨_, He.frG_in, e⟩
  keeps := fun _ _ _ ⟨K, hK, c⟩ k => ⟨K, PySem.W.Frag.In.keeps hK k, c⟩
def ob (s : PySem.W.SharedT) : Ob := obsG (HandSHeadRun.getT s)
theorem ob_eq (s : PySem.W.SharedT) : ob s = hook.obs s.abs := by
  have e : HandSHeadRun.getT s = s.abs.heap.get? := funext (HandSHeadRun.getT_eq s)
  unfold ob
  rw [e]
  rfl
def names0 : List PySem.Str := ["_wall", "__name__", "MachineError", "BadShapes", "BadKind", "BadSize", "BadSizes", "BadRoots", "BadAddress", "BadSlot", "Marking", "__name__"]
def names1 : List PySem.Str := ["is_integer", "is_between", "is_tuple_to", "is_tuple_of", "MOST_ENTRIES", "__name__", "LINK_ROW", "SIGNS", "WHITE", "GREY", "BLACK", "HEAD_WORDS"]
def names2 : List PySem.Str := ["MOST_SHAPES", "MOST_SHAPE_FIELDS", "LEAST_NURSERY", "MOST_ROOM", "LEAST_GREAT", "MOST_AGE", "MOST_ROOTS", "look_at_shapes", "look_at_sizes", "look_at_kind", "look_at_size", "is_size"]
def names3 : List PySem.Str := ["look_at_roots", "are_roots", "shape_links", "head_word", "kind_told", "age_told", "colour_told", "__name__", "move_young", "Moving", "__name__", "begin_marking"]
def names4 : List PySem.Str := ["is_grey_left", "blacken_first", "blacken_all", "end_marking", "slide", "new_places", "__name__", "Memory", "__name__", "Heap", "__name__", "_law_feed"]
def names5 : List PySem.Str := ["_law_draw", "_law_one", "_law_same", "_law_wide", "_law_shapes", "_law_sizes", "_law_number", "_law_head", "_law_told", "_law_makes"]
def names : List PySem.Str := names0 ++ (names1 ++ (names2 ++ (names3 ++ (names4 ++ (names5)))))
abbrev qv : Program := PySem.W.view R.prog [70]
end HX

namespace HX
open PySem PySem.W PySem.Calls PyProof.Rows HandSHeadRun
set_option maxHeartbeats 0 in
theorem run (w : World) : RunEq R qv hook ob 15000 names w := by
  intro os
  kernel_rfl
end HX

/-! Data, draws, what is kept. -/
namespace PV
open PySem PySem.Spec PyProof.Rows L2
mutual
inductive Dv (H : Hp) : V → PyData → Prop
  | non : Dv H .non .none
  | bl (b : Bool) : Dv H (.bl b) (.bool b)
  | int (i : Int) : Dv H (.int i) (.int i)
  | str (z : Str) (hz : z.length ≤ 50000) : Dv H (.str z) (.str z)
  | tup {a : Addr} {xs : List V} {ds : List PyData} (h : H a = some (.tup xs)) (hl : xs.length ≤ 50000) (r : DvAll H xs ds) : Dv H (.ref a) (.tuple ds)
inductive DvAll (H : Hp) : List V → List PyData → Prop
  | nil : DvAll H [] []
  | cons {v : V} {vs : List V} {d : PyData} {ds : List PyData} (h : Dv H v d) (r : DvAll H vs ds) : DvAll H (v :: vs) (d :: ds)
end
mutual
theorem Dv.dp (K : PySem.W.Frag) {H : Hp} : ∀ {v : V} {d : PyData}, Dv H v d → Dp K H v d
  | _, _, .non => .non
  | _, _, .bl b => .bl b
  | _, _, .int i => .int i
  | _, _, .str z _ => .str z
  | _, _, .tup h _ r => .tup (SqT.of h) (DvAll.dp K r)
theorem DvAll.dp (K : PySem.W.Frag) {H : Hp} : ∀ {vs : List V} {ds : List PyData}, DvAll H vs ds → DpAll K H vs ds
  | _, _, .nil => .nil
  | _, _, .cons h r => .cons (Dv.dp K h) (DvAll.dp K r)
end
def TupSame (H H' : Hp) : Prop := ∀ a xs, H a = some (.tup xs) → H' a = some (.tup xs)
theorem TupSame.refl (H : Hp) : TupSame H H := fun _ _ e => e
theorem TupSame.trans {H H1 H2 : Hp} (a : TupSame H H1) (b : TupSame H1 H2) : TupSame H H2 := fun x xs e => b x xs (a x xs e)
theorem TupSame.of {H H' : Hp} (s : Same H H') : TupSame H H' := fun _ _ e => s _ _ e
mutual
theorem Dv.same {H H' : Hp} (s : TupSame H H') : ∀ {v : V} {d : PyData}, Dv H v d → Dv H' v d
  | _, _, .non => .non
  | _, _, .bl b => .bl b
  | _, _, .int i => .int i
  | _, _, .str z h => .str z h
  | _, _, .tup h hl r => .tup (s _ _ h) hl (DvAll.same s r)
theorem DvAll.same {H H' : Hp} (s : TupSame H H') : ∀ {vs : List V} {ds : List PyData}, DvAll H vs ds → DvAll H' vs ds
  | _, _, .nil => .nil
  | _, _, .cons h r => .cons (Dv.same s h) (DvAll.same s r)
end
theorem DvAll.len {H : Hp} : ∀ {vs : List V} {ds : List PyData}, DvAll H vs ds → vs.length = ds.length
  | _, _, .nil => rfl
  | _, _, .cons h r => congrArg (· + 1) r.len
theorem DvAll.get {H : Hp} : ∀ {vs : List V} {ds : List PyData} {i : Nat} {d : PyData}, DvAll H vs ds → ds[i]? = some d → ∃ v, vs[i]? = some v ∧ Dv H v d
  | _, _, _, _, .nil, e => by simp at e
  | _, _, 0, _, .cons h r, e => by
    simp at e
    rw [← e]
    exact ⟨_, rfl, h⟩
  | _, _, i + 1, _, .cons h r, e => by
    obtain ⟨v, e1, h1⟩ := r.get (i := i) (by simpa using e)
    exact ⟨v, by simpa using e1, h1⟩
/-- the words of a tuple -/
theorem Dv.tupE {H : Hp} {v : V} {ds : List PyData} (h : Dv H v (.tuple ds)) : ∃ a xs, v = .ref a ∧ H a = some (.tup xs) ∧ xs.length ≤ 50000 ∧ DvAll H xs ds := by
  cases h with
  | tup h hl r => exact ⟨_, _, rfl, h, hl, r⟩
theorem Dv.strE {H : Hp} {v : V} {z : Str} (h : Dv H v (.str z)) : v = .str z ∧ z.length ≤ 50000 := by
  cases h with
  | str _ hz => exact ⟨rfl, hz⟩
theorem DvAll.consE {H : Hp} {vs : List V} {d : PyData} {ds : List PyData} (h : DvAll H vs (d :: ds)) : ∃ u us, vs = u :: us ∧ Dv H u d ∧ DvAll H us ds := by
  cases h with
  | cons h r => exact ⟨_, _, rfl, h, r⟩
theorem DvAll.nilE {H : Hp} {vs : List V} (h : DvAll H vs []) : vs = [] := by cases h; rfl
end PV
namespace KI
open PySem PySem.Spec PyProof.Rows L2 PV
def isT : PyData → Bool
  | .tuple _ => true
  | _ => false
def isB : PyData → Bool
  | .bool _ => true
  | _ => false
/-- its type, as isinstance asks -/
theorem _root_.PV.Dv.ty {K : PySem.W.Frag} {H : Hp} {v : V} {d : PyData} (h : Dv H v d) : ∃ t : String, TyX K H v (.type t) ∧ PySem.W.kitOne K (.type t) (.type "bool") = some (isB d) ∧ PySem.W.kitOne K (.type t) (.type "tuple") = some (isT d) := by
  cases h with
  | non => exact ⟨"NoneType", .base .non, kit_ty (show kitB "NoneType" "bool" = some false by decide +kernel), kit_ty (show kitB "NoneType" "tuple" = some false by decide +kernel)⟩
  | bl b => exact ⟨"bool", .base (.bl b), kit_ty (show kitB "bool" "bool" = some true by decide +kernel), kit_ty (show kitB "bool" "tuple" = some false by decide +kernel)⟩
  | int i => exact ⟨"int", .base (.int i), kit_ty (show kitB "int" "bool" = some false by decide +kernel), kit_ty (show kitB "int" "tuple" = some false by decide +kernel)⟩
  | str z _ => exact ⟨"str", .base (.str z), kit_ty (show kitB "str" "bool" = some false by decide +kernel), kit_ty (show kitB "str" "tuple" = some false by decide +kernel)⟩
  | tup h _ r => exact ⟨"tuple", .base (.tup h), kit_ty (show kitB "tuple" "bool" = some false by decide +kernel), kit_ty (show kitB "tuple" "tuple" = some true by decide +kernel)⟩
theorem get2 {H : Hp} {vs : List V} {ds : List PyData} {i : Nat} {v : V} {d : PyData} (r : DvAll H vs ds) (e1 : vs[i]? = some v) (e2 : ds[i]? = some d) : Dv H v d := by
  obtain ⟨u, h1, h2⟩ := r.get e2
  rw [e1] at h1
  cases h1
  exact h2
theorem _root_.PV.DvAll.app {H : Hp} : ∀ {vs us : List V} {ds es : List PyData}, DvAll H vs ds → DvAll H us es → DvAll H (vs ++ us) (ds ++ es)
  | _, _, _, _, .nil, b => b
  | _, _, _, _, .cons h r, b => .cons h (r.app b)
theorem _root_.PV.DvAll.split {H : Hp} : ∀ {ds : List PyData} {e : PyData} {vs : List V}, DvAll H vs (ds ++ [e]) → ∃ us v, vs = us ++ [v] ∧ DvAll H us ds ∧ Dv H v e
  | [], e, _, .cons h .nil => ⟨[], _, rfl, .nil, h⟩
  | d :: ds, e, _, .cons h r => by
    obtain ⟨us, v, e1, r1, h1⟩ := r.split (ds := ds)
    exact ⟨_ :: us, v, by rw [e1]; rfl, .cons h r1, h1⟩
end KI
namespace KA
open T
open PySem L2
structure Gd (K : PySem.W.Frag) (mg : Str → Option Value) (x : Str) (st : Stmt) (ps : List Str) (f : Addr) (fd : FuncData) : Prop where
  F : Fun K x x st f fd
  g : mg x = some (.ref f)
  b : Binds K fd ps []
structure Md (K : PySem.W.Frag) (C : Addr) (x q : Str) (st : Stmt) (ps : List Str) (f : Addr) (fd : FuncData) : Prop where
  F : Fun K x q st f fd
  m : Meth K C x f
  b : Binds K fd ps []
/-- the feed at p, drawn from at most n times -/
def FeedAt (H : Hp) (p : Addr) (n : Nat) : Prop := ∃ a b c : Int, H p = some (.lst [.int a, .int b, .int c]) ∧ 0 ≤ a ∧ 0 ≤ b ∧ b < 10 ^ 40 ∧ 0 ≤ c ∧ c ≤ n
/-- all but p stands as it stood -/
def But (p : Addr) (H H' : Hp) : Prop := ∀ b, b ≠ p → H' b = H b
theorem But.refl (p : Addr) (H : Hp) : But p H H := fun _ _ => rfl
theorem But.trans {p : Addr} {H H1 H2 : Hp} (a : But p H H1) (b : But p H1 H2) : But p H H2 := fun c h => (b c h).trans (a c h)
theorem But.upd {p : Addr} {H : Hp} {o : HO} : But p H (upd H p o) := fun _ h => upd_ne h
theorem But.none {p q : Addr} {H H' : Hp} (a : But p H H') {o : HO} (hp : H p = some o) (h : H q = none) : H' q = none := by
  rw [a q (fun e => by rw [e, hp] at h; cases h)]
  exact h
theorem But.seq {K : PySem.W.Frag} {p q : Addr} {H H' : Hp} {xs : List V} (e : But p H H') (hq : q ≠ p) (h : SqL K H q xs) : SqL K H' q xs := by
  rcases h with (h | ⟨o, h⟩) | h
  · exact .inl (.inl ((e q hq).trans h))
  · exact .inl (.inr ⟨o, (e q hq).trans h⟩)
  · exact .inr h
theorem cut_ints (ns : List Int) (lo hi : Option Int) : ∃ ms : List Int, cutV (ns.map V.int) lo hi = ms.map V.int :=
  ⟨_, by unfold cutV; rw [← List.map_drop, ← List.map_take]⟩
def spFeed (K : PySem.W.Frag) : Sp := fun vs H Q _ => ∃ (a : Addr) (ns : List Int) (k : Nat), vs = [.ref a, .int k] ∧ SqL K H a (ns.map V.int) ∧ k ≤ 1000 ∧
  ∀ (p : Addr) (H' : Hp), H p = none → Same H H' → FeedAt H' p 0 → Q (.ref p) H'
def spDraw : Sp := fun vs H Q _ => ∃ (p : Addr) (m : Int) (n : Nat), vs = [.ref p, .int m] ∧ FeedAt H p n ∧ n ≤ 2 ^ 60 ∧ 0 < m ∧ m < 2 ^ 40 ∧
  ∀ (r : Int) (H' : Hp), 0 ≤ r → r < m → But p H H' → FeedAt H' p (n + 1) → Q (.int r) H'
/-- one of the things -/
def spOne (K : PySem.W.Frag) : Sp := fun vs H Q _ => ∃ (p : Addr) (n : Nat), FeedAt H p n ∧ n ≤ 2 ^ 60 ∧
  ((∃ (t : Addr) (xs : List V), vs = [.ref p, .ref t] ∧ t ≠ p ∧ SqL K H t xs ∧ 0 < xs.length ∧ xs.length < 2 ^ 30 ∧
    ∀ (x : V) (H' : Hp), x ∈ xs → But p H H' → FeedAt H' p (n + 1) → Q x H') ∨
   (∃ z : Str, vs = [.ref p, .str z] ∧ 0 < z.length ∧ z.length < 1000 ∧ ∀ (c : Nat) (H' : Hp), c ∈ z.cps.toList → But p H H' → FeedAt H' p (n + 1) → Q (.str ⟨#[c]⟩) H'))
section
variable {P : Program} {w : World} {K : PySem.W.Frag} {mg : Str → Option Value} {base : Heap}
theorem ok_feed {f : Addr} {fd : FuncData} (F : Fun K "_law_feed" "_law_feed" s_law_feed f fd) (mSum : mg "sum" = none) (mLen : mg "len" = none) (mMax : mg "max" = none) (mInt : mg "int" = none) : FnOk P w K mg base CX0 1 f fd ["_law_script", "_law_k"] (spFeed K) := by
  refine F.ok sc_law_feed (fun vs H Q E h => ?_) (fun cdv A outer s H vs Q E hr h => ?_)
  · obtain ⟨a, ns, k, rfl, _⟩ := h
    rfl
  · obtain ⟨a, ns, k, rfl, hS, hk, q⟩ := h
    refine ⟨_, pss_cons (ps_set (i := 2) sc_law_feed.nd rfl (Or.inl rfl) (pe_op op_add (pe_op op_mul pe_int (pv 1)) (pe_callB (cr_sum rfl) (by rfl) mSum (by decide +kernel) (pa_cons (pe_slice sl_list (pv 0) po_none (po_some pe_int)) pa_nil))))
      (pss_cons (ps_if (pt_cmpR op_lt (pv 1) (pe_callB call_len_seq (by rfl) mLen PySem.boot_len (pa_cons (pv 0) pa_nil)) (nomark _))
        (pss_one (ps_set (i := 2) sc_law_feed.nd rfl (Or.inl rfl) (pe_ix ix_list (pv 0) (pv 1) (fun _ _ => rfl)))) pss_nil)
      (pss_one (ps_ret (pe_lst (pa_cons (pe_callB (call_max2 rfl) (by rfl) mMax (by decide +kernel) (pa_cons pe_int (pa_cons (pe_op op_sub (pv 2) (pe_op op_pow pe_int pe_int)) pa_nil)))
        (pa_cons (pe_op op_mod (pe_callTy call_int1 (by rfl) mInt (by decide +kernel) (pa_cons (pe_op op_add (pe_op op_mul (pv 2) pe_int) (pe_op op_mul pe_int (pv 1))) pa_nil)) (pe_op op_add (pe_op op_pow pe_int pe_int) pe_int))
        (pa_cons pe_int pa_nil))))))), ?_⟩
    obtain ⟨ms, em⟩ := cut_ints ns none (some 1)
    refine ⟨_, rfl, _, _, rfl, rfl, .inl ⟨by decide, by decide⟩, .ref a, rfl, 1, rfl, a, _, rfl, hS, fun c nc => ?_⟩
    rw [em]
    refine ⟨c, ms, rfl, SqL.of upd_same, _, _, rfl, rfl, ?_⟩
    have s1 : Same H (upd H c (.lst (ms.map V.int))) := fun b o e => by rw [upd_ne (ne_of_none e nc)]; exact e
    have hS1 := s1.seq hS
    refine ⟨_, rfl, .ref a, rfl, a, _, rfl, .inl hS1, _, _, rfl, rfl, _, rfl, ?_⟩
    have fin : ∀ z : Int, tRet (tLst (tCons (tCB (fun xs H Q => ∃ i j, xs = [.int i, .int j] ∧ Q (.int (if j > i then j else i)) H) (tCons (tC (.int 0)) (tCons (tOp (rI0 fun i j => .int (i - j)) (tVar 2) (tOp (rI CPow fun i j => .int (i ^ j.toNat)) (tC (.int 10)) (tC (.int 18)))) tNil)))
        (tCons (tOp (rI (fun _ j => 0 < j) fun i j => .int (i % j)) (tCB (fun xs H Q => (∃ i, xs = [.int i] ∧ Q (.int i) H) ∨ ∃ k, xs = [.bl k] ∧ Q (.int (if k then 1 else 0)) H) (tCons (tOp (rI0 fun i j => .int (i + j)) (tOp (rI CMul fun i j => .int (i * j)) (tVar 2) (tC (.int 19))) (tOp (rI CMul fun i j => .int (i * j)) (tC (.int 7)) (tVar 1))) tNil))
          (tOp (rI0 fun i j => .int (i + j)) (tOp (rI CPow fun i j => .int (i ^ j.toNat)) (tC (.int 10)) (tC (.int 39))) (tC (.int 23))))
        (tCons (tC (.int 0)) tNil)))) { nx := fun _ H' => Q .non H', rt := Q } [some (.ref a), some (.int k), some (.int z)] (upd H c (.lst (ms.map V.int))) := by
      intro z
      refine ⟨_, rfl, _, _, rfl, rfl, ⟨by decide, by decide, by decide⟩, _, _, rfl, rfl, _, _, rfl, ?_⟩
      refine ⟨_, rfl, _, _, rfl, rfl, .inr ⟨by decide, by decide⟩, _, rfl, _, _, rfl, rfl, .inl ⟨by decide, by decide⟩, _, _, rfl, rfl, .inl ⟨_, rfl, ?_⟩⟩
      refine ⟨_, _, rfl, rfl, ⟨by decide, by decide, by decide⟩, _, _, rfl, rfl, _, _, rfl, rfl, (by show (0 : Int) < 10 ^ Int.toNat 39 + 23; decide +kernel), (by show 3 ≤ sizeLine; decide), fun p np => ?_⟩
      have pc : p ≠ c := fun e => by rw [e, upd_same] at np; cases np
      refine q p _ (by rw [upd_ne pc] at np; exact np) (fun b o e => ?_) ⟨_, _, 0, upd_same, ?_, ?_, ?_, Int.le_refl _, Int.le_refl _⟩
      · rw [upd_ne (ne_of_none (s1 b o e) np)]
        exact s1 b o e
      · show (0 : Int) ≤ if _ > (0 : Int) then _ else 0
        split <;> omega
      · exact Int.emod_nonneg _ (by decide +kernel)
      · refine Int.lt_trans (Int.emod_lt_of_pos _ (by decide +kernel)) (by decide +kernel)
    refine ite2 (fun e => ?_) (fun e => ?_)
    · have hlt : k < ns.length := by
        have := of_decide_eq_true e
        rw [List.length_map] at this
        omega
      refine ⟨.ref a, rfl, .int k, rfl, a, _, _, V.int ns[k], rfl, rfl, hS1, atI_nat ?_, fin _⟩
      rw [List.getElem?_map, List.getElem?_eq_getElem hlt]
      rfl
    · exact fin _
theorem ok_draw {f : Addr} {fd : FuncData} (F : Fun K "_law_draw" "_law_draw" s_law_draw f fd) (mInt : mg "int" = none) : FnOk P w K mg base CX0 1 f fd ["_law_feed_here", "_law_many"] spDraw := by
  refine F.ok sc_law_draw (fun vs H Q E h => ?_) (fun cdv A outer s H vs Q E hr h => ?_)
  · obtain ⟨p, m, n, rfl, _⟩ := h
    rfl
  · obtain ⟨p, m, n, rfl, ⟨a, b, c, hp, ha, hb, hb2, hc, hc2⟩, hn, hm, hm2, q⟩ := h
    refine ⟨_, pss_cons (ps_if (pt_cmpR op_gt (pe_ix ix_list (pv 0) pe_int (fun _ _ => rfl)) pe_int (nomark _))
        (pss_cons (ps_set (i := 2) sc_law_draw.nd rfl (Or.inl rfl) (pe_op op_fdivW (pe_ix ix_list (pv 0) pe_int (fun _ _ => rfl)) (pv 1)))
        (pss_cons (ps_set (i := 3) sc_law_draw.nd rfl (Or.inl rfl) (pe_op op_sub (pe_ix ix_list (pv 0) pe_int (fun _ _ => rfl)) (pe_op op_mul (pv 2) (pv 1))))
        (pss_cons (ps_asg (pv 2) (pg_sub (pv 0) pe_int set_list))
        (pss_one (ps_ret (pv 3)))))) pss_nil)
      (pss_cons (ps_asg (pe_op op_add (pe_ix ix_list (pv 0) pe_int (fun _ _ => rfl)) pe_int) (pg_sub (pv 0) pe_int set_list))
      (pss_cons (ps_set (i := 4) sc_law_draw.nd rfl (Or.inl rfl) (pe_op op_add (pe_ix ix_list (pv 0) pe_int (fun _ _ => rfl)) (pe_op op_mul pe_int (pe_ix ix_list (pv 0) pe_int (fun _ _ => rfl)))))
      (pss_cons (ps_set (i := 4) sc_law_draw.nd rfl (Or.inl rfl) (pe_op op_mod (pe_callTy call_int1 (by rfl) mInt (by decide +kernel) (pa_cons (pe_op op_add (pe_op op_mulW (pe_op op_mulW (pv 4) (pv 4)) (pv 4)) (pe_op op_mul pe_int (pe_ix ix_list (pv 0) pe_int (fun _ _ => rfl)))) pa_nil)) (pe_op op_add (pe_op op_pow pe_int pe_int) pe_int)))
      (pss_cons (ps_set (i := 4) sc_law_draw.nd rfl (Or.inl rfl) (pe_op op_mod (pe_callTy call_int1 (by rfl) mInt (by decide +kernel) (pa_cons (pe_op op_add (pe_op op_mulW (pv 4) (pv 4)) pe_int) pa_nil)) (pe_op op_add (pe_op op_pow pe_int pe_int) pe_int)))
      (pss_one (ps_ret (pe_op op_mod (pe_callTy call_int1 (by rfl) mInt (by decide +kernel) (pa_cons (pe_op op_fdiv (pv 4) (pe_op op_pow pe_int pe_int)) pa_nil)) (pv 1)))))))), ?_⟩
    refine ⟨_, rfl, p, _, 0, .int a, rfl, rfl, SqL.of hp, rfl, _, _, rfl, rfl, _, rfl, ?_⟩
    refine ite2 (fun e => ?_) (fun e => ?_)
    · refine ⟨_, rfl, p, _, 0, .int a, rfl, rfl, SqL.of hp, rfl, _, rfl, _, _, rfl, rfl, wide_div (b := 40) hm (by omega) (by decide) (by decide), ?_⟩
      refine ⟨_, rfl, p, _, 0, .int a, rfl, rfl, SqL.of hp, rfl, _, rfl, _, rfl, _, _, rfl, rfl, .inr ⟨by omega, by omega⟩, _, _, rfl, rfl, ?_⟩
      refine ⟨_, rfl, _, rfl, p, _, 0, 0, rfl, rfl, hp, rfl, ?_⟩
      have h1 := Int.emod_add_mul_ediv a m
      have h2 := Int.emod_nonneg a (b := m) (by omega)
      have h3 := Int.emod_lt_of_pos a hm
      have h4 : a / m * m = m * (a / m) := Int.mul_comm _ _
      refine ⟨_, rfl, q _ _ (by omega) (by omega) But.upd ⟨a / m, b, c, upd_same, Int.ediv_nonneg ha (by omega), hb, hb2, hc, by omega⟩⟩
    · refine ⟨_, rfl, p, _, 2, .int c, rfl, rfl, SqL.of hp, rfl, _, _, rfl, rfl, _, rfl, p, _, 2, 2, rfl, rfl, hp, rfl, ?_⟩
      refine ⟨_, rfl, p, _, 1, .int b, rfl, rfl, SqL.of upd_same, rfl, _, rfl, p, _, 2, .int (c + 1), rfl, rfl, SqL.of upd_same, rfl, _, _, rfl, rfl, .inl ⟨by decide, by decide⟩, _, _, rfl, rfl, ?_⟩
      have z1 : (b + 6700417 * (c + 1)).natAbs < 2 ^ 140 := by
        have : (10 : Int) ^ 40 < 2 ^ 139 := by decide +kernel
        have : (2 : Int) ^ 139 + 2 ^ 90 < 2 ^ 140 := by decide +kernel
        have : (2 : Int) ^ 60 * 6700417 + 6700417 < 2 ^ 90 := by decide +kernel
        have : ((2 ^ 140 : Nat) : Int) = 2 ^ 140 := by decide +kernel
        omega
      refine ⟨_, rfl, _, rfl, _, _, rfl, rfl, wide_mul (a := 140) (b := 140) z1 z1 (by decide) (by decide) (by decide), _, rfl, _, _, rfl, rfl,
        wide_mul (a := 280) (b := 140) (by rw [Int.natAbs_mul]; exact Nat.lt_of_lt_of_le (Nat.mul_lt_mul'' z1 z1) (by decide +kernel)) z1 (by decide) (by decide) (by decide), ?_⟩
      refine ⟨_, rfl, p, _, 2, .int (c + 1), rfl, rfl, SqL.of upd_same, rfl, _, _, rfl, rfl, .inl ⟨by decide, by decide⟩, _, _, rfl, rfl, .inl ⟨_, rfl, ?_⟩⟩
      refine ⟨_, _, rfl, rfl, ⟨by decide, by decide, by decide⟩, _, _, rfl, rfl, _, _, rfl, rfl, (by show (0 : Int) < 10 ^ Int.toNat 43 + 57; decide +kernel), ?_⟩
      have z2 : ∀ x : Int, (x % (10 ^ Int.toNat 43 + 57)).natAbs < 2 ^ 150 := fun x => by
        have e1 := Int.emod_nonneg x (b := 10 ^ Int.toNat 43 + 57) (by decide +kernel)
        have e2 := Int.emod_lt_of_pos x (b := 10 ^ Int.toNat 43 + 57) (by decide +kernel)
        have e3 : (10 : Int) ^ Int.toNat 43 + 57 < 2 ^ 150 := by decide +kernel
        have e4 : ((2 ^ 150 : Nat) : Int) = 2 ^ 150 := by decide +kernel
        omega
      refine ⟨_, rfl, _, rfl, _, _, rfl, rfl, wide_mul (a := 150) (b := 150) (z2 _) (z2 _) (by decide) (by decide) (by decide), _, _, rfl, rfl, .inl ⟨_, rfl, ?_⟩⟩
      refine ⟨_, _, rfl, rfl, ⟨by decide, by decide, by decide⟩, _, _, rfl, rfl, _, _, rfl, rfl, (by show (0 : Int) < 10 ^ Int.toNat 38 + 133; decide +kernel), ?_⟩
      refine ⟨_, rfl, _, _, rfl, rfl, ⟨by decide, by decide, by decide⟩, _, _, rfl, rfl, ⟨by decide +kernel, by decide +kernel⟩, .inl ⟨_, rfl, ?_⟩⟩
      refine ⟨_, rfl, _, _, rfl, rfl, hm, q _ _ (Int.emod_nonneg _ (by omega)) (Int.emod_lt_of_pos _ hm) But.upd ⟨a, b, c + 1, upd_same, ha, hb, hb2, by omega, by omega⟩⟩
theorem ok_one {f fD : Addr} {fd fdD : FuncData} (F : Fun K "_law_one" "_law_one" s_law_one f fd) (FD : Fun K "_law_draw" "_law_draw" s_law_draw fD fdD) (bD : Binds K fdD ["_law_feed_here", "_law_many"] []) (gD : mg "_law_draw" = some (.ref fD)) (mInt : mg "int" = none) (mLen : mg "len" = none) :
    FnOk P w K mg base CX0 2 f fd ["_law_feed_here", "_law_things"] (spOne K) := by
  have GD : FnOk P w K mg base CX0 1 fD fdD ["_law_feed_here", "_law_many"] spDraw := ok_draw FD mInt
  refine F.ok sc_law_one (fun vs H Q E h => ?_) (fun cdv A outer s H vs Q E hr h => ?_)
  · obtain ⟨p, n, _, _, ⟨t, xs, rfl, _⟩ | ⟨z, rfl, _⟩⟩ := h <;> rfl
  · obtain ⟨p, n, hF, hn, h⟩ := h
    refine ⟨_, pss_one (ps_ret (pe_ix ix_seq (pv 1) (pe_call GD hr (by rfl) gD FD.kp bD .nil pass0 (pa_cons (pv 0) (pa_cons (pe_callB call_len (by rfl) mLen PySem.boot_len (pa_cons (pv 1) pa_nil)) pa_nil))) (fun _ _ => rfl))), ?_⟩
    rcases h with ⟨t, xs, rfl, ht, hs, h0, h1, q⟩ | ⟨z, rfl, h0, h1, q⟩
    · refine ⟨.ref t, rfl, .ref p, rfl, .ref t, rfl, .ref t, xs.length, rfl, .inl ⟨_, hs, rfl⟩, ?_⟩
      refine ⟨p, xs.length, n, rfl, hF, hn, by omega, by omega, fun r H' r0 r1 bt hF' => ?_⟩
      obtain ⟨j, rfl⟩ : ∃ j : Nat, r = j := ⟨r.toNat, by omega⟩
      have hj : j < xs.length := by omega
      exact .inl ⟨t, xs, j, _, rfl, rfl, bt.seq ht hs, atI_nat (List.getElem?_eq_getElem hj), q xs[j] H' (List.getElem_mem _) bt hF'⟩
    · refine ⟨.str z, rfl, .ref p, rfl, .str z, rfl, .str z, z.length, rfl, ⟨Nat.le_of_lt (small1000 (by omega)), rfl⟩, ?_⟩
      refine ⟨p, z.length, n, rfl, hF, hn, by omega, by omega, fun r H' r0 r1 bt hF' => ?_⟩
      obtain ⟨j, rfl⟩ : ∃ j : Nat, r = j := ⟨r.toNat, by omega⟩
      have hj : j < z.cps.toList.length := by
        have : z.cps.toList.length = z.length := rfl
        omega
      exact .inr (.inr ⟨z, j, z.cps.toList[j], rfl, rfl, Nat.le_of_lt (small1000 (by omega)), atI_nat (List.getElem?_eq_getElem hj), q _ H' (List.getElem_mem _) bt hF'⟩)
end
end KA
namespace KK
open PySem PySem.Spec PyProof.Rows L2 KA KI PV T
/-- all but p is kept -/
def Kept (p : Addr) (H H' : Hp) : Prop := ∀ b o, b ≠ p → H b = some o → H' b = some o
theorem Kept.trans {p : Addr} {H H1 H2 : Hp} (a : Kept p H H1) (b : Kept p H1 H2) : Kept p H H2 := fun c o n h => b c o n (a c o n h)
theorem Kept.of_but {p : Addr} {H H' : Hp} (b : But p H H') : Kept p H H' := fun c o n h => (b c n).trans h
theorem Kept.of_same {p : Addr} {H H' : Hp} (b : Same H H') : Kept p H H' := fun c o n h => b c o h
theorem Kept.new {p q : Addr} {H : Hp} {o : HO} (h : H q = none) : Kept p H (upd H q o) := fun b u n e => by rw [upd_ne (ne_of_none e h)]; exact e
theorem Kept.tups {p : Addr} {H H' : Hp} {n : Nat} (k : Kept p H H') (hF : FeedAt H p n) : TupSame H H' := fun a xs e => by
  obtain ⟨x, y, z, h, _⟩ := hF
  exact k a _ (ne_of e h (by intro z; cases z)) e
theorem feed_new {H : Hp} {p q : Addr} {n : Nat} {o : HO} (hF : FeedAt H p n) (h : H q = none) : FeedAt (upd H q o) p n := by
  obtain ⟨x, y, z, e, r⟩ := hF
  exact ⟨x, y, z, by rw [upd_ne (ne_of_none e h)]; exact e, r⟩
theorem feed_ne {H : Hp} {p q : Addr} {n : Nat} (hF : FeedAt H p n) (h : H q = none) : q ≠ p := by
  obtain ⟨x, y, z, e, r⟩ := hF
  exact (ne_of_none e h).symm
theorem draw_k {H : Hp} {p : Addr} {m : Int} {n : Nat} {Q : VK} {E : XK} (hF : FeedAt H p n) (hn : n ≤ 2 ^ 60) (h0 : 0 < m) (h1 : m < 2 ^ 30) (k : ∀ (r : Int) (H' : Hp), 0 ≤ r → r < m → Kept p H H' → FeedAt H' p (n + 1) → Q (.int r) H') :
    spDraw [.ref p, .int m] H Q E := ⟨p, m, n, rfl, hF, hn, h0, by omega, fun r H' a b c d => k r H' a b (.of_but c) d⟩
theorem one_lst {K : PySem.W.Frag} {H : Hp} {p L : Addr} {n : Nat} {xs : List V} {Q : VK} {E : XK} (hF : FeedAt H p n) (hn : n ≤ 2 ^ 60) (nL : H L = none) (h0 : 0 < xs.length) (h1 : xs.length < 2 ^ 30)
    (k : ∀ (x : V) (H' : Hp), x ∈ xs → Kept p H H' → FeedAt H' p (n + 1) → Q x H') : spOne K [.ref p, .ref L] (upd H L (.lst xs)) Q E :=
  ⟨p, n, feed_new hF nL, hn, .inl ⟨L, xs, rfl, feed_ne hF nL, SqL.of upd_same, h0, h1, fun x H' hx bt hF' => k x H' hx ((Kept.new nL).trans (.of_but bt)) hF'⟩⟩
theorem kept_free {H H' : Hp} {p a : Addr} {m : Nat} (k : Kept p H H') (hF : FeedAt H' p m) (h : H' a = none) : H a = none := by
  cases e : H a with
  | none => rfl
  | some o =>
    rw [k a o (feed_ne hF h) e] at h
    cases h
structure Lw (K : PySem.W.Frag) (mg : Str → Option Value) (C_Moving C_Memory C_Heap : Addr) : Prop where
  b_bool : mg "bool" = none
  b_enumerate : mg "enumerate" = none
  b_int : mg "int" = none
  b_isinstance : mg "isinstance" = none
  b_len : mg "len" = none
  b_list : mg "list" = none
  b_max : mg "max" = none
  b_min : mg "min" = none
  b_range : mg "range" = none
  b_sorted : mg "sorted" = none
  b_str : mg "str" = none
  b_sum : mg "sum" = none
  b_tuple : mg "tuple" = none
  c_MOST_ENTRIES : ∃ t, mg "MOST_ENTRIES" = some (.int (1000) t)
  c_LINK_ROW : ∃ t, mg "LINK_ROW" = some (.int (-2) t)
  c_SIGNS : ∃ t, mg "SIGNS" = some (.int (-3) t)
  c_WHITE : ∃ t, mg "WHITE" = some (.int (0) t)
  c_GREY : ∃ t, mg "GREY" = some (.int (1) t)
  c_BLACK : ∃ t, mg "BLACK" = some (.int (2) t)
  c_HEAD_WORDS : ∃ t, mg "HEAD_WORDS" = some (.int (2) t)
  c_MOST_SHAPES : ∃ t, mg "MOST_SHAPES" = some (.int (60) t)
  c_MOST_SHAPE_FIELDS : ∃ t, mg "MOST_SHAPE_FIELDS" = some (.int (100) t)
  c_LEAST_NURSERY : ∃ t, mg "LEAST_NURSERY" = some (.int (16) t)
  c_MOST_ROOM : ∃ t, mg "MOST_ROOM" = some (.int (4096) t)
  c_LEAST_GREAT : ∃ t, mg "LEAST_GREAT" = some (.int (4) t)
  c_MOST_AGE : ∃ t, mg "MOST_AGE" = some (.int (7) t)
  c_MOST_ROOTS : ∃ t, mg "MOST_ROOTS" = some (.int (40000) t)
  f__wall : ∃ f d, Gd K mg "_wall" s__wall ["k"] f d
  f_is_integer : ∃ f d, Gd K mg "is_integer" s_is_integer ["thing"] f d
  f_is_between : ∃ f d, Gd K mg "is_between" s_is_between ["thing", "least", "greatest"] f d
  f_is_tuple_to : ∃ f d, Gd K mg "is_tuple_to" s_is_tuple_to ["thing", "most"] f d
  f_is_tuple_of : ∃ f d, Gd K mg "is_tuple_of" s_is_tuple_of ["thing", "many"] f d
  f_look_at_shapes : ∃ f d, Gd K mg "look_at_shapes" s_look_at_shapes ["shapes"] f d
  f_look_at_sizes : ∃ f d, Gd K mg "look_at_sizes" s_look_at_sizes ["sizes"] f d
  f_look_at_kind : ∃ f d, Gd K mg "look_at_kind" s_look_at_kind ["shapes", "kind"] f d
  f_look_at_size : ∃ f d, Gd K mg "look_at_size" s_look_at_size ["shapes", "kind", "slots"] f d
  f_is_size : ∃ f d, Gd K mg "is_size" s_is_size ["shapes", "kind", "slots"] f d
  f_look_at_roots : ∃ f d, Gd K mg "look_at_roots" s_look_at_roots ["roots", "holder"] f d
  f_are_roots : ∃ f d, Gd K mg "are_roots" s_are_roots ["roots", "holder"] f d
  f_shape_links : ∃ f d, Gd K mg "shape_links" s_shape_links ["shape"] f d
  f_head_word : ∃ f d, Gd K mg "head_word" s_head_word ["kind", "age", "colour"] f d
  f_kind_told : ∃ f d, Gd K mg "kind_told" s_kind_told ["head"] f d
  f_age_told : ∃ f d, Gd K mg "age_told" s_age_told ["head"] f d
  f_colour_told : ∃ f d, Gd K mg "colour_told" s_colour_told ["head"] f d
  f_move_young : ∃ f d, Gd K mg "move_young" s_move_young ["memory", "roots", "is_settling"] f d
  f_begin_marking : ∃ f d, Gd K mg "begin_marking" s_begin_marking ["memory", "roots"] f d
  f_is_grey_left : ∃ f d, Gd K mg "is_grey_left" s_is_grey_left ["memory"] f d
  f_blacken_first : ∃ f d, Gd K mg "blacken_first" s_blacken_first ["memory"] f d
  f_blacken_all : ∃ f d, Gd K mg "blacken_all" s_blacken_all ["memory"] f d
  f_end_marking : ∃ f d, Gd K mg "end_marking" s_end_marking ["memory", "roots"] f d
  f_slide : ∃ f d, Gd K mg "slide" s_slide ["memory", "roots"] f d
  f_new_places : ∃ f d, Gd K mg "new_places" s_new_places ["memory"] f d
  f__law_feed : ∃ f d, Gd K mg "_law_feed" s_law_feed ["_law_script", "_law_k"] f d
  f__law_draw : ∃ f d, Gd K mg "_law_draw" s_law_draw ["_law_feed_here", "_law_many"] f d
  f__law_one : ∃ f d, Gd K mg "_law_one" s_law_one ["_law_feed_here", "_law_things"] f d
  f__law_same : ∃ f d, Gd K mg "_law_same" s_law_same ["_law_told_here", "_law_due"] f d
  f__law_wide : ∃ f d, Gd K mg "_law_wide" s_law_wide ["_law_feed_here"] f d
  f__law_shapes : ∃ f d, Gd K mg "_law_shapes" s_law_shapes ["_law_feed_here"] f d
  f__law_sizes : ∃ f d, Gd K mg "_law_sizes" s_law_sizes ["_law_feed_here"] f d
  f__law_number : ∃ f d, Gd K mg "_law_number" s_law_number ["_law_feed_here", "_law_sizes_here"] f d
  f__law_head : ∃ f d, Gd K mg "_law_head" s_law_head ["_law_kind", "_law_colour", "_law_many"] f d
  f__law_told : ∃ f d, Gd K mg "_law_told" s_law_told ["_law_heap", "_law_address", "_law_due"] f d
  f__law_makes : ∃ f d, Gd K mg "_law_makes" s_law_makes ["_law_script", "_law_heap", "_law_shapes_here", "_law_sizes_here", "_law_marking"] f d
  f_law : ∃ f d, Gd K mg "law" s_law ["_law_script"] f d
  cl_Moving : Cls K C_Moving
  g_Moving : mg "Moving" = some (.ref C_Moving)
  n_Moving_memory : NoAttr K C_Moving "memory"
  n_Moving_is_settling : NoAttr K C_Moving "is_settling"
  n_Moving_half : NoAttr K C_Moving "half"
  n_Moving_moved : NoAttr K C_Moving "moved"
  n_Moving_to_half : NoAttr K C_Moving "to_half"
  n_Moving_to_old : NoAttr K C_Moving "to_old"
  i_Moving : ∃ f d, Mk K C_Moving f ∧ Fun K "__init__" "Moving.__init__" s_Moving_init f d ∧ Binds K d ["self", "memory", "is_settling"] []
  m_Moving_led : ∃ f d, Md K C_Moving "led" "Moving.led" s_Moving_led ["self", "reference"] f d
  m_Moving_move : ∃ f d, Md K C_Moving "move" "Moving.move" s_Moving_move ["self", "address"] f d
  m_Moving_lead_moved : ∃ f d, Md K C_Moving "lead_moved" "Moving.lead_moved" s_Moving_lead_moved ["self"] f d
  m_Moving_lead_slots : ∃ f d, Md K C_Moving "lead_slots" "Moving.lead_slots" s_Moving_lead_slots ["self", "address"] f d
  m_Moving_finish : ∃ f d, Md K C_Moving "finish" "Moving.finish" s_Moving_finish ["self"] f d
  cl_Memory : Cls K C_Memory
  g_Memory : mg "Memory" = some (.ref C_Memory)
  n_Memory_shapes : NoAttr K C_Memory "shapes"
  n_Memory_sizes : NoAttr K C_Memory "sizes"
  n_Memory_great : NoAttr K C_Memory "great"
  n_Memory_age : NoAttr K C_Memory "age"
  n_Memory_firsts : NoAttr K C_Memory "firsts"
  n_Memory_first_old : NoAttr K C_Memory "first_old"
  n_Memory_shapes_links : NoAttr K C_Memory "shapes_links"
  n_Memory_words : NoAttr K C_Memory "words"
  n_Memory_nexts : NoAttr K C_Memory "nexts"
  n_Memory_half : NoAttr K C_Memory "half"
  n_Memory_young : NoAttr K C_Memory "young"
  n_Memory_old : NoAttr K C_Memory "old"
  n_Memory_remembered : NoAttr K C_Memory "remembered"
  n_Memory_grey : NoAttr K C_Memory "grey"
  n_Memory_done : NoAttr K C_Memory "done"
  n_Memory_marks : NoAttr K C_Memory "marks"
  n_Memory_ended : NoAttr K C_Memory "ended"
  i_Memory : ∃ f d, Mk K C_Memory f ∧ Fun K "__init__" "Memory.__init__" s_Memory_init f d ∧ Binds K d ["self", "shapes", "sizes"] []
  m_Memory_is_object : ∃ f d, Md K C_Memory "is_object" "Memory.is_object" s_Memory_is_object ["self", "address"] f d
  m_Memory_is_young : ∃ f d, Md K C_Memory "is_young" "Memory.is_young" s_Memory_is_young ["self", "reference"] f d
  m_Memory_kind : ∃ f d, Md K C_Memory "kind" "Memory.kind" s_Memory_kind ["self", "address"] f d
  m_Memory_slots : ∃ f d, Md K C_Memory "slots" "Memory.slots" s_Memory_slots ["self", "address"] f d
  m_Memory_age_of : ∃ f d, Md K C_Memory "age_of" "Memory.age_of" s_Memory_age_of ["self", "address"] f d
  m_Memory_size : ∃ f d, Md K C_Memory "size" "Memory.size" s_Memory_size ["self", "address"] f d
  m_Memory_link_places : ∃ f d, Md K C_Memory "link_places" "Memory.link_places" s_Memory_link_places ["self", "address"] f d
  m_Memory_is_great : ∃ f d, Md K C_Memory "is_great" "Memory.is_great" s_Memory_is_great ["self", "slots"] f d
  m_Memory_fits : ∃ f d, Md K C_Memory "fits" "Memory.fits" s_Memory_fits ["self", "room", "many"] f d
  m_Memory_lay_young : ∃ f d, Md K C_Memory "lay_young" "Memory.lay_young" s_Memory_lay_young ["self", "room", "words"] f d
  m_Memory_lay_old : ∃ f d, Md K C_Memory "lay_old" "Memory.lay_old" s_Memory_lay_old ["self", "words"] f d
  m_Memory_make : ∃ f d, Md K C_Memory "make" "Memory.make" s_Memory_make ["self", "kind", "slots"] f d
  m_Memory_set_link : ∃ f d, Md K C_Memory "set_link" "Memory.set_link" s_Memory_set_link ["self", "address", "place", "reference"] f d
  m_Memory_is_white : ∃ f d, Md K C_Memory "is_white" "Memory.is_white" s_Memory_is_white ["self", "reference"] f d
  m_Memory_shade : ∃ f d, Md K C_Memory "shade" "Memory.shade" s_Memory_shade ["self", "reference"] f d
  m_Memory_grey_row : ∃ f d, Md K C_Memory "grey_row" "Memory.grey_row" s_Memory_grey_row ["self"] f d
  m_Memory_room : ∃ f d, Md K C_Memory "room" "Memory.room" s_Memory_room ["self", "room"] f d
  m_Memory_old_room : ∃ f d, Md K C_Memory "old_room" "Memory.old_room" s_Memory_old_room ["self"] f d
  cl_Heap : Cls K C_Heap
  g_Heap : mg "Heap" = some (.ref C_Heap)
  n_Heap_memory : NoAttr K C_Heap "memory"
  i_Heap : ∃ f d, Mk K C_Heap f ∧ Fun K "__init__" "Heap.__init__" s_Heap_init f d ∧ Binds K d ["self", "shapes", "sizes"] []
  m_Heap_make : ∃ f d, Md K C_Heap "make" "Heap.make" s_Heap_make ["self", "kind", "slots", "roots"] f d
  m_Heap_has_room : ∃ f d, Md K C_Heap "has_room" "Heap.has_room" s_Heap_has_room ["self", "slots"] f d
  m_Heap_moved_young : ∃ f d, Md K C_Heap "moved_young" "Heap.moved_young" s_Heap_moved_young ["self", "roots"] f d
  m_Heap_look_at : ∃ f d, Md K C_Heap "look_at" "Heap.look_at" s_Heap_look_at ["self", "roots"] f d
  m_Heap_look_at_address : ∃ f d, Md K C_Heap "look_at_address" "Heap.look_at_address" s_Heap_look_at_address ["self", "address"] f d
  m_Heap_look_at_slot : ∃ f d, Md K C_Heap "look_at_slot" "Heap.look_at_slot" s_Heap_look_at_slot ["self", "address", "slot"] f d
  m_Heap_kind : ∃ f d, Md K C_Heap "kind" "Heap.kind" s_Heap_kind ["self", "address"] f d
  m_Heap_slots : ∃ f d, Md K C_Heap "slots" "Heap.slots" s_Heap_slots ["self", "address"] f d
  m_Heap_get : ∃ f d, Md K C_Heap "get" "Heap.get" s_Heap_get ["self", "address", "slot"] f d
  m_Heap_put : ∃ f d, Md K C_Heap "put" "Heap.put" s_Heap_put ["self", "address", "slot", "value"] f d
  m_Heap_where : ∃ f d, Md K C_Heap "where" "Heap.where" s_Heap_where ["self", "address"] f d
  m_Heap_remembered : ∃ f d, Md K C_Heap "remembered" "Heap.remembered" s_Heap_remembered ["self"] f d
  m_Heap_graph : ∃ f d, Md K C_Heap "graph" "Heap.graph" s_Heap_graph ["self", "roots"] f d
  m_Heap_traced : ∃ f d, Md K C_Heap "traced" "Heap.traced" s_Heap_traced ["self", "roots"] f d
  m_Heap_unreached : ∃ f d, Md K C_Heap "unreached" "Heap.unreached" s_Heap_unreached ["self", "roots"] f d
  m_Heap_counts : ∃ f d, Md K C_Heap "counts" "Heap.counts" s_Heap_counts ["self"] f d
  m_Heap_minor : ∃ f d, Md K C_Heap "minor" "Heap.minor" s_Heap_minor ["self", "roots"] f d
  m_Heap_settle : ∃ f d, Md K C_Heap "settle" "Heap.settle" s_Heap_settle ["self", "roots"] f d
  m_Heap_begin : ∃ f d, Md K C_Heap "begin" "Heap.begin" s_Heap_begin ["self", "roots"] f d
  m_Heap_slice : ∃ f d, Md K C_Heap "slice" "Heap.slice" s_Heap_slice ["self", "count", "roots"] f d
  m_Heap_whole : ∃ f d, Md K C_Heap "whole" "Heap.whole" s_Heap_whole ["self", "roots"] f d
  m_Heap_is_marking : ∃ f d, Md K C_Heap "is_marking" "Heap.is_marking" s_Heap_is_marking ["self"] f d
  m_Heap_picture : ∃ f d, Md K C_Heap "picture" "Heap.picture" s_Heap_picture ["self"] f d
end KK

/-! enumerate over a tuple: its making, its turns, the walk. -/
namespace ET
open PySem
open Sem (wp)
theorem meets_new1 {v : Value} {ob : Obj} {Hh : Heap → Prop} (bg : Begins v ob Hh) :
    Meets (Builtin.«enumerate.__new__» ⟨[.type "enumerate", v], []⟩) (fun _ R z => Hh z.heap ∧
      R (.ok (.ret (.ref (z.heap.push ob).objs.size))) { z with heap := (z.heap.push ob).push { cls := .type "enumerate", data := .fields #[.none, .bool false, .ref z.heap.objs.size, rawInt 0, .none, .none] } }) :=
  .of_wp fun prog w A R z both => by
    obtain ⟨hp, g, d, tk, os⟩ := z
    obtain ⟨b1, fin⟩ := both
    have hsub := sub_enumerate
    have its : ∀ {A' : Around} {E : Value → Shared → Prop} {Q : Value → Shared → Prop}, Q (.ref hp.objs.size) ⟨hp.push ob, g, d, tk, os⟩ → wpAny (model prog w) A' (pyIter v) Q E ⟨hp, g, d, tk, os⟩ := fun q => bg.iter prog w _ _ ⟨hp, g, d, tk, os⟩ _ b1 q
    wp_walk using its
    refine wpAny_stack_any fun _ => wpAny_pure ?_
    split
    · rename_i c _ _ _ _ _
      cases (c == Value.type "enumerate") <;> (wp_walk using its; exact ⟨_, rfl, fin⟩)
    · (wp_walk using its; exact ⟨_, rfl, fin⟩)
section
variable {prog : Program} {w : World} {A : Around} {E : Value → Shared → Prop} {s : Shared}
theorem call_enum1 {v : Value} {ob : Obj} {Hh : Heap → Prop} {Q : Value → Shared → Prop} (bg : Begins v ob Hh) (h1 : Hh s.heap)
    (fin : ∀ h', IsEnum h' (s.heap.objs.size + 1) s.heap.objs.size 0 .none → h'.get? s.heap.objs.size = some ob →
      (∀ b o, s.heap.get? b = some o → h'.get? b = some o) → Q (.ref (s.heap.objs.size + 1)) { s with heap := h' }) :
    wpAny (model prog w) A (call (.type "enumerate") [v]) Q E s := by
  refine callType_new F.called_enumerate (by decide) (F.typeCall_enumerate_1 _) (F.newCall_enumerate_1 _) (fun obj => F.args_object_init_2 obj _) F.entry_enumerate_new (meets_new1 bg) ⟨h1, ?_⟩
  have hz : (s.heap.push ob).objs.size = s.heap.objs.size + 1 := Heap.size_push ..
  show _ ∧ _
  rw [hz]
  have he : IsEnum ((s.heap.push ob).push { cls := .type "enumerate", data := .fields #[.none, .bool false, .ref s.heap.objs.size, rawInt 0, .none, .none] }) (s.heap.objs.size + 1) s.heap.objs.size 0 .none := by
    have q := Heap.get?_push_size (s.heap.push ob) (o := { cls := .type "enumerate", data := .fields #[.none, .bool false, .ref s.heap.objs.size, rawInt 0, .none, .none] }) rfl
    rw [hz] at q
    exact q
  exact ⟨⟨_, he, rfl⟩, fin _ he (Heap.get?_push_of_some _ (Heap.get?_push_size _ bg.free)) fun b o x => Heap.get?_push_of_some _ (Heap.get?_push_of_some _ x)⟩
end
end ET
namespace ET
open PySem PySem.Spec PyProof.Rows L2
/-- the tuple at a, each item in a new pair -/
def Itet (K : PySem.W.Frag) (a : Addr) : It :=
  ⟨fun i H => ∃ (xs : List V) (x : V), SqT K H a xs ∧ xs[i]? = some x,
   fun i H v H' => ∃ T x, v = .ref T ∧ H T = none ∧ H' = upd H T (.tup [.int (i : Nat), x]) ∧ ∀ xs, SqT K H a xs → xs[i]? = some x,
   fun i H => ∃ xs : List V, SqT K H a xs ∧ xs.length = i⟩
theorem turn_enumT {P : Program} {w : World} {K : PySem.W.Frag} {elts : List Expr} {kk : Nat} {tpos : Pos} (a e it : Addr) :
    Turn P w K (.Tuple elts kk tpos) (Itet K a) [e, it] e (fun i h => (∃ old, IsEnum h e it ((i : Nat) : Int) old) ∧ h.IsTupleIter it a i ∧ e ≠ it ∧ a ≠ it ∧ a ≠ e) where
  mem := by simp
  obj := fun i h st b hb => by
    obtain ⟨⟨old, he⟩, ⟨o, ho, hc, hd⟩, _⟩ := st
    rcases (by simpa using hb : b = e ∨ b = it) with z | z
    · exact z ▸ ⟨_, he, fun v q => nomatch q⟩
    · exact z ▸ ⟨o, ho, fun v q => by rw [hd] at q; cases q⟩
  keep := fun i h h' st k => by
    obtain ⟨⟨old, he⟩, hi, hne⟩ := st
    exact ⟨⟨old, k e (by simp) _ he⟩, hi.at fun o q => k it (by simp) o q, hne⟩
  item := by
    intro X hP hw hK hc i pins s σ H E I hf st hg
    subst hP hw hK
    obtain ⟨⟨old, he⟩, hit, hne, hai, hae⟩ := st
    obtain ⟨xs, x, hq, hx⟩ := hg
    obtain ⟨its, rv, p, hz⟩ := I.tuple hq
    obtain ⟨u, hu, ru⟩ := rv.get hx
    have hel : e < s.heap.objs.size := Heap.lt_size he
    have hil : it < s.heap.objs.size := by obtain ⟨_, q, _⟩ := hit; exact Heap.lt_size q
    have hh := I.ok.hd hc
    have hi : i < its.toArray.size := by
      have h1 := (List.getElem?_eq_some_iff.mp hu).1
      simpa using h1
    refine wpAny_pyNext_enum_itemD (PySem.Draws.tuple (A := X.A.in1) hh it a hai its.toArray) he ⟨hit, p⟩ hi hne (by simp [hne, Ne.symm hae]) fun u' h' tk hP' ho hit' hT hsz hk => ?_
    have eu : u' = u := by
      have h1 : its.toArray[i]? = some u' := hP'
      rw [show its.toArray[i]? = its[i]? by simp, hu] at h1
      exact (Option.some.inj h1).symm
    subst eu
    refine ⟨_, rfl, wpAny_letOwnedTupleGo_enum (s := { s with heap := h', toks := tk + 1 }) ho fun h'' he' sb => ?_⟩
    have hT2 : h''.get? s.heap.objs.size = some { cls := .type "tuple", data := .seq #[.int i tk, u'] } := (sb.2 _ (Nat.ne_of_gt hel)).trans hT
    have new : ObjOk X.prog X.w (upd H s.heap.objs.size (.tup [.int (i : Nat), x])) h'' s.heap.objs.size (.tup [.int (i : Nat), x]) := ⟨by show 2 ≤ sizeLine; decide, [.int i tk, u'], .cons ⟨_, rfl⟩ (.cons ru .nil), ⟨_, hT2, rfl, _, rfl⟩⟩
    have kept : ∀ b ob, b ∉ [e, it] → s.heap.get? b = some ob → h''.get? b = some ob := fun b ob hb q => (sb.2 b (fun z => hb (by simp [z]))).trans (hk b ob (fun z => hb (by simp [z])) (fun z => hb (by simp [z])) q)
    have I1 : Inv X pins σ (upd H s.heap.objs.size (.tup [.int (i : Nat), x])) { s with heap := h'', toks := tk + 1 } := I.turnedNew (ch := [e, it]) kept hf (Nat.le_refl _) new
    have e1 : ((i + 1 : Nat) : Int) = (i : Int) + 1 := by omega
    refine ⟨.ref s.heap.objs.size, _, I1, rfl, ⟨_, x, rfl, I.hok.fresh (Nat.le_refl _), rfl, fun ys hy => by rw [I.tuple_inj hy hq]; exact hx⟩, ⟨⟨u', by rw [e1]; exact he'⟩, hit'.1.at fun o q => (sb.2 it (Ne.symm hne)).trans q, hne, hai, hae⟩, fun b hb => ?_⟩
    have hb' : b < s.heap.objs.size := by
      rcases (by simpa using hb : b = e ∨ b = it) with z | z
      · exact z ▸ hel
      · exact z ▸ hil
    rw [upd_ne (Nat.ne_of_lt hb')]
    exact (hf b hb).1
  done := by
    intro X hP hw hK hc i pins s σ H E I hf st hg
    subst hP hw hK
    obtain ⟨⟨old, he⟩, hit, hne, hai, hae⟩ := st
    obtain ⟨xs, hq, hx⟩ := hg
    obtain ⟨its, rv, p, hz⟩ := I.tuple hq
    obtain ⟨f0, f1, f2, f3, f4, f5⟩ := hf it (by simp)
    have hl := rv.length
    have hn : i = its.toArray.size := by simp; omega
    subst hn
    exact wpAny_pyNext_enum_endD (PySem.Draws.tuple (A := X.A.in1) (I.ok.hd hc) it a hai its.toArray) he ⟨hit, p⟩ fun h' eb => ⟨rfl, I.turned (t' := s.toks) (fun b o hb q => eb b o hb q) f0 f1 f3 f4 f5⟩
  self := fun A i s Q E st h => by
    obtain ⟨⟨_, he⟩, _⟩ := st
    exact wpAny_pyIter_enum he h
def iEnumT (K : PySem.W.Frag) (ta : TA) : TI := fun σ H R => ta σ H fun vs H1 => ∃ a xs, vs = [.ref a] ∧ SqT K H1 a xs ∧ R (Itet K a) H1
theorem pi_enumT {X : Cx} {e : Expr} {ta : TA} {p pos tpos : Pos} {elts : List Expr} {kk : Nat} (hg : Gl X "enumerate") (hm : X.mg "enumerate" = none) (ha : PA X [e] ta) (hs : starEach [e] X.env = [(false, eval e X.env)] := by rfl) :
    PI X (.Tuple elts kk tpos) (.Call (.Name "enumerate" p) [e] [] pos) (iEnumT X.K ta) := by
  refine ⟨fun pins s σ H R I h => ?_⟩
  refine Call_ (ld_blt I hg hm boot_enumerate (PyProof.Rows.callWith_type1 (thn (ha.run pos pins s σ H _ I h) fun us s1 ⟨vs, H1, I1, r1, q1⟩ => ?_) hs rfl))
  obtain ⟨a, xs, ex, hq, q⟩ := q1
  subst ex
  cases r1 with
  | cons r rr =>
    cases rr
    cases r
    obtain ⟨its, rv, p', hz⟩ := I1.tuple hq
    have hal : a < s1.heap.objs.size := by
      obtain ⟨o, ho, _⟩ := p'
      exact Heap.lt_size ho
    refine call_enum1 (PySem.begins_tuple a its.toArray) p' fun h' he hit hk => wpAny_pyIter_enum he ?_
    have I2 : Inv X pins σ H1 { s1 with heap := h' } := I1.kept (t' := s1.toks) hk
    have hti : h'.IsTupleIter s1.heap.objs.size a 0 := ⟨_, hit, rfl, rfl⟩
    refine ⟨s1.heap.objs.size + 1, [s1.heap.objs.size + 1, s1.heap.objs.size], _, _, H1, rfl, I2, turn_enumT a (s1.heap.objs.size + 1) s1.heap.objs.size, ⟨⟨.none, he⟩, hti, Nat.succ_ne_self _, Nat.ne_of_lt hal, Nat.ne_of_lt (Nat.lt_succ_of_lt hal)⟩, fun b hb => ?_, q⟩
    have hle : s1.heap.objs.size ≤ b := by
      rcases (by simpa using hb : b = s1.heap.objs.size + 1 ∨ b = s1.heap.objs.size) with z | z
      · rw [z]; exact Nat.le_succ _
      · rw [z]; exact Nat.le_refl _
    exact I1.fpOk hle (I1.hok.fresh hle)
theorem walk_enumT {K : PySem.W.Frag} {a : Addr} {xs : List V} : Walk (Itet K a) xs.length (fun H => SqT K H a xs) (YPair (fun i => some (.int (i : Nat))) (fun i => xs[i]?)) := by
  refine ⟨fun i _ hi q => ⟨xs, xs[i], q, by simp [hi]⟩, fun _ q => ⟨xs, q, rfl⟩, fun i H v H' _ q y => ?_⟩
  obtain ⟨T, x, h1, h2, h3, h4⟩ := y
  exact ⟨T, .int (i : Nat), x, h1, h2, h3, rfl, h4 xs q⟩
end ET

/-! Methods by keywords; forms. -/
namespace KK
open PySem PySem.Spec PyProof.Rows L2 KA KI PV T ET
/-! ### o[a:b] = v of lists -/
def gSlice (to ti tj : TE) : TG := fun v σ H Q => to σ H fun x H1 => ti σ H1 fun y H2 => tj σ H2 fun z H3 => ∃ (l b : Addr) (xs ys : List V) (a c : Int), x = .ref l ∧ y = .int a ∧ z = .int c ∧ v = .ref b ∧ H3 l = some (.lst xs) ∧ H3 b = some (.lst ys) ∧ l ≠ b ∧
  0 ≤ a ∧ a ≤ c ∧ c ≤ xs.length ∧ xs.length + ys.length ≤ sizeLine ∧ Q σ (upd H3 l (.lst (xs.take a.toNat ++ ys ++ xs.drop c.toNat)))
theorem pg_slice {X : Cx} {o i j : Expr} {to ti tj : TE} {pos p2 : Pos} (ho : PE X o to) (hi : PE X i ti) (hj : PE X j tj)
    (ha : ∀ v, assign (.Subscript o (.Slice (some i) (some j) none p2) pos) X.env v = (do
      let ov ← holding [v] (eval o X.env)
      let iv ← holding [v, ov] (eval (.Slice (some i) (some j) none p2) X.env)
      standAt pos
      holding [v, ov, iv] (setItem ov iv v)
      release [iv, v, ov] []) := by intro _; rfl) : PG X (.Subscript o (.Slice (some i) (some j) none p2) pos) (gSlice to ti tj) := by
  refine ⟨fun pins s σ H v u Q I r h => ?_⟩
  rw [ha]
  refine wpAny_bind (wpAny_holding (thn (ho.run pins s σ H _ I h) fun ov s1 ⟨x, H1, I1, r1, q1⟩ => ?_))
  refine wpAny_bind (wpAny_holding ?_)
  refine wpAny_Slice ?_
  rw [evalPart_some]
  refine thn (hi.run pins s1 σ H1 _ I1 q1) fun vl s2 ⟨y, H2, I2, r2, q2⟩ => ?_
  rw [evalPart_some]
  refine thn (hj.run pins s2 σ H2 _ I2 q2) fun vu s3 ⟨z, H3, I3, r3, q3⟩ => ?_
  rw [evalPart_none]
  refine wpAny_pure ?_
  obtain ⟨l, b, xs, ys, a, c, rfl, rfl, rfl, rfl, hl, hb, hne, h0, h1, h2, h3, q⟩ := q3
  cases (show ov = Value.ref l from r1)
  cases (show u = Value.ref b from r)
  have I4 : Inv X pins σ H3 { s3 with heap := s3.heap.push { cls := .type "slice", data := .fields #[vl, vu, .none] } } := I3.kept (t' := s3.toks) fun b ob q => Heap.get?_push_of_some _ q
  refine wpAny_bind (wpAny_standAt (wpAny_bind (wpAny_holding ?_)))
  exact set_slice I4 hl hb hne (Heap.IsSliceOf.new ..) r2 r3 h0 h1 h2 h3 fun s5 I5 => wpAny_release ⟨σ, _, I5, q⟩
end KK
namespace PH
open PySem PySem.Spec PyProof.Rows L2 KA KI KK PV T ET
abbrev Thing : Type := Int × List Int
def shPy (sh : List (List Bool)) : PyData := .tuple (sh.map fun r => .tuple (r.map .bool))
def inPy (xs : List Int) : PyData := .tuple (xs.map .int)
theorem dv_ints {H : Hp} {vs : List V} : ∀ {xs : List Int}, DvAll H vs (xs.map .int) → vs = xs.map .int
  | [], r => r.nilE
  | x :: xs, r => by
    obtain ⟨u, us, rfl, h, r2⟩ := r.consE
    cases h
    rw [dv_ints r2]
    rfl
theorem dv_bools {H : Hp} {vs : List V} : ∀ {xs : List Bool}, DvAll H vs (xs.map .bool) → vs = xs.map .bl
  | [], r => r.nilE
  | x :: xs, r => by
    obtain ⟨u, us, rfl, h, r2⟩ := r.consE
    cases h
    rw [dv_bools r2]
    rfl
theorem ints_dv {H : Hp} : ∀ {xs : List Int}, DvAll H (xs.map .int) (xs.map .int)
  | [] => .nil
  | x :: xs => .cons (.int x) ints_dv
theorem bools_dv {H : Hp} : ∀ {xs : List Bool}, DvAll H (xs.map .bl) (xs.map .bool)
  | [] => .nil
  | x :: xs => .cons (.bl x) bools_dv
theorem inPy_at {H : Hp} {v : V} {xs : List Int} (h : Dv H v (inPy xs)) : ∃ a, v = .ref a ∧ H a = some (.tup (xs.map .int)) ∧ xs.length ≤ 50000 := by
  obtain ⟨a, ys, rfl, ha, hl, r⟩ := h.tupE
  obtain rfl := dv_ints r
  exact ⟨a, rfl, ha, by simpa using hl⟩
theorem boolsAt {H : Hp} {v : V} {r : List Bool} (h : Dv H v (.tuple (r.map .bool))) : ∃ a, v = .ref a ∧ H a = some (.tup (r.map .bl)) := by
  obtain ⟨a, ys, rfl, ha, hl, r2⟩ := h.tupE
  obtain rfl := dv_bools r2
  exact ⟨a, rfl, ha⟩
theorem shPy_at {H : Hp} {v : V} {sh : List (List Bool)} (h : Dv H v (shPy sh)) : ∃ (a : Addr) (vs : List V), v = .ref a ∧ H a = some (HO.tup vs) ∧ vs.length = sh.length ∧ ∀ (i : Nat) (r : List Bool), sh[i]? = some r → ∃ b : Addr, vs[i]? = some (V.ref b) ∧ H b = some (.tup (r.map V.bl)) := by
  obtain ⟨a, vs, rfl, ha, hl, r2⟩ := h.tupE
  refine ⟨a, vs, rfl, ha, by simpa using r2.len, fun i r e => ?_⟩
  obtain ⟨v, e1, h1⟩ := r2.get (i := i) (d := .tuple (r.map .bool)) (by simp [e])
  obtain ⟨b, rfl, hb⟩ := boolsAt h1
  exact ⟨b, e1, hb⟩
theorem intTy {K : PySem.W.Frag} {H : Hp} {i : Int} : ∃ t : String, TyX K H (.int i) (.type t) ∧ PySem.W.kitOne K (.type t) (.type "int") = some true ∧ PySem.W.kitOne K (.type t) (.type "bool") = some false ∧ PySem.W.kitOne K (.type t) (.type "str") = some false ∧ PySem.W.kitOne K (.type t) (.type "tuple") = some false :=
  ⟨"int", .base (.int i), kit_ty (by decide +kernel), kit_ty (by decide +kernel), kit_ty (by decide +kernel), kit_ty (by decide +kernel)⟩
theorem blTy {K : PySem.W.Frag} {H : Hp} {i : Bool} : ∃ t : String, TyX K H (.bl i) (.type t) ∧ PySem.W.kitOne K (.type t) (.type "bool") = some true :=
  ⟨"bool", .base (.bl i), kit_ty (by decide +kernel)⟩
theorem tpTy {K : PySem.W.Frag} {H : Hp} {a : Addr} {xs : List V} (h : H a = some (.tup xs)) : ∃ t : String, TyX K H (.ref a) (.type t) ∧ PySem.W.kitOne K (.type t) (.type "tuple") = some true := ⟨"tuple", .base (.tup h), kit_ty (by decide +kernel)⟩
section
variable {P : Program} {w : World} {K : PySem.W.Frag} {mg : Str → Option Value} {base : Heap} {C_Moving C_Memory C_Heap : Addr}
def spInt : Sp := fun vs H Q _ => ∃ i : Int, vs = [.int i] ∧ Q (.bl true) H
theorem ok_int {f : Addr} {fd : FuncData} (G : Gd K mg "is_integer" s_is_integer ["thing"] f fd) (X : Lw K mg C_Moving C_Memory C_Heap) : FnOk P w K mg base CX0 1 f fd ["thing"] (spInt) := by

  refine G.F.ok sc_is_integer (fun vs H Q E h => ?_) (fun cdv A outer s H vs Q E hr h => ?_)
  · obtain ⟨i, rfl, _⟩ := h; rfl
  · obtain ⟨i, rfl, q⟩ := h
    refine ⟨_, (pss_one (ps_ret (pe_and (pe_callB call_isi (by rfl) X.b_isinstance (by decide +kernel) (pa_cons (pv 0) (pa_cons (pe_bltn (by rfl) X.b_int (v := .ty "int") (by decide +kernel) rfl) pa_nil))) (pe_one (pe_not (pe_callB call_isi (by rfl) X.b_isinstance (by decide +kernel) (pa_cons (pv 0) (pa_cons (pe_bltn (by rfl) X.b_bool (v := .ty "bool") (by decide +kernel) rfl) pa_nil)))))))), ?_⟩
    obtain ⟨t, t1, t2, t3, _⟩ := intTy (K := K) (H := H) (i := i)
    exact ⟨_, rfl, _, _, _, _, _, rfl, .ty _, t1, t2, true, rfl, iteT ⟨_, rfl, _, _, _, _, _, rfl, .ty _, t1, t3, false, rfl, q⟩⟩
def spBtw : Sp := fun vs H Q _ => ∃ x a b : Int, vs = [.int x, .int a, .int b] ∧ Q (.bl (decide (a ≤ x ∧ x ≤ b))) H
theorem ok_btw {f : Addr} {fd : FuncData} (G : Gd K mg "is_between" s_is_between ["thing", "least", "greatest"] f fd) (X : Lw K mg C_Moving C_Memory C_Heap) : FnOk P w K mg base CX0 2 f fd ["thing", "least", "greatest"] (spBtw) := by
  obtain ⟨f_is_integer, d_is_integer, G_is_integer⟩ := X.f_is_integer
  have H_is_integer : FnOk P w K mg base CX0 1 f_is_integer d_is_integer ["thing"] (spInt) := ok_int G_is_integer X
  refine G.F.ok sc_is_between (fun vs H Q E h => ?_) (fun cdv A outer s H vs Q E hr h => ?_)
  · obtain ⟨x, a, b, rfl, _⟩ := h; rfl
  · obtain ⟨x, a, b, rfl, q⟩ := h
    refine ⟨_, (pss_one (ps_ret (pe_and (pe_call H_is_integer hr (by rfl) G_is_integer.g G_is_integer.F.kp G_is_integer.b .nil pass0 (pa_cons (pv 0) pa_nil)) (pe_one (pe_chain op_le op_le (pv 1) (pv 0) (pv 2)))))), ?_⟩
    refine ⟨_, rfl, x, rfl, true, rfl, iteT ?_⟩
    refine ⟨_, rfl, _, rfl, a, x, rfl, rfl, _, rfl, ?_⟩
    refine ite2 (fun e => ?_) (fun e => ?_)
    · refine ⟨_, rfl, x, b, rfl, rfl, ?_⟩
      have e1 := of_decide_eq_true e
      have e2 : decide (a ≤ x ∧ x ≤ b) = decide (x ≤ b) := by simp [e1]
      rw [e2] at q
      exact q
    · have e1 : ¬ a ≤ x := fun z => e (decide_eq_true z)
      have e2 : decide (a ≤ x ∧ x ≤ b) = false := by simp [e1]
      rw [e2] at q
      exact q
def spTto : Sp := fun vs H Q _ => ∃ (a : Addr) (xs : List V) (n : Int), vs = [.ref a, .int n] ∧ H a = some (.tup xs) ∧ Q (.bl (decide ((xs.length : Int) ≤ n))) H
theorem ok_tto {f : Addr} {fd : FuncData} (G : Gd K mg "is_tuple_to" s_is_tuple_to ["thing", "most"] f fd) (X : Lw K mg C_Moving C_Memory C_Heap) : FnOk P w K mg base CX0 1 f fd ["thing", "most"] (spTto) := by

  refine G.F.ok sc_is_tuple_to (fun vs H Q E h => ?_) (fun cdv A outer s H vs Q E hr h => ?_)
  · obtain ⟨a, xs, n, rfl, _⟩ := h; rfl
  · obtain ⟨a, xs, n, rfl, ha, q⟩ := h
    refine ⟨_, (pss_one (ps_ret (pe_and (pe_callB call_isi (by rfl) X.b_isinstance (by decide +kernel) (pa_cons (pv 0) (pa_cons (pe_bltn (by rfl) X.b_tuple (v := .ty "tuple") (by decide +kernel) rfl) pa_nil))) (pe_one (pe_cmpR op_le (pe_callB call_len (by rfl) X.b_len PySem.boot_len (pa_cons (pv 0) pa_nil)) (pv 1) (nomark _)))))), ?_⟩
    obtain ⟨t, t1, t2⟩ := tpTy (K := K) ha
    exact ⟨_, rfl, _, _, _, _, _, rfl, .ty _, t1, t2, true, rfl, iteT ⟨_, rfl, .ref a, xs.length, rfl, .inr ⟨_, SqT.of ha, rfl⟩, _, rfl, _, _, rfl, rfl, q⟩⟩
end
end PH

/-! Shapes, kinds, sizes, links. -/
namespace PH
open PySem PySem.Spec PyProof.Rows L2 KA KI KK PV T ET
/-- is this slot of an object of the kind a reference slot? -/
def flag (sh : List (List Bool)) (k : Int) (i : Nat) : Bool := if k < 0 then decide (k = -2) else ((sh[k.toNat]?.getD [])[i]?).getD false
def idxOf (n : Nat) (f : Nat → Bool) : List Nat := (List.range n).filter f
def natV (is : List Nat) : List V := is.map fun (i : Nat) => V.int (i : Int)
/-- a number of slots that an object of the kind may have -/
def sizeOk (sh : List (List Bool)) (k : Int) (n : Nat) : Prop := n ≤ 1000 ∧ (0 ≤ k → ∃ r, sh[k.toNat]? = some r ∧ r.length = n)
section
variable {P : Program} {w : World} {K : PySem.W.Frag} {mg : Str → Option Value} {base : Heap} {C_Moving C_Memory C_Heap : Addr}
def spLas : Sp := fun vs H Q _ => ∃ (v : V) (sh : List (List Bool)), vs = [v] ∧ Dv H v (shPy sh) ∧ sh.length ≤ 60 ∧ (∀ r ∈ sh, r.length ≤ 100) ∧ Q .non H
theorem ok_las {f : Addr} {fd : FuncData} (G : Gd K mg "look_at_shapes" s_look_at_shapes ["shapes"] f fd) (X : Lw K mg C_Moving C_Memory C_Heap) : FnOk P w K mg base CX0 2 f fd ["shapes"] (spLas) := by
  obtain ⟨f_is_tuple_to, d_is_tuple_to, G_is_tuple_to⟩ := X.f_is_tuple_to
  have H_is_tuple_to : FnOk P w K mg base CX0 1 f_is_tuple_to d_is_tuple_to ["thing", "most"] (spTto) := ok_tto G_is_tuple_to X
  obtain ⟨_, m_MOST_SHAPE_FIELDS⟩ := X.c_MOST_SHAPE_FIELDS
  obtain ⟨_, m_MOST_SHAPES⟩ := X.c_MOST_SHAPES
  refine G.F.ok sc_look_at_shapes (fun vs H Q E h => ?_) (fun cdv A outer s H vs Q E hr h => ?_)
  · obtain ⟨v, sh, rfl, _⟩ := h; rfl
  · obtain ⟨v, sh, rfl, hv, h1, h2, q⟩ := h
    obtain ⟨a, vs, rfl, ha, hl, he⟩ := shPy_at hv
    refine ⟨_, (pss_cons (ps_if (pt_not (pt_val (pe_call H_is_tuple_to hr (by rfl) G_is_tuple_to.g G_is_tuple_to.F.kp G_is_tuple_to.b .nil pass0 (pa_cons (pv 0) (pa_cons (pe_glob (v := .int (60)) (by rfl) m_MOST_SHAPES ⟨_, rfl⟩) pa_nil)))))
        pss_never pss_nil)
      (pss_one (ps_for PassesOwn.never rfl (pi_tup (pv 0)) (pg_name (i := 1) sc_look_at_shapes.nd rfl (Or.inl rfl))
        (pss_cons (ps_if (pt_not (pt_val (pe_call H_is_tuple_to hr (by rfl) G_is_tuple_to.g G_is_tuple_to.F.kp G_is_tuple_to.b .nil pass0 (pa_cons (pv 1) (pa_cons (pe_glob (v := .int (100)) (by rfl) m_MOST_SHAPE_FIELDS ⟨_, rfl⟩) pa_nil)))))
        pss_never pss_nil)
      (pss_one (ps_for PassesOwn.never rfl (pi_tup (pv 1)) (pg_name (i := 2) sc_look_at_shapes.nd rfl (Or.inl rfl))
        (pss_one (ps_if (pt_not (pt_val (pe_callB call_isi (by rfl) X.b_isinstance (by decide +kernel) (pa_cons (pv 2) (pa_cons (pe_bltn (by rfl) X.b_bool (v := .ty "bool") (by decide +kernel) rfl) pa_nil)))))
        pss_never pss_nil)))))))), ?_⟩
    refine ⟨_, rfl, a, vs, 60, rfl, ha, ⟨_, rfl, ?_⟩⟩
    rw [decide_eq_true (show (vs.length : Int) ≤ 60 by omega)]
    refine iteF ?_
    refine ⟨_, rfl, a, rfl, ⟨_, SqT.of ha⟩, for_tup (xs := vs) (fun i σ H' => H' = H ∧ ∃ o1 o2, σ = [some (.ref a), o1, o2]) ⟨rfl, _, _, rfl⟩ ?_ ?_ ?_⟩
    · rintro i σ H' _ ⟨rfl, _⟩
      exact SqT.of ha
    · rintro i x σ H' hx ⟨rfl, o1, o2, rfl⟩
      have hi : i < sh.length := by
        have := (List.getElem?_eq_some_iff.mp hx).1
        omega
      obtain ⟨b, e1, hb⟩ := he i sh[i] (List.getElem?_eq_getElem hi)
      rw [e1] at hx
      cases hx
      have hr := h2 sh[i] (List.getElem_mem hi)
      refine ⟨_, rfl, b, _, 100, rfl, hb, ⟨_, rfl, ?_⟩⟩
      rw [decide_eq_true (show ((sh[i].map V.bl).length : Int) ≤ 100 by rw [List.length_map]; omega)]
      refine iteF ?_
      refine ⟨_, rfl, b, rfl, ⟨_, SqT.of hb⟩, for_tup (xs := sh[i].map V.bl) (fun i σ H' => H' = _ ∧ ∃ o1 o2, σ = [some (.ref a), o1, o2]) ⟨rfl, _, _, rfl⟩ ?_ ?_ ?_⟩
      · rintro i σ H' _ ⟨rfl, _⟩
        exact SqT.of hb
      · rintro j x σ H' hx ⟨rfl, o1, o2, rfl⟩
        rw [List.getElem?_map] at hx
        obtain ⟨t, _, rfl⟩ := Option.map_eq_some_iff.mp hx
        obtain ⟨ty, t1, t2⟩ := blTy (K := K) (H := H') (i := t)
        exact ⟨_, rfl, _, _, _, _, _, rfl, .ty _, t1, t2, _, rfl, iteF ⟨rfl, _, _, rfl⟩⟩
      · rintro σ H' ⟨rfl, o1, o2, rfl⟩
        exact ⟨rfl, _, _, rfl⟩
    · rintro σ H' ⟨rfl, _⟩
      exact q
def spLak : Sp := fun vs H Q _ => ∃ (v : V) (k : Int) (sh : List (List Bool)), vs = [v, .int k] ∧ Dv H v (shPy sh) ∧ -3 ≤ k ∧ k < sh.length ∧ Q .non H
theorem ok_lak {f : Addr} {fd : FuncData} (G : Gd K mg "look_at_kind" s_look_at_kind ["shapes", "kind"] f fd) (X : Lw K mg C_Moving C_Memory C_Heap) : FnOk P w K mg base CX0 3 f fd ["shapes", "kind"] (spLak) := by
  obtain ⟨f_is_between, d_is_between, G_is_between⟩ := X.f_is_between
  have H_is_between : FnOk P w K mg base CX0 2 f_is_between d_is_between ["thing", "least", "greatest"] (spBtw) := ok_btw G_is_between X
  obtain ⟨_, m_SIGNS⟩ := X.c_SIGNS
  refine G.F.ok sc_look_at_kind (fun vs H Q E h => ?_) (fun cdv A outer s H vs Q E hr h => ?_)
  · obtain ⟨v, k, sh, rfl, _⟩ := h; rfl
  · obtain ⟨v, k, sh, rfl, hv, h1, h2, q⟩ := h
    obtain ⟨a, vs, rfl, ha, hl, he⟩ := shPy_at hv
    refine ⟨_, (pss_one (ps_if (pt_not (pt_val (pe_call H_is_between hr (by rfl) G_is_between.g G_is_between.F.kp G_is_between.b .nil pass0 (pa_cons (pv 1) (pa_cons (pe_glob (v := .int (-3)) (by rfl) m_SIGNS ⟨_, rfl⟩) (pa_cons (pe_op op_sub (pe_callB call_len (by rfl) X.b_len PySem.boot_len (pa_cons (pv 0) pa_nil)) pe_int) pa_nil))))))
        pss_never pss_nil)), ?_⟩
    refine ⟨_, rfl, .ref a, rfl, .ref a, vs.length, rfl, .inr ⟨_, SqT.of ha, rfl⟩, _, _, rfl, rfl, k, -3, (vs.length : Int) - 1, rfl, _, rfl, ?_⟩
    rw [decide_eq_true (show -3 ≤ k ∧ k ≤ (vs.length : Int) - 1 by omega)]
    exact iteF q
def spIsz : Sp := fun vs H Q _ => ∃ (v : V) (k : Int) (n : Nat) (sh : List (List Bool)), vs = [v, .int k, .int n] ∧ Dv H v (shPy sh) ∧ sizeOk sh k n ∧ Q (.bl true) H
theorem ok_isz {f : Addr} {fd : FuncData} (G : Gd K mg "is_size" s_is_size ["shapes", "kind", "slots"] f fd) (X : Lw K mg C_Moving C_Memory C_Heap) : FnOk P w K mg base CX0 1 f fd ["shapes", "kind", "slots"] (spIsz) := by
  obtain ⟨_, m_MOST_ENTRIES⟩ := X.c_MOST_ENTRIES
  refine G.F.ok sc_is_size (fun vs H Q E h => ?_) (fun cdv A outer s H vs Q E hr h => ?_)
  · obtain ⟨v, k, n, sh, rfl, _⟩ := h; rfl
  · obtain ⟨v, k, n, sh, rfl, hv, ⟨h1, h2⟩, q⟩ := h
    obtain ⟨a, vs, rfl, ha, hl, he⟩ := shPy_at hv
    refine ⟨_, (pss_cons (ps_if (pt_cmpR op_ge (pv 1) pe_int (nomark _))
        (pss_one (ps_ret (pe_cmpR op_eq (pv 2) (pe_callB call_len (by rfl) X.b_len PySem.boot_len (pa_cons (pe_ix ix_tup (pv 0) (pv 1) (fun _ _ => rfl)) pa_nil)) (nomark _)))) pss_nil)
      (pss_one (ps_ret (pe_chain op_le op_le pe_int (pv 2) (pe_glob (v := .int (1000)) (by rfl) m_MOST_ENTRIES ⟨_, rfl⟩))))), ?_⟩
    refine ⟨_, rfl, k, 0, rfl, rfl, _, rfl, ite2 (fun e => ?_) (fun e => ?_)⟩
    · have e1 : 0 ≤ k := of_decide_eq_true e
      obtain ⟨r, er, rfl⟩ := h2 e1
      obtain ⟨b, e2, hb⟩ := he _ r er
      refine ⟨_, rfl, .ref a, rfl, .int k, rfl, a, _, k, .ref b, rfl, rfl, SqT.of ha, ?_, .ref b, _, rfl, .inr ⟨_, SqT.of hb, rfl⟩, rfl, ?_⟩
      · obtain ⟨j, rfl⟩ : ∃ j : Nat, k = j := ⟨k.toNat, by omega⟩
        exact atI_nat e2
      · have : decide (V.int (r.length : Int) = V.int ((r.map V.bl).length : Int)) = true := by simp
        rw [this]
        exact q
    · refine ⟨_, rfl, 0, n, rfl, rfl, _, rfl, ?_⟩
      refine ite2 (fun e2 => ?_) (fun e2 => absurd (decide_eq_true (show (0 : Int) ≤ n by omega)) e2)
      refine ⟨n, 1000, rfl, rfl, ?_⟩
      have : decide ((n : Int) ≤ 1000) = true := decide_eq_true (by omega)
      show Q (V.bl (decide ((n : Int) ≤ 1000))) H
      rw [this]
      exact q
def spLaz : Sp := fun vs H Q _ => ∃ (v : V) (k : Int) (n : Nat) (sh : List (List Bool)), vs = [v, .int k, .int n] ∧ Dv H v (shPy sh) ∧ sizeOk sh k n ∧ Q .non H
theorem ok_laz {f : Addr} {fd : FuncData} (G : Gd K mg "look_at_size" s_look_at_size ["shapes", "kind", "slots"] f fd) (X : Lw K mg C_Moving C_Memory C_Heap) : FnOk P w K mg base CX0 2 f fd ["shapes", "kind", "slots"] (spLaz) := by
  obtain ⟨f_is_size, d_is_size, G_is_size⟩ := X.f_is_size
  have H_is_size : FnOk P w K mg base CX0 1 f_is_size d_is_size ["shapes", "kind", "slots"] (spIsz) := ok_isz G_is_size X
  obtain ⟨f_is_integer, d_is_integer, G_is_integer⟩ := X.f_is_integer
  have H_is_integer : FnOk P w K mg base CX0 1 f_is_integer d_is_integer ["thing"] (spInt) := ok_int G_is_integer X
  refine G.F.ok sc_look_at_size (fun vs H Q E h => ?_) (fun cdv A outer s H vs Q E hr h => ?_)
  · obtain ⟨v, k, n, sh, rfl, _⟩ := h; rfl
  · obtain ⟨v, k, n, sh, rfl, hv, h1, q⟩ := h
    refine ⟨_, (pss_one (ps_if (PW.pt (pw_or (pt_not (pt_val (pe_call H_is_integer hr (by rfl) G_is_integer.g G_is_integer.F.kp G_is_integer.b .nil pass0 (pa_cons (pv 2) pa_nil)))) (pw_or1 (pt_not (pt_val (pe_call H_is_size hr (by rfl) G_is_size.g G_is_size.F.kp G_is_size.b .nil pass0 (pa_cons (pv 0) (pa_cons (pv 1) (pa_cons (pv 2) pa_nil)))))))))
        pss_never pss_nil)), ?_⟩
    refine ⟨_, rfl, n, rfl, true, rfl, iteF ?_⟩
    refine ⟨_, rfl, _, rfl, _, rfl, v, k, n, sh, rfl, hv, h1, true, rfl, iteF q⟩
def spTof : Sp := fun vs H Q _ => ∃ (a : Addr) (xs : List V) (n : Int), vs = [.ref a, .int n] ∧ H a = some (.tup xs) ∧ Q (.bl (decide ((xs.length : Int) = n))) H
theorem ok_tof {f : Addr} {fd : FuncData} (G : Gd K mg "is_tuple_of" s_is_tuple_of ["thing", "many"] f fd) (X : Lw K mg C_Moving C_Memory C_Heap) : FnOk P w K mg base CX0 1 f fd ["thing", "many"] (spTof) := by

  refine G.F.ok sc_is_tuple_of (fun vs H Q E h => ?_) (fun cdv A outer s H vs Q E hr h => ?_)
  · obtain ⟨a, xs, n, rfl, _⟩ := h; rfl
  · obtain ⟨a, xs, n, rfl, ha, q⟩ := h
    refine ⟨_, (pss_one (ps_ret (pe_and (pe_callB call_isi (by rfl) X.b_isinstance (by decide +kernel) (pa_cons (pv 0) (pa_cons (pe_bltn (by rfl) X.b_tuple (v := .ty "tuple") (by decide +kernel) rfl) pa_nil))) (pe_one (pe_cmpR op_eq (pe_callB call_len (by rfl) X.b_len PySem.boot_len (pa_cons (pv 0) pa_nil)) (pv 1) (nomark _)))))), ?_⟩
    obtain ⟨t, t1, t2⟩ := tpTy (K := K) ha
    refine ⟨_, rfl, _, _, _, _, _, rfl, .ty _, t1, t2, true, rfl, iteT ⟨_, rfl, .ref a, xs.length, rfl, .inr ⟨_, SqT.of ha, rfl⟩, _, rfl, rfl, ?_⟩⟩
    have e : decide (V.int (xs.length : Int) = V.int n) = decide ((xs.length : Int) = n) := by simp
    rw [e]
    exact q
def szPy (c : Nat × Nat × Nat × Nat) : PyData := .tuple [.int c.1, .int c.2.1, .int c.2.2.1, .int c.2.2.2]
def szOk (c : Nat × Nat × Nat × Nat) : Prop := 16 ≤ c.1 ∧ c.1 ≤ 4096 ∧ c.2.1 ≤ 4096 ∧ 4 ≤ c.2.2.1 ∧ c.2.2.1 ≤ c.1 ∧ 1 ≤ c.2.2.2 ∧ c.2.2.2 ≤ 7
theorem szPy_at {H : Hp} {v : V} {c : Nat × Nat × Nat × Nat} (h : Dv H v (szPy c)) : ∃ a, v = .ref a ∧ H a = some (.tup [.int c.1, .int c.2.1, .int c.2.2.1, .int c.2.2.2]) := by
  obtain ⟨a, xs, rfl, ha, _, r⟩ := h.tupE
  obtain ⟨u0, us, rfl, h0, r⟩ := r.consE
  obtain ⟨u1, us, rfl, h1, r⟩ := r.consE
  obtain ⟨u2, us, rfl, h2, r⟩ := r.consE
  obtain ⟨u3, us, rfl, h3, r⟩ := r.consE
  obtain rfl := r.nilE
  cases h0
  cases h1
  cases h2
  cases h3
  exact ⟨a, rfl, ha⟩
def spLasz : Sp := fun vs H Q _ => ∃ (v : V) (c : Nat × Nat × Nat × Nat), vs = [v] ∧ Dv H v (szPy c) ∧ szOk c ∧ Q .non H
theorem ok_lasz {f : Addr} {fd : FuncData} (G : Gd K mg "look_at_sizes" s_look_at_sizes ["sizes"] f fd) (X : Lw K mg C_Moving C_Memory C_Heap) : FnOk P w K mg base CX0 3 f fd ["sizes"] (spLasz) := by
  obtain ⟨f_is_between, d_is_between, G_is_between⟩ := X.f_is_between
  have H_is_between : FnOk P w K mg base CX0 2 f_is_between d_is_between ["thing", "least", "greatest"] (spBtw) := ok_btw G_is_between X
  obtain ⟨_, m_MOST_AGE⟩ := X.c_MOST_AGE
  obtain ⟨_, m_LEAST_GREAT⟩ := X.c_LEAST_GREAT
  obtain ⟨_, m_MOST_ROOM⟩ := X.c_MOST_ROOM
  obtain ⟨_, m_LEAST_NURSERY⟩ := X.c_LEAST_NURSERY
  obtain ⟨f_is_tuple_of, d_is_tuple_of, G_is_tuple_of⟩ := X.f_is_tuple_of
  have H_is_tuple_of : FnOk P w K mg base CX0 1 f_is_tuple_of d_is_tuple_of ["thing", "many"] (spTof) := ok_tof G_is_tuple_of X
  refine G.F.ok sc_look_at_sizes (fun vs H Q E h => ?_) (fun cdv A outer s H vs Q E hr h => ?_)
  · obtain ⟨v, c, rfl, _⟩ := h; rfl
  · obtain ⟨v, c, rfl, hv, ⟨c1, c2, c3, c4, c5, c6, c7⟩, q⟩ := h
    obtain ⟨a, rfl, ha⟩ := szPy_at hv
    refine ⟨_, (pss_cons (ps_if (pt_not (pt_val (pe_call H_is_tuple_of (hr.mono (by decide)) (by rfl) G_is_tuple_of.g G_is_tuple_of.F.kp G_is_tuple_of.b .nil pass0 (pa_cons (pv 0) (pa_cons pe_int pa_nil)))))
        pss_never pss_nil)
      (pss_cons (ps_asg (pv 0) (pg_tup rfl (pgs_cons (pg_name (i := 1) sc_look_at_sizes.nd rfl (Or.inl rfl)) (pgs_cons (pg_name (i := 2) sc_look_at_sizes.nd rfl (Or.inl rfl)) (pgs_cons (pg_name (i := 3) sc_look_at_sizes.nd rfl (Or.inl rfl)) (pgs_cons (pg_name (i := 4) sc_look_at_sizes.nd rfl (Or.inl rfl)) pgs_nil))))))
      (pss_cons (ps_if (PW.pt (pw_or (pt_not (pt_val (pe_call H_is_between hr (by rfl) G_is_between.g G_is_between.F.kp G_is_between.b .nil pass0 (pa_cons (pv 1) (pa_cons (pe_glob (v := .int (16)) (by rfl) m_LEAST_NURSERY ⟨_, rfl⟩) (pa_cons (pe_glob (v := .int (4096)) (by rfl) m_MOST_ROOM ⟨_, rfl⟩) pa_nil)))))) (pw_or1 (pt_not (pt_val (pe_call H_is_between hr (by rfl) G_is_between.g G_is_between.F.kp G_is_between.b .nil pass0 (pa_cons (pv 2) (pa_cons pe_int (pa_cons (pe_glob (v := .int (4096)) (by rfl) m_MOST_ROOM ⟨_, rfl⟩) pa_nil)))))))))
        pss_never pss_nil)
      (pss_one (ps_if (PW.pt (pw_or (pt_not (pt_val (pe_call H_is_between hr (by rfl) G_is_between.g G_is_between.F.kp G_is_between.b .nil pass0 (pa_cons (pv 3) (pa_cons (pe_glob (v := .int (4)) (by rfl) m_LEAST_GREAT ⟨_, rfl⟩) (pa_cons (pv 1) pa_nil)))))) (pw_or1 (pt_not (pt_val (pe_call H_is_between hr (by rfl) G_is_between.g G_is_between.F.kp G_is_between.b .nil pass0 (pa_cons (pv 4) (pa_cons pe_int (pa_cons (pe_glob (v := .int (7)) (by rfl) m_MOST_AGE ⟨_, rfl⟩) pa_nil)))))))))
        pss_never pss_nil))))), ?_⟩
    refine ⟨_, rfl, a, _, 4, rfl, ha, _, rfl, iteF ?_⟩
    refine ⟨_, rfl, a, _, rfl, SqT.of ha, rfl, _, _, rfl, _, _, rfl, _, _, rfl, _, _, rfl, rfl, ?_⟩
    have bt : ∀ {x a b : Int}, a ≤ x → x ≤ b → decide (a ≤ x ∧ x ≤ b) = true := fun h1 h2 => decide_eq_true ⟨h1, h2⟩
    refine ⟨_, rfl, _, _, _, rfl, _, rfl, ?_⟩
    rw [bt (by omega) (by omega)]
    refine iteF ⟨_, rfl, _, _, _, rfl, _, rfl, ?_⟩
    rw [bt (by omega) (by omega)]
    refine iteF ?_
    refine ⟨_, rfl, _, rfl, _, _, _, rfl, _, rfl, ?_⟩
    rw [bt (by omega) (by omega)]
    refine iteF ⟨_, rfl, _, _, _, rfl, _, rfl, ?_⟩
    rw [bt (by omega) (by omega)]
    exact iteF q
def headW (k : Int) (age colour : Nat) : Int := (k + 3) * 64 + age * 4 + colour
def spHw : Sp := fun vs H Q _ => ∃ (k : Int) (age colour : Nat), vs = [.int k, .int age, .int colour] ∧ k.natAbs < 1000 ∧ age < 1000 ∧ Q (.int (headW k age colour)) H
theorem ok_hw {f : Addr} {fd : FuncData} (G : Gd K mg "head_word" s_head_word ["kind", "age", "colour"] f fd) (X : Lw K mg C_Moving C_Memory C_Heap) : FnOk P w K mg base CX0 1 f fd ["kind", "age", "colour"] (spHw) := by

  refine G.F.ok sc_head_word (fun vs H Q E h => ?_) (fun cdv A outer s H vs Q E hr h => ?_)
  · obtain ⟨k, age, colour, rfl, _⟩ := h; rfl
  · obtain ⟨k, age, colour, rfl, h1, h2, q⟩ := h
    refine ⟨_, (pss_one (ps_ret (pe_op op_add (pe_op op_add (pe_op op_mul (pe_op op_add (pv 0) pe_int) pe_int) (pe_op op_mul (pv 1) pe_int)) (pv 2)))), ?_⟩
    exact ⟨_, rfl, _, _, rfl, rfl, _, _, rfl, rfl, .inl ⟨by omega, by omega⟩, _, rfl, _, _, rfl, rfl, .inl ⟨by omega, by omega⟩, _, _, rfl, rfl, _, rfl, _, _, rfl, rfl, q⟩
def spKt : Sp := fun vs H Q _ => ∃ (x : Int), vs = [.int x] ∧ Q (.int (x / 64 - 3)) H
theorem ok_kt {f : Addr} {fd : FuncData} (G : Gd K mg "kind_told" s_kind_told ["head"] f fd) (X : Lw K mg C_Moving C_Memory C_Heap) : FnOk P w K mg base CX0 1 f fd ["head"] (spKt) := by

  refine G.F.ok sc_kind_told (fun vs H Q E h => ?_) (fun cdv A outer s H vs Q E hr h => ?_)
  · obtain ⟨x, rfl, _⟩ := h; rfl
  · obtain ⟨x, rfl, q⟩ := h
    refine ⟨_, (pss_one (ps_ret (pe_op op_sub (pe_op op_fdiv (pv 0) pe_int) pe_int))), ?_⟩
    exact ⟨_, rfl, _, _, rfl, rfl, ⟨by decide, by decide⟩, _, _, rfl, rfl, q⟩
def spShl : Sp := fun vs H Q _ => ∃ (v : V) (r : List Bool), vs = [v] ∧ Dv H v (.tuple (r.map .bool)) ∧ r.length ≤ 1000 ∧ ∀ (b : Addr) (H' : Hp), H b = none → Same H H' → H' b = some (.tup (natV (idxOf r.length fun i => r[i]?.getD false))) → Q (.ref b) H'
theorem ok_shl {f : Addr} {fd : FuncData} (G : Gd K mg "shape_links" s_shape_links ["shape"] f fd) (X : Lw K mg C_Moving C_Memory C_Heap) : FnOk P w K mg base CX0 1 f fd ["shape"] (spShl) := by

  refine G.F.ok sc_shape_links (fun vs H Q E h => ?_) (fun cdv A outer s H vs Q E hr h => ?_)
  · obtain ⟨v, r, rfl, _⟩ := h; rfl
  · obtain ⟨v, r, rfl, hv, hl, q⟩ := h
    obtain ⟨a, rfl, ha⟩ := boolsAt hv
    refine ⟨_, (pss_one (ps_ret (pe_callTy call_tuple_of (by rfl) X.b_tuple (by decide +kernel) (pa_cons (pe_lc (own := [("index", 1), ("truth", 2)]) (g := (gTup K 2 (gCons (gName 1) (gCons (gName 2) gNil)))) rfl sc_shape_links.nd (pi_enumT (by rfl) X.b_enumerate (pa_cons (pv 0) pa_nil)) (blkOk_by (own := [("index", 1), ("truth", 2)]) (N := ["shape", "index", "truth"]) (sc := defScope s_shape_links) (by decide +kernel)) (fun _ _ _ _ _ => (pg_tup rfl (pgs_cons (pg_name (i := 1) sc_shape_links.nd rfl (Or.inl rfl)) (pgs_cons (pg_name (i := 2) sc_shape_links.nd rfl (Or.inl rfl)) pgs_nil)))) (fun _ _ _ _ _ => (pts_one (pt_val (pv 2)))) (fun _ _ _ _ _ => (pv 1))) pa_nil)))), ?_⟩
    refine ⟨_, rfl, a, _, rfl, SqT.of ha, fun D nD => ?_⟩
    have kp : ∀ {b : Addr} {o : HO}, H b = some o → b ≠ D := fun e => ne_of_none e nD
    refine lc_it (walk_enumT (xs := r.map V.bl)) (fun i H' => H' D = some (.lst (natV (idxOf i fun i => r[i]?.getD false))) ∧ Same H H') ⟨upd_same, fun b o e => by rw [upd_ne (kp e)]; exact e⟩ ?_ ?_ ?_
    · rintro i H' _ ⟨_, s1⟩
      exact SqT.of (s1 _ _ ha)
    · rintro i x H1 H2 hi ⟨hD, s1⟩ ⟨T, x1, y1, rfl, nT, rfl, e1, e2⟩
      cases e1
      have hi2 : i < r.length := by simpa using hi
      have e2 : (r.map V.bl)[i]? = some y1 := e2
      rw [List.getElem?_map, List.getElem?_eq_getElem hi2] at e2
      cases e2
      have TD : D ≠ T := ne_of_none hD nT
      have s2 : Same H (upd H1 T (.tup [.int (i : Nat), .bl r[i]])) := fun b o e => by rw [upd_ne (ne_of_none (s1 b o e) nT)]; exact s1 b o e
      have hD2 : (upd H1 T (.tup [.int (i : Nat), .bl r[i]])) D = some (.lst (natV (idxOf i fun i => r[i]?.getD false))) := by rw [upd_ne TD]; exact hD
      refine ⟨T, _, rfl, SqT.of upd_same, rfl, _, _, rfl, _, _, rfl, rfl, rfl, _, rfl, r[i], rfl, ?_⟩
      have ei : idxOf (i + 1) (fun i => r[i]?.getD false) = idxOf i (fun i => r[i]?.getD false) ++ if r[i] = true then [i] else [] := by
        unfold idxOf
        rw [List.range_succ, List.filter_append]
        congr 1
        cases e : r[i] <;> simp [hi2, e]
      cases e : r[i] with
      | true =>
        refine iteT ⟨_, rfl, _, by rw [e] at hD2; exact hD2, ?_, ?_⟩
        · have : (natV (idxOf i fun i => r[i]?.getD false)).length ≤ i := by
            unfold natV idxOf
            rw [List.length_map]
            exact Nat.le_trans (List.length_filter_le _ _) (by simp)
          exact small1000 (by omega)
        · refine ⟨?_, fun b o e2 => ?_⟩
          · rw [ei, e, upd_same]
            simp [natV]
          · rw [upd_ne (kp e2), ← e]
            exact s2 b o e2
      | false =>
        refine iteF ⟨?_, ?_⟩
        · rw [ei, e]
          rw [e] at hD2
          simpa using hD2
        · rw [e] at s2
          exact s2
    · rintro H1 ⟨hD, s1⟩
      refine ⟨D, _, rfl, .inl ⟨SqL.of hD, fun p np => ?_⟩⟩
      have e : (r.map V.bl).length = r.length := List.length_map ..
      rw [e]
      exact q p _ (s1.free np) (fun b o e => by rw [upd_ne (ne_of_none (s1 b o e) np)]; exact s1 b o e) upd_same
end
end PH

/-! The memory: its fields, what is asked of it, what is laid. -/
namespace PH
open PySem PySem.Spec PyProof.Rows L2 KA KI KK PV T ET
theorem big {n : Nat} (h : n ≤ 1000000) : n < sizeLine := Nat.lt_of_le_of_lt h (by decide)
def KeptL (l : List Addr) (H H' : Hp) : Prop := ∀ b o, b ∉ l → H b = some o → H' b = some o
theorem KeptL.trans {l : List Addr} {H H1 H2 : Hp} (a : KeptL l H H1) (b : KeptL l H1 H2) : KeptL l H H2 := fun c o n h => b c o n (a c o n h)
theorem KeptL.of_same {l : List Addr} {H H' : Hp} (b : Same H H') : KeptL l H H' := fun c o _ h => b c o h
theorem KeptL.mono {l m : List Addr} {H H' : Hp} (k : KeptL l H H') (h : ∀ b ∈ l, b ∈ m) : KeptL m H H' := fun c o n e => k c o (fun z => n (h c z)) e
theorem KeptL.tups2 {l : List Addr} {H H' : Hp} (k : KeptL l H H') (h : ∀ b ∈ l, ∃ o, H b = some o ∧ ∀ xs, o ≠ .tup xs) : TupSame H H' := fun a xs e => k a _ (fun z => by
  obtain ⟨o, h1, h2⟩ := h a z
  rw [e] at h1
  cases h1
  exact h2 xs rfl) e
theorem same_new {H1 : Hp} {p : Addr} {o : HO} (h : H1 p = none) : Same H1 (upd H1 p o) := fun b u e => by rw [upd_ne (ne_of_none e h)]; exact e
theorem same_at {H H1 : Hp} {p : Addr} {o : HO} (h : H p = none) (s : Same H H1) : Same H (upd H1 p o) := fun b u e => by rw [upd_ne (ne_of_none e h)]; exact s b u e
theorem kept_upd {l : List Addr} {H : Hp} {p : Addr} {o : HO} (h : p ∈ l) : KeptL l H (upd H p o) := fun b u nb e => by
  have hb : b ≠ p := fun z => nb (by rw [z]; exact h)
  rw [upd_ne hb]
  exact e
theorem at_nx {D : Ends} {σ : L2.St} {A B : Hp} (e : B = A) (h : D.nx σ B) : D.nx σ A := e ▸ h
def LinksAt (H : Hp) (aL : Addr) (sh : List (List Bool)) : Prop := ∃ ls : List Addr, H aL = some (.lst (ls.map V.ref)) ∧ ls.length = sh.length ∧
  ∀ (i : Nat) (r : List Bool) (b : Addr), sh[i]? = some r → ls[i]? = some b → H b = some (.tup (natV (idxOf r.length fun j => r[j]?.getD false)))
abbrev Sz : Type := Nat × Nat × Nat × Nat
def Sz.fo (c : Sz) : Nat := c.1 + 2 * c.2.1 + 1
def Sz.firsts (c : Sz) : List Nat := [1, c.1 + 1, c.1 + c.2.1 + 1]
structure Ma where
  m : Addr
  dx : Addr
  aSh : Addr
  aSz : Addr
  aFi : Addr
  aL : Addr
  aW : Addr
  aN : Addr
  aY : Addr
  aO : Addr
  aR : Addr
  aG : Addr
  aE : Addr
structure Ms where
  half : Nat
  words : List Int
  nexts : List Nat
  young : List Nat
  old : List Nat
  rem : List Nat
  grey : List Nat
  done : Nat
  marks : Bool
  ended : List Int
def natI (l : List Nat) : List V := l.map fun (n : Nat) => V.int (n : Int)
def dk (l : List Nat) : List (Key × V) := l.map fun (n : Nat) => ((Sum.inl (n : Int) : Key), V.bl true)
theorem dk_get : ∀ (l : List Nat) (x : Int), valV (dk l) (Sum.inl x : Key) = if x ∈ l.map (fun (n : Nat) => (n : Int)) then some (.bl true) else none
  | [], x => rfl
  | y :: r, x => by
    by_cases e : (y : Int) = x
    · rw [if_pos (by simp [e])]
      exact valV_pos (show (Sum.inl (y : Int) : Key) = Sum.inl x by rw [e])
    · have e1 : valV (dk (y :: r)) (Sum.inl x : Key) = valV (dk r) (Sum.inl x : Key) := valV_neg (fun z => e (by injection z))
      rw [e1, dk_get r x]
      by_cases hm : x ∈ r.map (fun (n : Nat) => (n : Int))
      · rw [if_pos hm, if_pos (by rw [List.map_cons]; exact List.mem_cons_of_mem _ hm)]
      · rw [if_neg hm, if_neg (by
          rw [List.map_cons, List.mem_cons]
          exact fun z => z.elim (fun z => e z.symm) hm)]
theorem dk_put {l : List Nat} {n : Nat} (h : n ∉ l) : putK (dk l) (Sum.inl (n : Int) : Key) (V.bl true) = dk (l ++ [n]) := by
  rw [putK_new]
  · simp [dk]
  · rw [dk_get, if_neg]
    intro z
    obtain ⟨m, hm, e⟩ := List.mem_map.mp z
    have : m = n := by omega
    exact h (this ▸ hm)
def MemF (a : Ma) (c : Sz) (s : Ms) : List (Str × V) := [("shapes", .ref a.aSh), ("sizes", .ref a.aSz), ("great", .int c.2.2.1), ("age", .int c.2.2.2), ("firsts", .ref a.aFi), ("first_old", .int c.fo), ("shapes_links", .ref a.aL), ("words", .ref a.aW), ("nexts", .ref a.aN), ("half", .int s.half),
  ("young", .ref a.aY), ("old", .ref a.aO), ("remembered", .ref a.aR), ("grey", .ref a.aG), ("done", .int s.done), ("marks", .bl s.marks), ("ended", .ref a.aE)]
structure MemAt (CM : Addr) (H : Hp) (a : Ma) (c : Sz) (sh : List (List Bool)) (s : Ms) : Prop where
  at_ : H a.m = some (.ins CM a.dx (MemF a c s))
  shp : Dv H (.ref a.aSh) (shPy sh)
  fi : H a.aFi = some (.tup (natI c.firsts))
  links : LinksAt H a.aL sh
  words : H a.aW = some (.lst (s.words.map V.int))
  nexts : H a.aN = some (.lst (natI s.nexts))
  young : H a.aY = some (.dK (dk s.young))
  old : H a.aO = some (.dK (dk s.old))
  rem : H a.aR = some (.dK (dk s.rem))
  grey : H a.aG = some (.lst (natI s.grey))
  ended : H a.aE = some (.lst (s.ended.map V.int))
  nl : [a.aL, a.aW, a.aN, a.aG, a.aE].Nodup
  nd : [a.aY, a.aO, a.aR].Nodup
/-- what the memory has of its own -/
def Ma.own (a : Ma) : List Addr := [a.m, a.aL, a.aW, a.aN, a.aY, a.aO, a.aR, a.aG, a.aE]
theorem MemAt.ownAt {CM : Addr} {H : Hp} {a : Ma} {c : Sz} {sh : List (List Bool)} {s : Ms} (h : MemAt CM H a c sh s) : ∀ b ∈ a.own, ∃ o, H b = some o ∧ ∀ xs, o ≠ .tup xs := fun b hb => by
  obtain ⟨ls, hL, _⟩ := h.links
  have hb : b ∈ [a.m, a.aL, a.aW, a.aN, a.aY, a.aO, a.aR, a.aG, a.aE] := hb
  simp only [List.mem_cons, List.not_mem_nil, or_false] at hb
  rcases hb with rfl | rfl | rfl | rfl | rfl | rfl | rfl | rfl | rfl
  · exact ⟨_, h.at_, by intro z e; cases e⟩
  · exact ⟨_, hL, by intro z e; cases e⟩
  · exact ⟨_, h.words, by intro z e; cases e⟩
  · exact ⟨_, h.nexts, by intro z e; cases e⟩
  · exact ⟨_, h.young, by intro z e; cases e⟩
  · exact ⟨_, h.old, by intro z e; cases e⟩
  · exact ⟨_, h.rem, by intro z e; cases e⟩
  · exact ⟨_, h.grey, by intro z e; cases e⟩
  · exact ⟨_, h.ended, by intro z e; cases e⟩
theorem MemAt.kept {CM : Addr} {H H' : Hp} {a : Ma} {c : Sz} {sh : List (List Bool)} {s : Ms} {l : List Addr} (h : MemAt CM H a c sh s) (k : KeptL l H H') (tt : TupSame H H') (hn : ∀ b ∈ a.own, b ∉ l) : MemAt CM H' a c sh s := by
  obtain ⟨ls, hL, ll, he⟩ := h.links
  have e : ∀ {b : Addr} {o : HO}, b ∈ a.own → H b = some o → H' b = some o := fun m e => k _ _ (hn _ m) e
  exact ⟨e (by simp [Ma.own]) h.at_, h.shp.same tt, tt _ _ h.fi, ⟨ls, e (by simp [Ma.own]) hL, ll, fun i r b e1 e2 => tt _ _ (he i r b e1 e2)⟩, e (by simp [Ma.own]) h.words, e (by simp [Ma.own]) h.nexts, e (by simp [Ma.own]) h.young, e (by simp [Ma.own]) h.old, e (by simp [Ma.own]) h.rem, e (by simp [Ma.own]) h.grey, e (by simp [Ma.own]) h.ended, h.nl, h.nd⟩
theorem MemAt.same {CM : Addr} {H H' : Hp} {a : Ma} {c : Sz} {sh : List (List Bool)} {s : Ms} (h : MemAt CM H a c sh s) (k : Same H H') : MemAt CM H' a c sh s := h.kept (l := []) (KeptL.of_same k) (TupSame.of k) (fun _ _ z => nomatch z)
theorem memF_no {a : Ma} {c : Sz} {s : Ms} {m : Str} (h : m ∉ (["shapes", "sizes", "great", "age", "firsts", "first_old", "shapes_links", "words", "nexts", "half", "young", "old", "remembered", "grey", "done", "marks", "ended"] : List Str)) : (MemF a c s).lookup m = none := by
  simp only [List.mem_cons, List.not_mem_nil, or_false, not_or] at h
  have e : ∀ {x : Str}, ¬ m = x → (m == x) = false := fun h => by simpa using h
  simp only [MemF, List.lookup, e h.1, e h.2.1, e h.2.2.1, e h.2.2.2.1, e h.2.2.2.2.1, e h.2.2.2.2.2.1, e h.2.2.2.2.2.2.1, e h.2.2.2.2.2.2.2.1, e h.2.2.2.2.2.2.2.2.1, e h.2.2.2.2.2.2.2.2.2.1, e h.2.2.2.2.2.2.2.2.2.2.1, e h.2.2.2.2.2.2.2.2.2.2.2.1,
    e h.2.2.2.2.2.2.2.2.2.2.2.2.1, e h.2.2.2.2.2.2.2.2.2.2.2.2.2.1, e h.2.2.2.2.2.2.2.2.2.2.2.2.2.2.1, e h.2.2.2.2.2.2.2.2.2.2.2.2.2.2.2.1, e h.2.2.2.2.2.2.2.2.2.2.2.2.2.2.2.2]
def inL (l : List Nat) (x : Int) : Bool := decide (x ∈ l.map fun (n : Nat) => (n : Int))
theorem inL_get (l : List Nat) (x : Int) : (valV (dk l) (Sum.inl x : Key)).isSome = inL l x := by
  rw [dk_get]
  unfold inL
  split
  · rename_i h; rw [decide_eq_true h]; rfl
  · rename_i h; rw [decide_eq_false h]; rfl
section
variable {P : Program} {w : World} {K : PySem.W.Frag} {mg : Str → Option Value} {base : Heap} {C_Moving C_Memory C_Heap : Addr}
def spMiso (CM : Addr) : Sp := fun vs H Q _ => ∃ (a : Ma) (x : Int) (c : Sz) (sh : List (List Bool)) (s : Ms), vs = [.ref a.m, .int x] ∧ MemAt CM H a c sh s ∧ Q (.bl (inL s.old x || inL s.young x)) H
theorem ok_miso {f : Addr} {fd : FuncData} (G : Md K C_Memory "is_object" "Memory.is_object" s_Memory_is_object ["self", "address"] f fd) (X : Lw K mg C_Moving C_Memory C_Heap) : FnOk P w K mg base CX0 1 f fd ["self", "address"] (spMiso C_Memory) := by

  refine G.F.ok sc_Memory_is_object (fun vs H Q E h => ?_) (fun cdv A outer s H vs Q E hr h => ?_)
  · obtain ⟨a, x, c, sh, s, rfl, _⟩ := h; rfl
  · obtain ⟨a, x, c, sh, s, rfl, hm, q⟩ := h
    refine ⟨_, (pss_one (ps_ret (pe_or (pe_cmp (pc_din (hu_of hr) (pv 1) (pe_fld (pv 0) rfl)) rfl) (pe_one (pe_cmp (pc_din (hu_of hr) (pv 1) (pe_fld (pv 0) rfl)) rfl))))), ?_⟩
    refine ⟨_, rfl, _, rfl, a.m, C_Memory, a.dx, MemF a c s, .ref a.aO, rfl, hm.at_, X.cl_Memory, X.n_Memory_old, rfl, a.aO, _, rfl, DGet.k (k := Sum.inl x) hm.old, _, rfl, ?_⟩
    rw [inL_get]
    cases e : inL s.old x with
    | true =>
      rw [e] at q
      exact iteT q
    | false =>
      rw [e] at q
      refine iteF ⟨_, rfl, _, rfl, a.m, C_Memory, a.dx, MemF a c s, .ref a.aY, rfl, hm.at_, X.cl_Memory, X.n_Memory_young, rfl, a.aY, _, rfl, DGet.k (k := Sum.inl x) hm.young, ?_⟩
      rw [inL_get]
      exact q
def spMisy (CM : Addr) : Sp := fun vs H Q _ => ∃ (a : Ma) (x : Int) (c : Sz) (sh : List (List Bool)) (s : Ms), vs = [.ref a.m, .int x] ∧ MemAt CM H a c sh s ∧ Q (.bl (decide (0 < x ∧ x < c.fo))) H
theorem ok_misy {f : Addr} {fd : FuncData} (G : Md K C_Memory "is_young" "Memory.is_young" s_Memory_is_young ["self", "reference"] f fd) (X : Lw K mg C_Moving C_Memory C_Heap) : FnOk P w K mg base CX0 1 f fd ["self", "reference"] (spMisy C_Memory) := by

  refine G.F.ok sc_Memory_is_young (fun vs H Q E h => ?_) (fun cdv A outer s H vs Q E hr h => ?_)
  · obtain ⟨a, x, c, sh, s, rfl, _⟩ := h; rfl
  · obtain ⟨a, x, c, sh, s, rfl, hm, q⟩ := h
    refine ⟨_, (pss_one (ps_ret (pe_chain op_lt op_lt pe_int (pv 1) (pe_fld (pv 0) rfl)))), ?_⟩
    refine ⟨_, rfl, 0, x, rfl, rfl, _, rfl, ite2 (fun e => ?_) (fun e => ?_)⟩
    · refine ⟨_, rfl, a.m, C_Memory, a.dx, MemF a c s, .int c.fo, rfl, hm.at_, X.cl_Memory, X.n_Memory_first_old, rfl, x, _, rfl, rfl, ?_⟩
      have e1 : (0 : Int) < x := of_decide_eq_true e
      have e2 : decide (0 < x ∧ x < (c.fo : Int)) = decide (x < (c.fo : Int)) := by simp [e1]
      rw [e2] at q
      exact q
    · have e1 : ¬ (0 : Int) < x := fun z => e (decide_eq_true z)
      have e2 : decide (0 < x ∧ x < (c.fo : Int)) = false := by simp [e1]
      rw [e2] at q
      exact q
def spMkind (CM : Addr) : Sp := fun vs H Q _ => ∃ (a : Ma) (x : Nat) (h : Int) (c : Sz) (sh : List (List Bool)) (s : Ms), vs = [.ref a.m, .int x] ∧ MemAt CM H a c sh s ∧ s.words[x]? = some h ∧ Q (.int (h / 64 - 3)) H
theorem ok_mkind {f : Addr} {fd : FuncData} (G : Md K C_Memory "kind" "Memory.kind" s_Memory_kind ["self", "address"] f fd) (X : Lw K mg C_Moving C_Memory C_Heap) : FnOk P w K mg base CX0 2 f fd ["self", "address"] (spMkind C_Memory) := by
  obtain ⟨f_kind_told, d_kind_told, G_kind_told⟩ := X.f_kind_told
  have H_kind_told : FnOk P w K mg base CX0 1 f_kind_told d_kind_told ["head"] (spKt) := ok_kt G_kind_told X
  refine G.F.ok sc_Memory_kind (fun vs H Q E h => ?_) (fun cdv A outer s H vs Q E hr h => ?_)
  · obtain ⟨a, x, h, c, sh, s, rfl, _⟩ := h; rfl
  · obtain ⟨a, x, hd, c, sh, s, rfl, hm, hx, q⟩ := h
    refine ⟨_, (pss_one (ps_ret (pe_call H_kind_told hr (by rfl) G_kind_told.g G_kind_told.F.kp G_kind_told.b .nil pass0 (pa_cons (pe_ix ix_list (pe_fld (pv 0) rfl) (pv 1) (fun _ _ => rfl)) pa_nil)))), ?_⟩
    exact ⟨_, rfl, a.m, C_Memory, a.dx, MemF a c s, .ref a.aW, rfl, hm.at_, X.cl_Memory, X.n_Memory_words, rfl, _, rfl, a.aW, _, x, .int hd, rfl, rfl, SqL.of hm.words, atI_nat (by rw [List.getElem?_map, hx]; rfl), hd, rfl, q⟩
def spMslots (CM : Addr) : Sp := fun vs H Q _ => ∃ (a : Ma) (x : Nat) (h : Int) (c : Sz) (sh : List (List Bool)) (s : Ms), vs = [.ref a.m, .int x] ∧ MemAt CM H a c sh s ∧ s.words[x + 1]? = some h ∧ Q (.int h) H
theorem ok_mslots {f : Addr} {fd : FuncData} (G : Md K C_Memory "slots" "Memory.slots" s_Memory_slots ["self", "address"] f fd) (X : Lw K mg C_Moving C_Memory C_Heap) : FnOk P w K mg base CX0 1 f fd ["self", "address"] (spMslots C_Memory) := by

  refine G.F.ok sc_Memory_slots (fun vs H Q E h => ?_) (fun cdv A outer s H vs Q E hr h => ?_)
  · obtain ⟨a, x, h, c, sh, s, rfl, _⟩ := h; rfl
  · obtain ⟨a, x, hd, c, sh, s, rfl, hm, hx, q⟩ := h
    refine ⟨_, (pss_one (ps_ret (pe_ix ix_list (pe_fld (pv 0) rfl) (pe_op op_add (pv 1) pe_int) (fun _ _ => rfl)))), ?_⟩
    exact ⟨_, rfl, a.m, C_Memory, a.dx, MemF a c s, .ref a.aW, rfl, hm.at_, X.cl_Memory, X.n_Memory_words, rfl, _, rfl, _, _, rfl, rfl, a.aW, _, ((x + 1 : Nat) : Int), .int hd, rfl, rfl, SqL.of hm.words, atI_nat (by rw [List.getElem?_map, hx]; rfl), q⟩
def spMgreat (CM : Addr) : Sp := fun vs H Q _ => ∃ (a : Ma) (n : Nat) (c : Sz) (sh : List (List Bool)) (s : Ms), vs = [.ref a.m, .int n] ∧ MemAt CM H a c sh s ∧ Q (.bl (decide (c.2.2.1 < 2 + n))) H
theorem ok_mgreat {f : Addr} {fd : FuncData} (G : Md K C_Memory "is_great" "Memory.is_great" s_Memory_is_great ["self", "slots"] f fd) (X : Lw K mg C_Moving C_Memory C_Heap) : FnOk P w K mg base CX0 1 f fd ["self", "slots"] (spMgreat C_Memory) := by
  obtain ⟨_, m_HEAD_WORDS⟩ := X.c_HEAD_WORDS
  refine G.F.ok sc_Memory_is_great (fun vs H Q E h => ?_) (fun cdv A outer s H vs Q E hr h => ?_)
  · obtain ⟨a, n, c, sh, s, rfl, _⟩ := h; rfl
  · obtain ⟨a, n, c, sh, s, rfl, hm, q⟩ := h
    refine ⟨_, (pss_one (ps_ret (pe_cmpR op_gt (pe_op op_add (pe_glob (v := .int (2)) (by rfl) m_HEAD_WORDS ⟨_, rfl⟩) (pv 1)) (pe_fld (pv 0) rfl) (nomark _)))), ?_⟩
    refine ⟨_, rfl, _, _, rfl, rfl, _, rfl, a.m, C_Memory, a.dx, MemF a c s, .int c.2.2.1, rfl, hm.at_, X.cl_Memory, X.n_Memory_great, rfl, _, _, rfl, rfl, ?_⟩
    have e : decide ((c.2.2.1 : Int) < 2 + (n : Int)) = decide (c.2.2.1 < 2 + n) := by
      by_cases h : c.2.2.1 < 2 + n
      · rw [decide_eq_true h, decide_eq_true (by omega)]
      · rw [decide_eq_false h, decide_eq_false (by omega)]
    show Q (.bl (decide ((c.2.2.1 : Int) < 2 + (n : Int)))) H
    rw [e]
    exact q
def endOf (c : Sz) (r : Nat) : Nat := if r = 0 then c.1 + 1 else if r = 1 then c.1 + c.2.1 + 1 else c.fo
def spMfits (CM : Addr) : Sp := fun vs H Q _ => ∃ (a : Ma) (r n x : Nat) (c : Sz) (sh : List (List Bool)) (s : Ms), vs = [.ref a.m, .int r, .int n] ∧ MemAt CM H a c sh s ∧ r < 3 ∧ s.nexts[r]? = some x ∧ Q (.bl (decide (x + n ≤ endOf c r))) H
theorem ok_mfits {f : Addr} {fd : FuncData} (G : Md K C_Memory "fits" "Memory.fits" s_Memory_fits ["self", "room", "many"] f fd) (X : Lw K mg C_Moving C_Memory C_Heap) : FnOk P w K mg base CX0 1 f fd ["self", "room", "many"] (spMfits C_Memory) := by

  refine G.F.ok sc_Memory_fits (fun vs H Q E h => ?_) (fun cdv A outer s H vs Q E hr h => ?_)
  · obtain ⟨a, r, n, x, c, sh, s, rfl, _⟩ := h; rfl
  · obtain ⟨a, r, n, x, c, sh, s, rfl, hm, hr3, hx, q⟩ := h
    refine ⟨_, (pss_cons (ps_set (i := 3) sc_Memory_fits.nd rfl (Or.inl rfl) (pe_ifExp (pt_cmpR op_lt (pv 1) pe_int (nomark _)) (pe_ix ix_tup (pe_fld (pv 0) rfl) (pe_op op_add (pv 1) pe_int) (fun _ _ => rfl)) (pe_fld (pv 0) rfl)))
      (pss_one (ps_ret (pe_cmpR op_le (pe_op op_add (pe_ix ix_list (pe_fld (pv 0) rfl) (pv 1) (fun _ _ => rfl)) (pv 2)) (pv 3) (nomark _))))), ?_⟩
    have fin : ∀ y : Nat, y = endOf c r → ∃ (b C dx : Addr) (fs : List (Str × V)) (v : V), V.ref a.m = .ref b ∧ H b = some (.ins C dx fs) ∧ Cls K C ∧ NoAttr K C "nexts" ∧ fs.lookup ("nexts" : Str) = some v ∧ ∃ (rv : V), [some (V.ref a.m), some (.int (r : Int)), some (.int (n : Int)), some (.int (y : Int))][1]? = some (some rv) ∧
        ∃ (p : Addr) (xs : List V) (i : Int) (u : V), v = .ref p ∧ rv = .int i ∧ SqL K H p xs ∧ atI xs i = some u ∧ ∃ (nv : V), [some (V.ref a.m), some (.int (r : Int)), some (.int (n : Int)), some (.int (y : Int))][2]? = some (some nv) ∧ ∃ (i j : Int), u = .int i ∧ nv = .int j ∧ ∃ (yv : V), [some (V.ref a.m), some (.int (r : Int)), some (.int (n : Int)), some (.int (y : Int))][3]? = some (some yv) ∧
          ∃ (i' j' : Int), V.int (i + j) = .int i' ∧ yv = .int j' ∧ Q (.bl (decide (i' ≤ j'))) H := by
      intro y ey
      refine ⟨a.m, C_Memory, a.dx, MemF a c s, .ref a.aN, rfl, hm.at_, X.cl_Memory, X.n_Memory_nexts, rfl, _, rfl, a.aN, _, r, .int x, rfl, rfl, SqL.of hm.nexts, atI_nat (by unfold natI; rw [List.getElem?_map, hx]; rfl), _, rfl, _, _, rfl, rfl, _, rfl, _, _, rfl, rfl, ?_⟩
      have e : decide ((x : Int) + (n : Int) ≤ (y : Int)) = decide (x + n ≤ endOf c r) := by
        rw [← ey]
        by_cases h : x + n ≤ y
        · rw [decide_eq_true h, decide_eq_true (by omega)]
        · rw [decide_eq_false h, decide_eq_false (by omega)]
      rw [e]
      exact q
    refine ⟨_, rfl, r, 2, rfl, rfl, _, rfl, ite2 (fun e => ?_) (fun e => ?_)⟩
    · have e1 : (r : Int) < 2 := of_decide_eq_true e
      have hfi : (natI c.firsts)[r + 1]? = some (.int (endOf c r : Nat)) := by
        unfold endOf
        rcases (by omega : r = 0 ∨ r = 1) with rfl | rfl <;> rfl
      exact ⟨_, rfl, a.m, C_Memory, a.dx, MemF a c s, .ref a.aFi, rfl, hm.at_, X.cl_Memory, X.n_Memory_firsts, rfl, _, rfl, _, _, rfl, rfl, a.aFi, _, ((r + 1 : Nat) : Int), _, rfl, rfl, SqT.of hm.fi, atI_nat hfi, _, rfl, fin _ rfl⟩
    · have e1 : ¬ (r : Int) < 2 := fun z => e (decide_eq_true z)
      have : endOf c r = c.fo := by
        unfold endOf
        rw [if_neg (by omega), if_neg (by omega)]
      exact ⟨_, rfl, a.m, C_Memory, a.dx, MemF a c s, .int c.fo, rfl, hm.at_, X.cl_Memory, X.n_Memory_first_old, rfl, _, rfl, fin _ this.symm⟩
end
end PH

/-! What is laid, and the rooms. -/
namespace PH
open PySem PySem.Spec PyProof.Rows L2 KA KI KK PV T ET
theorem MemAt.setW {CM : Addr} {H : Hp} {a : Ma} {c : Sz} {sh : List (List Bool)} {s : Ms} (h : MemAt CM H a c sh s) (ws : List Int) : MemAt CM (upd H a.aW (.lst (ws.map V.int))) a c sh { s with words := ws } := by
  have nl := h.nl
  simp only [List.nodup_cons, List.mem_cons, List.not_mem_nil, or_false, not_or, not_false_eq_true, List.nodup_nil, and_true] at nl
  obtain ⟨⟨n1, n2, n3, n4⟩, ⟨n5, n6, n7⟩, ⟨n8, n9⟩, n10⟩ := nl
  obtain ⟨ls, hL, ll, he⟩ := h.links
  have tt : TupSame H (upd H a.aW (.lst (ws.map V.int))) := fun b xs e => by rw [upd_ne (ne_of e h.words (by intro z; cases z))]; exact e
  refine ⟨?_, h.shp.same tt, tt _ _ h.fi, ⟨ls, ?_, ll, fun i r b e1 e2 => tt _ _ (he i r b e1 e2)⟩, upd_same, ?_, ?_, ?_, ?_, ?_, ?_, h.nl, h.nd⟩
  · rw [upd_ne (ne_of h.at_ h.words (by intro z; cases z))]; exact h.at_
  · rw [upd_ne n1]; exact hL
  · rw [upd_ne (fun z => n5 z.symm)]; exact h.nexts
  · rw [upd_ne (ne_of h.young h.words (by intro z; cases z))]; exact h.young
  · rw [upd_ne (ne_of h.old h.words (by intro z; cases z))]; exact h.old
  · rw [upd_ne (ne_of h.rem h.words (by intro z; cases z))]; exact h.rem
  · rw [upd_ne (fun z => n6 z.symm)]; exact h.grey
  · rw [upd_ne (fun z => n7 z.symm)]; exact h.ended
theorem MemAt.setN {CM : Addr} {H : Hp} {a : Ma} {c : Sz} {sh : List (List Bool)} {s : Ms} (h : MemAt CM H a c sh s) (ws : List Nat) : MemAt CM (upd H a.aN (.lst (natI ws))) a c sh { s with nexts := ws } := by
  have nl := h.nl
  simp only [List.nodup_cons, List.mem_cons, List.not_mem_nil, or_false, not_or, not_false_eq_true, List.nodup_nil, and_true] at nl
  obtain ⟨⟨n1, n2, n3, n4⟩, ⟨n5, n6, n7⟩, ⟨n8, n9⟩, n10⟩ := nl
  obtain ⟨ls, hL, ll, he⟩ := h.links
  have tt : TupSame H (upd H a.aN (.lst (natI ws))) := fun b xs e => by rw [upd_ne (ne_of e h.nexts (by intro z; cases z))]; exact e
  refine ⟨?_, h.shp.same tt, tt _ _ h.fi, ⟨ls, ?_, ll, fun i r b e1 e2 => tt _ _ (he i r b e1 e2)⟩, ?_, upd_same, ?_, ?_, ?_, ?_, ?_, h.nl, h.nd⟩
  · rw [upd_ne (ne_of h.at_ h.nexts (by intro z; cases z))]; exact h.at_
  · rw [upd_ne n2]; exact hL
  · rw [upd_ne n5]; exact h.words
  · rw [upd_ne (ne_of h.young h.nexts (by intro z; cases z))]; exact h.young
  · rw [upd_ne (ne_of h.old h.nexts (by intro z; cases z))]; exact h.old
  · rw [upd_ne (ne_of h.rem h.nexts (by intro z; cases z))]; exact h.rem
  · rw [upd_ne (fun z => n8 z.symm)]; exact h.grey
  · rw [upd_ne (fun z => n9 z.symm)]; exact h.ended
theorem MemAt.setY {CM : Addr} {H : Hp} {a : Ma} {c : Sz} {sh : List (List Bool)} {s : Ms} (h : MemAt CM H a c sh s) (ys : List Nat) : MemAt CM (upd H a.aY (.dK (dk ys))) a c sh { s with young := ys } := by
  have nl := h.nd
  simp only [List.nodup_cons, List.mem_cons, List.not_mem_nil, or_false, not_or, not_false_eq_true, List.nodup_nil, and_true] at nl
  obtain ⟨⟨n1, n2⟩, n3⟩ := nl
  obtain ⟨ls, hL, ll, he⟩ := h.links
  have tt : TupSame H (upd H a.aY (.dK (dk ys))) := fun b xs e => by rw [upd_ne (ne_of e h.young (by intro z; cases z))]; exact e
  refine ⟨?_, h.shp.same tt, tt _ _ h.fi, ⟨ls, ?_, ll, fun i r b e1 e2 => tt _ _ (he i r b e1 e2)⟩, ?_, ?_, upd_same, ?_, ?_, ?_, ?_, h.nl, h.nd⟩
  · rw [upd_ne (ne_of h.at_ h.young (by intro z; cases z))]; exact h.at_
  · rw [upd_ne (ne_of hL h.young (by intro z; cases z))]; exact hL
  · rw [upd_ne (ne_of h.words h.young (by intro z; cases z))]; exact h.words
  · rw [upd_ne (ne_of h.nexts h.young (by intro z; cases z))]; exact h.nexts
  · rw [upd_ne (fun z => n1 z.symm)]; exact h.old
  · rw [upd_ne (fun z => n2 z.symm)]; exact h.rem
  · rw [upd_ne (ne_of h.grey h.young (by intro z; cases z))]; exact h.grey
  · rw [upd_ne (ne_of h.ended h.young (by intro z; cases z))]; exact h.ended
theorem MemAt.setO {CM : Addr} {H : Hp} {a : Ma} {c : Sz} {sh : List (List Bool)} {s : Ms} (h : MemAt CM H a c sh s) (ys : List Nat) : MemAt CM (upd H a.aO (.dK (dk ys))) a c sh { s with old := ys } := by
  have nl := h.nd
  simp only [List.nodup_cons, List.mem_cons, List.not_mem_nil, or_false, not_or, not_false_eq_true, List.nodup_nil, and_true] at nl
  obtain ⟨⟨n1, n2⟩, n3⟩ := nl
  obtain ⟨ls, hL, ll, he⟩ := h.links
  have tt : TupSame H (upd H a.aO (.dK (dk ys))) := fun b xs e => by rw [upd_ne (ne_of e h.old (by intro z; cases z))]; exact e
  refine ⟨?_, h.shp.same tt, tt _ _ h.fi, ⟨ls, ?_, ll, fun i r b e1 e2 => tt _ _ (he i r b e1 e2)⟩, ?_, ?_, ?_, upd_same, ?_, ?_, ?_, h.nl, h.nd⟩
  · rw [upd_ne (ne_of h.at_ h.old (by intro z; cases z))]; exact h.at_
  · rw [upd_ne (ne_of hL h.old (by intro z; cases z))]; exact hL
  · rw [upd_ne (ne_of h.words h.old (by intro z; cases z))]; exact h.words
  · rw [upd_ne (ne_of h.nexts h.old (by intro z; cases z))]; exact h.nexts
  · rw [upd_ne n1]; exact h.young
  · rw [upd_ne (fun z => n3 z.symm)]; exact h.rem
  · rw [upd_ne (ne_of h.grey h.old (by intro z; cases z))]; exact h.grey
  · rw [upd_ne (ne_of h.ended h.old (by intro z; cases z))]; exact h.ended
theorem cut_two {xs : List V} {f x : Nat} (h1 : f ≤ x) (h2 : x ≤ xs.length) : cutV xs (some (f : Int)) (some (x : Int)) = (xs.drop f).take (x - f) := by
  unfold cutV
  rw [HT.sIx_nat, HT.sIx_nat, Nat.min_eq_left (by omega), Nat.min_eq_left (by omega)]
theorem cut_from {xs : List V} {f : Nat} (h1 : f ≤ xs.length) : cutV xs (some (f : Int)) none = xs.drop f := by
  unfold cutV
  rw [HT.sIx_nat, HT.sIx_none, Nat.min_eq_left (by omega), List.take_of_length_le (by rw [List.length_drop]; exact Nat.le_refl _)]
def roomW (c : Sz) (s : Ms) (r : Nat) : List Int := (s.words.drop (c.firsts.getD r 0)).take (s.nexts.getD r 0 - c.firsts.getD r 0)
def objW (k : Int) (colour n : Nat) : List Int := headW k 0 colour :: (n : Int) :: List.replicate n 0
theorem objW_len (k : Int) (col n : Nat) : (objW k col n).length = n + 2 := by simp [objW]
theorem kH' {l : List Addr} {H H1 H' : Hp} (S : Same H H1) (k : KeptL l H1 H') : KeptL l H H' := (KeptL.of_same S).trans k
def layY (s : Ms) (r x : Nat) (ws : List Int) : Ms := { s with words := s.words.take x ++ ws ++ s.words.drop (x + ws.length), nexts := s.nexts.set r (x + ws.length), young := s.young ++ [x] }
def layO (s : Ms) (ws : List Int) : Ms := { s with words := s.words ++ ws, old := s.old ++ [s.words.length] }
section
variable {P : Program} {w : World} {K : PySem.W.Frag} {mg : Str → Option Value} {base : Heap} {C_Moving C_Memory C_Heap : Addr}
def spMly (CM : Addr) : Sp := fun vs H Q _ => ∃ (a : Ma) (r x : Nat) (b : Addr) (ws : List Int) (c : Sz) (sh : List (List Bool)) (s : Ms), vs = [.ref a.m, .int r, .ref b] ∧ MemAt CM H a c sh s ∧ H b = some (.lst (ws.map V.int)) ∧ b ∉ a.own ∧ s.nexts[r]? = some x ∧ x + ws.length ≤ s.words.length ∧ s.words.length + ws.length ≤ 1000000 ∧
  x ∉ s.young ∧ s.young.length ≤ 1000000 ∧ ∀ H', MemAt CM H' a c sh (layY s r x ws) → KeptL a.own H H' → Q (.int x) H'
theorem ok_mly {f : Addr} {fd : FuncData} (G : Md K C_Memory "lay_young" "Memory.lay_young" s_Memory_lay_young ["self", "room", "words"] f fd) (X : Lw K mg C_Moving C_Memory C_Heap) : FnOk P w K mg base CX0 1 f fd ["self", "room", "words"] (spMly C_Memory) := by

  refine G.F.ok sc_Memory_lay_young (fun vs H Q E h => ?_) (fun cdv A outer s H vs Q E hr h => ?_)
  · obtain ⟨a, r, x, b, ws, c, sh, s, rfl, _⟩ := h; rfl
  · obtain ⟨a, r, x, b, ws, c, sh, s, rfl, hm, hb, nb, hx, h1, h2, h3, h4, q⟩ := h
    refine ⟨_, (pss_cons (ps_set (i := 3) sc_Memory_lay_young.nd rfl (Or.inl rfl) (pe_ix ix_list (pe_fld (pv 0) rfl) (pv 1) (fun _ _ => rfl)))
      (pss_cons (ps_asg (pv 2) (pg_slice (pe_fld (pv 0) rfl) (pv 3) (pe_op op_add (pv 3) (pe_callB call_len (by rfl) X.b_len PySem.boot_len (pa_cons (pv 2) pa_nil)))))
      (pss_cons (ps_asg (pe_op op_add (pv 3) (pe_callB call_len (by rfl) X.b_len PySem.boot_len (pa_cons (pv 2) pa_nil))) (pg_sub (pe_fld (pv 0) rfl) (pv 1) set_list))
      (pss_cons (ps_dput (hu_of hr) (pe_fld (pv 0) rfl) (pv 3) pe_bl rfl)
      (pss_one (ps_ret (pv 3))))))), ?_⟩
    have hrl := (List.getElem?_eq_some_iff.mp hx).1
    have bW : b ≠ a.aW := fun z => nb (by rw [z]; simp [Ma.own])
    have bN : b ≠ a.aN := fun z => nb (by rw [z]; simp [Ma.own])
    refine ⟨_, rfl, a.m, C_Memory, a.dx, MemF a c s, .ref a.aN, rfl, hm.at_, X.cl_Memory, X.n_Memory_nexts, rfl, _, rfl, a.aN, _, r, .int x, rfl, rfl, SqL.of hm.nexts, atI_nat (by unfold natI; rw [List.getElem?_map, hx]; rfl), ?_⟩
    refine ⟨_, rfl, _, rfl, a.m, C_Memory, a.dx, MemF a c s, .ref a.aW, rfl, hm.at_, X.cl_Memory, X.n_Memory_words, rfl, _, rfl, _, rfl, _, rfl, .ref b, ws.length, rfl, .inl ⟨_, SqL.of hb, by simp⟩, _, _, rfl, rfl, ?_⟩
    refine ⟨a.aW, b, _, _, x, ((x + ws.length : Nat) : Int), rfl, rfl, rfl, rfl, hm.words, hb, bW.symm, by omega, by omega, by rw [List.length_map]; omega, by rw [List.length_map, List.length_map]; exact Nat.le_of_lt (big (by omega)), ?_⟩
    have ew : (s.words.map V.int).take (x : Int).toNat ++ ws.map V.int ++ (s.words.map V.int).drop ((x + ws.length : Nat) : Int).toNat = (s.words.take x ++ ws ++ s.words.drop (x + ws.length)).map V.int := by
      rw [Int.toNat_natCast, Int.toNat_natCast, ← List.map_take, ← List.map_drop, List.map_append, List.map_append]
    rw [ew]
    have m1 := hm.setW (s.words.take x ++ ws ++ s.words.drop (x + ws.length))
    have hb1 : (upd H a.aW (.lst ((s.words.take x ++ ws ++ s.words.drop (x + ws.length)).map V.int))) b = some (.lst (ws.map V.int)) := by rw [upd_ne bW]; exact hb
    have k1 : KeptL a.own H (upd H a.aW (.lst ((s.words.take x ++ ws ++ s.words.drop (x + ws.length)).map V.int))) := kept_upd (by simp [Ma.own])
    refine ⟨_, rfl, _, rfl, .ref b, ws.length, rfl, .inl ⟨_, SqL.of hb1, by simp⟩, _, _, rfl, rfl, _, rfl, a.m, C_Memory, a.dx, MemF a c s, .ref a.aN, rfl, m1.at_, X.cl_Memory, X.n_Memory_nexts, rfl, _, rfl, a.aN, _, r, r, rfl, rfl, m1.nexts, ?_, ?_⟩
    · unfold ixN natI
      rw [List.length_map, if_pos (by omega), if_pos (by show (r : Int) < (s.nexts.length : Int); omega)]
      rfl
    have en : (natI s.nexts).set r (V.int ((x : Int) + (ws.length : Int))) = natI (s.nexts.set r (x + ws.length)) := by
      unfold natI
      rw [List.map_set]
      congr 1
    rw [show ({ s with words := s.words.take x ++ ws ++ s.words.drop (x + ws.length) } : Ms).nexts = s.nexts from rfl, en]
    have m2 := m1.setN (s.nexts.set r (x + ws.length))
    have k2 := k1.trans (kept_upd (l := a.own) (H := upd H a.aW (.lst ((s.words.take x ++ ws ++ s.words.drop (x + ws.length)).map V.int))) (p := a.aN) (o := .lst (natI (s.nexts.set r (x + ws.length)))) (by simp [Ma.own]))
    refine ⟨_, rfl, a.m, C_Memory, a.dx, MemF a c s, .ref a.aY, rfl, m2.at_, X.cl_Memory, X.n_Memory_young, rfl, _, rfl, a.aY, _, rfl, DPut.k (k := Sum.inl (x : Int)) m2.young (by unfold dk; rw [List.length_map]; exact big h4), ?_⟩
    rw [dk_put (show x ∉ s.young from h3)]
    have m3 := m2.setY (s.young ++ [x])
    exact ⟨_, rfl, q _ m3 (k2.trans (kept_upd (by simp [Ma.own])))⟩
def spMlo (CM : Addr) : Sp := fun vs H Q _ => ∃ (a : Ma) (b : Addr) (ws : List Int) (c : Sz) (sh : List (List Bool)) (s : Ms), vs = [.ref a.m, .ref b] ∧ MemAt CM H a c sh s ∧ H b = some (.lst (ws.map V.int)) ∧ b ∉ a.own ∧ s.words.length + ws.length ≤ 1000000 ∧
  s.words.length ∉ s.old ∧ s.old.length ≤ 1000000 ∧ ∀ H', MemAt CM H' a c sh (layO s ws) → KeptL a.own H H' → Q (.int s.words.length) H'
theorem ok_mlo {f : Addr} {fd : FuncData} (G : Md K C_Memory "lay_old" "Memory.lay_old" s_Memory_lay_old ["self", "words"] f fd) (X : Lw K mg C_Moving C_Memory C_Heap) : FnOk P w K mg base CX0 1 f fd ["self", "words"] (spMlo C_Memory) := by

  refine G.F.ok sc_Memory_lay_old (fun vs H Q E h => ?_) (fun cdv A outer s H vs Q E hr h => ?_)
  · obtain ⟨a, b, ws, c, sh, s, rfl, _⟩ := h; rfl
  · obtain ⟨a, b, ws, c, sh, s, rfl, hm, hb, nb, h2, h3, h4, q⟩ := h
    refine ⟨_, (pss_cons (ps_set (i := 2) sc_Memory_lay_old.nd rfl (Or.inl rfl) (pe_callB call_len (by rfl) X.b_len PySem.boot_len (pa_cons (pe_fld (pv 0) rfl) pa_nil)))
      (pss_cons (ps_expr (pe_bm PySem.F.plainAttrs_list PySem.F.slot_list_extend PySem.F.type_list_extend mt_extend (pe_fld (pv 0) rfl) (pa_cons (pv 1) pa_nil)))
      (pss_cons (ps_dput (hu_of hr) (pe_fld (pv 0) rfl) (pv 2) pe_bl rfl)
      (pss_one (ps_ret (pv 2)))))), ?_⟩
    refine ⟨_, rfl, a.m, C_Memory, a.dx, MemF a c s, .ref a.aW, rfl, hm.at_, X.cl_Memory, X.n_Memory_words, rfl, .ref a.aW, s.words.length, rfl, .inl ⟨_, SqL.of hm.words, by simp⟩, ?_⟩
    refine ⟨_, rfl, a.m, C_Memory, a.dx, MemF a c s, .ref a.aW, rfl, hm.at_, X.cl_Memory, X.n_Memory_words, rfl, .inl ⟨rfl, _, SqL.of hm.words⟩, _, rfl, a.aW, b, _, _, rfl, rfl, hm.words, hb, by rw [List.length_map, List.length_map]; exact Nat.le_of_lt (big h2), ?_⟩
    rw [← List.map_append]
    have m1 := hm.setW (s.words ++ ws)
    have k1 : KeptL a.own H (upd H a.aW (.lst ((s.words ++ ws).map V.int))) := kept_upd (by simp [Ma.own])
    refine ⟨_, rfl, a.m, C_Memory, a.dx, MemF a c s, .ref a.aO, rfl, m1.at_, X.cl_Memory, X.n_Memory_old, rfl, _, rfl, a.aO, _, rfl, DPut.k (k := Sum.inl (s.words.length : Int)) m1.old (by unfold dk; rw [List.length_map]; exact big h4), ?_⟩
    rw [dk_put (show s.words.length ∉ s.old from h3)]
    have m3 := m1.setO (s.old ++ [s.words.length])
    exact ⟨_, rfl, q _ m3 (k1.trans (kept_upd (by simp [Ma.own])))⟩
def spMroom (CM : Addr) : Sp := fun vs H Q _ => ∃ (a : Ma) (r f x : Nat) (c : Sz) (sh : List (List Bool)) (s : Ms), vs = [.ref a.m, .int r] ∧ MemAt CM H a c sh s ∧ c.firsts[r]? = some f ∧ s.nexts[r]? = some x ∧ f ≤ x ∧ x ≤ s.words.length ∧
  ∀ (l : Addr) (H' : Hp), Same H H' → H l = none → H' l = some (.lst ((roomW c s r).map V.int)) → Q (.ref l) H'
theorem ok_mroom {f : Addr} {fd : FuncData} (G : Md K C_Memory "room" "Memory.room" s_Memory_room ["self", "room"] f fd) (X : Lw K mg C_Moving C_Memory C_Heap) : FnOk P w K mg base CX0 1 f fd ["self", "room"] (spMroom C_Memory) := by

  refine G.F.ok sc_Memory_room (fun vs H Q E h => ?_) (fun cdv A outer s H vs Q E hr h => ?_)
  · obtain ⟨a, r, f, x, c, sh, s, rfl, _⟩ := h; rfl
  · obtain ⟨a, r, f, x, c, sh, s, rfl, hm, hf, hx, h1, h2, q⟩ := h
    refine ⟨_, (pss_one (ps_ret (pe_slice sl_list (pe_fld (pv 0) rfl) (po_some (pe_ix ix_tup (pe_fld (pv 0) rfl) (pv 1) (fun _ _ => rfl))) (po_some (pe_ix ix_list (pe_fld (pv 0) rfl) (pv 1) (fun _ _ => rfl)))))), ?_⟩
    refine ⟨_, rfl, a.m, C_Memory, a.dx, MemF a c s, .ref a.aW, rfl, hm.at_, X.cl_Memory, X.n_Memory_words, rfl, ?_⟩
    refine ⟨_, rfl, a.m, C_Memory, a.dx, MemF a c s, .ref a.aFi, rfl, hm.at_, X.cl_Memory, X.n_Memory_firsts, rfl, _, rfl, a.aFi, _, r, .int f, rfl, rfl, SqT.of hm.fi, atI_nat (by unfold natI; rw [List.getElem?_map, hf]; rfl), f, rfl, ?_⟩
    refine ⟨_, rfl, a.m, C_Memory, a.dx, MemF a c s, .ref a.aN, rfl, hm.at_, X.cl_Memory, X.n_Memory_nexts, rfl, _, rfl, a.aN, _, r, .int x, rfl, rfl, SqL.of hm.nexts, atI_nat (by unfold natI; rw [List.getElem?_map, hx]; rfl), x, rfl, ?_⟩
    refine ⟨a.aW, _, rfl, SqL.of hm.words, fun l nl => q l _ (same_new nl) nl ?_⟩
    rw [upd_same, cut_two h1 (by rw [List.length_map]; exact h2), ← List.map_drop, ← List.map_take]
    unfold roomW
    rw [List.getD_eq_getElem?_getD, List.getD_eq_getElem?_getD, hf, hx]
    rfl
def spMold (CM : Addr) : Sp := fun vs H Q _ => ∃ (a : Ma) (c : Sz) (sh : List (List Bool)) (s : Ms), vs = [.ref a.m] ∧ MemAt CM H a c sh s ∧ c.fo ≤ s.words.length ∧
  ∀ (l : Addr) (H' : Hp), Same H H' → H l = none → H' l = some (.lst ((s.words.drop c.fo).map V.int)) → Q (.ref l) H'
theorem ok_mold {f : Addr} {fd : FuncData} (G : Md K C_Memory "old_room" "Memory.old_room" s_Memory_old_room ["self"] f fd) (X : Lw K mg C_Moving C_Memory C_Heap) : FnOk P w K mg base CX0 1 f fd ["self"] (spMold C_Memory) := by

  refine G.F.ok sc_Memory_old_room (fun vs H Q E h => ?_) (fun cdv A outer s H vs Q E hr h => ?_)
  · obtain ⟨a, c, sh, s, rfl, _⟩ := h; rfl
  · obtain ⟨a, c, sh, s, rfl, hm, h1, q⟩ := h
    refine ⟨_, (pss_one (ps_ret (pe_slice sl_list (pe_fld (pv 0) rfl) (po_some (pe_fld (pv 0) rfl)) po_none))), ?_⟩
    refine ⟨_, rfl, a.m, C_Memory, a.dx, MemF a c s, .ref a.aW, rfl, hm.at_, X.cl_Memory, X.n_Memory_words, rfl, ?_⟩
    refine ⟨_, rfl, a.m, C_Memory, a.dx, MemF a c s, .int c.fo, rfl, hm.at_, X.cl_Memory, X.n_Memory_first_old, rfl, c.fo, rfl, ?_⟩
    refine ⟨a.aW, _, rfl, SqL.of hm.words, fun l nl => q l _ (same_new nl) nl ?_⟩
    rw [upd_same, cut_from (by rw [List.length_map]; exact h1), ← List.map_drop]
def spMgrey (CM : Addr) : Sp := fun vs H Q _ => ∃ (a : Ma) (c : Sz) (sh : List (List Bool)) (s : Ms), vs = [.ref a.m] ∧ MemAt CM H a c sh s ∧ s.done ≤ s.grey.length ∧
  ∀ (l : Addr) (H' : Hp), Same H H' → H l = none → H' l = some (.lst (natI (s.grey.drop s.done))) → Q (.ref l) H'
theorem ok_mgrey {f : Addr} {fd : FuncData} (G : Md K C_Memory "grey_row" "Memory.grey_row" s_Memory_grey_row ["self"] f fd) (X : Lw K mg C_Moving C_Memory C_Heap) : FnOk P w K mg base CX0 1 f fd ["self"] (spMgrey C_Memory) := by

  refine G.F.ok sc_Memory_grey_row (fun vs H Q E h => ?_) (fun cdv A outer s H vs Q E hr h => ?_)
  · obtain ⟨a, c, sh, s, rfl, _⟩ := h; rfl
  · obtain ⟨a, c, sh, s, rfl, hm, h1, q⟩ := h
    refine ⟨_, (pss_one (ps_ret (pe_slice sl_list (pe_fld (pv 0) rfl) (po_some (pe_fld (pv 0) rfl)) po_none))), ?_⟩
    refine ⟨_, rfl, a.m, C_Memory, a.dx, MemF a c s, .ref a.aG, rfl, hm.at_, X.cl_Memory, X.n_Memory_grey, rfl, ?_⟩
    refine ⟨_, rfl, a.m, C_Memory, a.dx, MemF a c s, .int s.done, rfl, hm.at_, X.cl_Memory, X.n_Memory_done, rfl, s.done, rfl, ?_⟩
    refine ⟨a.aG, _, rfl, SqL.of hm.grey, fun l nl => q l _ (same_new nl) nl ?_⟩
    rw [upd_same, cut_from (by unfold natI; rw [List.length_map]; exact h1)]
    unfold natI
    rw [← List.map_drop]
def spMmake (CM : Addr) : Sp := fun vs H Q _ => ∃ (a : Ma) (k : Int) (n x : Nat) (c : Sz) (sh : List (List Bool)) (s : Ms), vs = [.ref a.m, .int k, .int n] ∧ MemAt CM H a c sh s ∧ k.natAbs < 1000 ∧ n ≤ 1000 ∧ s.words.length ≤ 900000 ∧ s.old.length ≤ 900000 ∧ s.young.length ≤ 900000 ∧ s.words.length ∉ s.old ∧
  (c.2.2.1 < 2 + n ∨ (s.nexts[0]? = some x ∧ x + (n + 2) ≤ s.words.length ∧ x ∉ s.young)) ∧
  (c.2.2.1 < 2 + n → ∀ H', MemAt CM H' a c sh (layO s (objW k (if s.marks = true then 2 else 0) n)) → KeptL a.own H H' → Q (.int s.words.length) H') ∧
  (¬ c.2.2.1 < 2 + n → ∀ H', MemAt CM H' a c sh (layY s 0 x (objW k 0 n)) → KeptL a.own H H' → Q (.int x) H')
theorem ok_mmake {f : Addr} {fd : FuncData} (G : Md K C_Memory "make" "Memory.make" s_Memory_make ["self", "kind", "slots"] f fd) (X : Lw K mg C_Moving C_Memory C_Heap) : FnOk P w K mg base CX0 2 f fd ["self", "kind", "slots"] (spMmake C_Memory) := by
  obtain ⟨f_Memory_is_great, d_Memory_is_great, M_Memory_is_great⟩ := X.m_Memory_is_great
  have H_Memory_is_great : FnOk P w K mg base CX0 1 f_Memory_is_great d_Memory_is_great ["self", "slots"] (spMgreat C_Memory) := ok_mgreat M_Memory_is_great X
  obtain ⟨f_Memory_lay_old, d_Memory_lay_old, M_Memory_lay_old⟩ := X.m_Memory_lay_old
  have H_Memory_lay_old : FnOk P w K mg base CX0 1 f_Memory_lay_old d_Memory_lay_old ["self", "words"] (spMlo C_Memory) := ok_mlo M_Memory_lay_old X
  obtain ⟨f_Memory_lay_young, d_Memory_lay_young, M_Memory_lay_young⟩ := X.m_Memory_lay_young
  have H_Memory_lay_young : FnOk P w K mg base CX0 1 f_Memory_lay_young d_Memory_lay_young ["self", "room", "words"] (spMly C_Memory) := ok_mly M_Memory_lay_young X
  obtain ⟨f_head_word, d_head_word, G_head_word⟩ := X.f_head_word
  have H_head_word : FnOk P w K mg base CX0 1 f_head_word d_head_word ["kind", "age", "colour"] (spHw) := ok_hw G_head_word X
  obtain ⟨_, m_BLACK⟩ := X.c_BLACK
  obtain ⟨_, m_WHITE⟩ := X.c_WHITE
  refine G.F.ok sc_Memory_make (fun vs H Q E h => ?_) (fun cdv A outer s H vs Q E hr h => ?_)
  · obtain ⟨a, k, n, x, c, sh, s, rfl, _⟩ := h; rfl
  · obtain ⟨a, k, n, x, c, sh, s, rfl, hm, hk, hn, h1, h2, h3, h4, hw, q1, q2⟩ := h
    refine ⟨_, (C8.pss_cut (ps_set (i := 3) sc_Memory_make.nd rfl (Or.inl rfl) (pe_ifExp (PW.pt (pw_and (pt_val (pe_fld (pv 0) rfl)) (pw_and1 (pt_val (pe_meth (pv 0) X.cl_Memory M_Memory_is_great.m H_Memory_is_great hr M_Memory_is_great.b .nil pass0 (pa_cons (pv 2) pa_nil)))))) (pe_glob (v := .int (2)) (by rfl) m_BLACK ⟨_, rfl⟩) (pe_glob (v := .int (0)) (by rfl) m_WHITE ⟨_, rfl⟩)))
      (pss_cons (ps_set (i := 4) sc_Memory_make.nd rfl (Or.inl rfl) (pe_op op_cat (pe_lst (pa_cons (pe_call H_head_word hr (by rfl) G_head_word.g G_head_word.F.kp G_head_word.b .nil pass0 (pa_cons (pv 1) (pa_cons pe_int (pa_cons (pv 3) pa_nil)))) (pa_cons (pv 2) pa_nil))) (pe_op op_rep (pe_lst (pa_cons pe_int pa_nil)) (pv 2))))
      (pss_one (ps_ret (pe_ifExp (pt_val (pe_meth (pv 0) X.cl_Memory M_Memory_is_great.m H_Memory_is_great hr M_Memory_is_great.b .nil pass0 (pa_cons (pv 2) pa_nil))) (pe_meth (pv 0) X.cl_Memory M_Memory_lay_old.m H_Memory_lay_old hr M_Memory_lay_old.b .nil pass0 (pa_cons (pv 4) pa_nil)) (pe_meth (pv 0) X.cl_Memory M_Memory_lay_young.m H_Memory_lay_young hr M_Memory_lay_young.b .nil pass0 (pa_cons pe_int (pa_cons (pv 4) pa_nil)))))))), ?_⟩
    refine ⟨fun σ' H' => ∃ col : Nat, σ' = [some (.ref a.m), some (.int k), some (.int n), some (.int col), none] ∧ H = H' ∧ col = (if s.marks = true ∧ c.2.2.1 < 2 + n then 2 else 0), ?_, ?_⟩
    · refine ⟨_, rfl, a.m, C_Memory, a.dx, MemF a c s, .bl s.marks, rfl, hm.at_, X.cl_Memory, X.n_Memory_marks, rfl, _, rfl, ?_⟩
      cases hmk : s.marks with
      | false => exact iteF (iteF ⟨0, rfl, rfl, by simp⟩)
      | true =>
        refine iteT ⟨_, rfl, a.m, a.dx, MemF a c s, rfl, hm.at_, memF_no (by decide), _, rfl, a, n, c, sh, s, rfl, hm, _, rfl, ?_⟩
        by_cases hg : c.2.2.1 < 2 + n
        · rw [decide_eq_true hg]
          exact iteT ⟨2, rfl, rfl, by rw [if_pos ⟨rfl, hg⟩]⟩
        · rw [decide_eq_false hg]
          exact iteF ⟨0, rfl, rfl, by rw [if_neg (fun z => hg z.2)]⟩
    · rintro _ _ ⟨col, rfl, rfl, hcol⟩
      have hc3 : col < 3 := by rw [hcol]; split <;> omega
      refine ⟨_, rfl, _, rfl, k, 0, col, rfl, hk, by omega, _, rfl, by show 2 ≤ _; decide, fun p1 n1 => ?_⟩
      refine ⟨by show 1 ≤ _; decide, fun p2 n2 => ⟨_, rfl, p2, n, _, rfl, rfl, upd_same, by omega, by omega, by
        show 1 * ((n : Nat) : Int).toNat ≤ _
        rw [Int.toNat_natCast, Nat.one_mul]
        exact Nat.le_of_lt (big (by omega)), fun p3 n3 => ?_⟩⟩
      have n13 : p1 ≠ p3 := fun z => by
        rw [← z, upd_ne (ne_of_none upd_same n2), upd_same] at n3
        cases n3
      have e1 : upd (upd (upd H p1 (.lst [V.int (headW k 0 col), V.int n])) p2 (.lst [V.int 0])) p3 (.lst (List.replicate ((n : Nat) : Int).toNat [V.int 0]).flatten) p1 = some (.lst [V.int (headW k 0 col), V.int n]) := by
        rw [upd_ne n13, upd_ne (ne_of_none upd_same n2), upd_same]
      have s3 : Same H (upd (upd (upd H p1 (.lst [V.int (headW k 0 col), V.int n])) p2 (.lst [V.int 0])) p3 (.lst (List.replicate ((n : Nat) : Int).toNat [V.int 0]).flatten)) := ((same_new n1).trans (same_new n2)).trans (same_new n3)
      have ez : (List.replicate ((n : Nat) : Int).toNat [V.int 0]).flatten = (List.replicate n (0 : Int)).map V.int := by
        rw [Int.toNat_natCast, List.map_replicate, List.flatten_replicate_singleton]
      refine ⟨p1, p3, [V.int (headW k 0 col), V.int n], (List.replicate n (0 : Int)).map V.int, rfl, rfl, e1, by rw [upd_same, ez], by rw [List.length_map, List.length_replicate]; exact Nat.le_of_lt (big (by show 2 + n ≤ _; omega)), fun p n4 => ?_⟩
      rw [show ([V.int (headW k 0 col), V.int (n : Int)] ++ (List.replicate n (0 : Int)).map V.int) = (objW k col n).map V.int from rfl]
      have S := s3.trans (same_new (o := .lst ((objW k col n).map V.int)) n4)
      have nb : p ∉ a.own := fun z => by
        obtain ⟨o, ho, _⟩ := hm.ownAt p z
        rw [s3 _ _ ho] at n4
        cases n4
      revert S n4
      generalize upd (upd (upd H p1 (.lst [V.int (headW k 0 col), V.int n])) p2 (.lst [V.int 0])) p3 (.lst (List.replicate ((n : Nat) : Int).toNat [V.int 0]).flatten) = H3
      intro n4 S
      have hb : upd H3 p (.lst ((objW k col n).map V.int)) p = some (.lst ((objW k col n).map V.int)) := upd_same
      revert S hb
      generalize upd H3 p (.lst ((objW k col n).map V.int)) = H4
      intro S hb
      have m4 := hm.same S
      refine ⟨_, rfl, a.m, a.dx, MemF a c s, rfl, m4.at_, memF_no (by decide), _, rfl, a, n, c, sh, s, rfl, m4, _, rfl, ?_⟩
      by_cases hg : c.2.2.1 < 2 + n
      · rw [decide_eq_true hg]
        refine iteT ⟨_, rfl, a.m, a.dx, MemF a c s, rfl, m4.at_, memF_no (by decide), _, rfl, a, p, objW k col n, c, sh, s, rfl, m4, hb, nb, by rw [objW_len]; omega, h4, by omega, fun H' mH kH => q1 hg H' ?_ (kH' S kH)⟩
        have : col = if s.marks = true then 2 else 0 := by rw [hcol]; simp [hg]
        rw [← this]
        exact mH
      · rw [decide_eq_false hg]
        have hc0 : col = 0 := by rw [hcol, if_neg (fun z => hg z.2)]
        rcases hw with hw | ⟨w1, w2, w3⟩
        · exact absurd hw hg
        · refine iteF ⟨_, rfl, a.m, a.dx, MemF a c s, rfl, m4.at_, memF_no (by decide), _, rfl, a, 0, x, p, objW k col n, c, sh, s, rfl, m4, hb, nb, w1, by rw [objW_len]; omega, by rw [objW_len]; omega, w3, by omega, fun H' mH kH => q2 hg H' ?_ (kH' S kH)⟩
          rw [hc0] at mH
          exact mH
end
end PH

/-! What a heap is asked. -/
namespace PH
open PySem PySem.Spec PyProof.Rows L2 KA KI KK PV T ET
abbrev HpF (a : Ma) : List (Str × V) := [("memory", .ref a.m)]
structure HpAt (CH CM : Addr) (H : Hp) (h : Addr) (a : Ma) (c : Sz) (sh : List (List Bool)) (s : Ms) : Prop where
  at_ : ∃ dx, H h = some (.ins CH dx (HpF a))
  mem : MemAt CM H a c sh s
theorem HpAt.same {CH CM : Addr} {H H' : Hp} {h : Addr} {a : Ma} {c : Sz} {sh : List (List Bool)} {s : Ms} (x : HpAt CH CM H h a c sh s) (k : Same H H') : HpAt CH CM H' h a c sh s := ⟨x.at_.imp fun _ e => k _ _ e, x.mem.same k⟩
theorem HpAt.notown {CH CM : Addr} {H : Hp} {h : Addr} {a : Ma} {c : Sz} {sh : List (List Bool)} {s : Ms} (x : HpAt CH CM H h a c sh s) : h ∉ a.own := fun z => by
  obtain ⟨dx, e⟩ := x.at_
  have m := x.mem
  obtain ⟨ls, hL, _⟩ := m.links
  have hb : h ∈ [a.m, a.aL, a.aW, a.aN, a.aY, a.aO, a.aR, a.aG, a.aE] := z
  simp only [List.mem_cons, List.not_mem_nil, or_false] at hb
  have g : ∀ {o : HO}, (∀ C d f, o = .ins C d f → f.length ≠ 1) → H h = some o → False := fun p q => by
    rw [e] at q
    cases q
    exact p _ _ _ rfl rfl
  rcases hb with rfl | rfl | rfl | rfl | rfl | rfl | rfl | rfl | rfl
  · exact g (by intro C d f z; cases z; simp [MemF]) m.at_
  · exact g (by intro C d f z; cases z) hL
  · exact g (by intro C d f z; cases z) m.words
  · exact g (by intro C d f z; cases z) m.nexts
  · exact g (by intro C d f z; cases z) m.young
  · exact g (by intro C d f z; cases z) m.old
  · exact g (by intro C d f z; cases z) m.rem
  · exact g (by intro C d f z; cases z) m.grey
  · exact g (by intro C d f z; cases z) m.ended
theorem hpF_no {a : Ma} {m : Str} (h : m ≠ "memory") : (HpF a).lookup m = none := by
  have e : (m == ("memory" : Str)) = false := by simpa using h
  simp [HpF, List.lookup, e]
def isOb (s : Ms) (x : Int) : Bool := inL s.old x || inL s.young x
def rootsIn (s : Ms) (rs : List Int) : Prop := ∀ r ∈ rs, r = 0 ∨ isOb s r = true
section
variable {P : Program} {w : World} {K : PySem.W.Frag} {mg : Str → Option Value} {base : Heap} {C_Moving C_Memory C_Heap : Addr}
def spArr (CM : Addr) : Sp := fun vs H Q _ => ∃ (b : Addr) (rs : List Int) (a : Ma) (c : Sz) (sh : List (List Bool)) (s : Ms), vs = [.ref b, .ref a.m] ∧ H b = some (.tup (rs.map V.int)) ∧ rs.length ≤ 40000 ∧ rootsIn s rs ∧ MemAt CM H a c sh s ∧ Q (.bl true) H
theorem ok_arr {f : Addr} {fd : FuncData} (G : Gd K mg "are_roots" s_are_roots ["roots", "holder"] f fd) (X : Lw K mg C_Moving C_Memory C_Heap) : FnOk P w K mg base CX0 2 f fd ["roots", "holder"] (spArr C_Memory) := by
  obtain ⟨f_Memory_is_object, d_Memory_is_object, M_Memory_is_object⟩ := X.m_Memory_is_object
  have H_Memory_is_object : FnOk P w K mg base CX0 1 f_Memory_is_object d_Memory_is_object ["self", "address"] (spMiso C_Memory) := ok_miso M_Memory_is_object X
  obtain ⟨f_is_integer, d_is_integer, G_is_integer⟩ := X.f_is_integer
  have H_is_integer : FnOk P w K mg base CX0 1 f_is_integer d_is_integer ["thing"] (spInt) := ok_int G_is_integer X
  obtain ⟨f_is_tuple_to, d_is_tuple_to, G_is_tuple_to⟩ := X.f_is_tuple_to
  have H_is_tuple_to : FnOk P w K mg base CX0 1 f_is_tuple_to d_is_tuple_to ["thing", "most"] (spTto) := ok_tto G_is_tuple_to X
  obtain ⟨_, m_MOST_ROOTS⟩ := X.c_MOST_ROOTS
  refine G.F.ok sc_are_roots (fun vs H Q E h => ?_) (fun cdv A outer s H vs Q E hr h => ?_)
  · obtain ⟨b, rs, a, c, sh, s, rfl, _⟩ := h; rfl
  · obtain ⟨b, rs, a, c, sh, s, rfl, hb, hl, hr2, hm, q⟩ := h
    refine ⟨_, (pss_cons (ps_if (pt_not (pt_val (pe_call H_is_tuple_to hr (by rfl) G_is_tuple_to.g G_is_tuple_to.F.kp G_is_tuple_to.b .nil pass0 (pa_cons (pv 0) (pa_cons (pe_glob (v := .int (40000)) (by rfl) m_MOST_ROOTS ⟨_, rfl⟩) pa_nil)))))
        (pss_one (ps_ret pe_bl)) pss_nil)
      (pss_cons (ps_for PassesOwn.never rfl (pi_tup (pv 0)) (pg_name (i := 2) sc_are_roots.nd rfl (Or.inl rfl))
        (pss_one (ps_if (PW.pt (pw_or (pt_not (pt_val (pe_call H_is_integer hr (by rfl) G_is_integer.g G_is_integer.F.kp G_is_integer.b .nil pass0 (pa_cons (pv 2) pa_nil)))) (pw_or1 (PW.pt (pw_and (pt_cmpR op_ne (pv 2) pe_int (nomark _)) (pw_and1 (pt_not (pt_val (pe_meth (pv 1) X.cl_Memory M_Memory_is_object.m H_Memory_is_object hr M_Memory_is_object.b .nil pass0 (pa_cons (pv 2) pa_nil))))))))))
        (pss_one (ps_ret pe_bl)) pss_nil)))
      (pss_one (ps_ret pe_bl)))), ?_⟩
    refine ⟨_, rfl, b, _, 40000, rfl, hb, _, rfl, ?_⟩
    rw [decide_eq_true (show ((rs.map V.int).length : Int) ≤ 40000 by rw [List.length_map]; omega)]
    refine iteF ?_
    refine ⟨_, rfl, b, rfl, ⟨_, SqT.of hb⟩, for_tup (xs := rs.map V.int) (fun i σ H' => H' = H ∧ ∃ o1, σ = [some (.ref b), some (.ref a.m), o1]) ⟨rfl, _, rfl⟩ ?_ ?_ ?_⟩
    · rintro i σ H' _ ⟨rfl, _⟩
      exact SqT.of hb
    · rintro i x σ H' hx ⟨rfl, o1, rfl⟩
      rw [List.getElem?_map] at hx
      obtain ⟨r, er, rfl⟩ := Option.map_eq_some_iff.mp hx
      have hr := hr2 r (List.mem_of_getElem? er)
      refine ⟨_, rfl, r, rfl, true, rfl, iteF ?_⟩
      refine ⟨_, rfl, rfl, _, rfl, ?_⟩
      by_cases e : r = 0
      · subst e
        exact iteF (iteF ⟨rfl, _, rfl⟩)
      · have : (!decide (V.int r = V.int 0)) = true := by simp [e]
        rw [this]
        refine iteT ⟨_, rfl, a.m, a.dx, MemF a c s, rfl, hm.at_, memF_no (by decide), _, rfl, a, r, c, sh, s, rfl, hm, _, rfl, ?_⟩
        rw [show (inL s.old r || inL s.young r) = true from hr.resolve_left e]
        exact iteF ⟨rfl, _, rfl⟩
    · rintro σ H' ⟨rfl, o1, rfl⟩
      exact q
def spLar (CM : Addr) : Sp := fun vs H Q _ => ∃ (b : Addr) (rs : List Int) (a : Ma) (c : Sz) (sh : List (List Bool)) (s : Ms), vs = [.ref b, .ref a.m] ∧ H b = some (.tup (rs.map V.int)) ∧ rs.length ≤ 40000 ∧ rootsIn s rs ∧ MemAt CM H a c sh s ∧ Q .non H
theorem ok_lar {f : Addr} {fd : FuncData} (G : Gd K mg "look_at_roots" s_look_at_roots ["roots", "holder"] f fd) (X : Lw K mg C_Moving C_Memory C_Heap) : FnOk P w K mg base CX0 3 f fd ["roots", "holder"] (spLar C_Memory) := by
  obtain ⟨f_are_roots, d_are_roots, G_are_roots⟩ := X.f_are_roots
  have H_are_roots : FnOk P w K mg base CX0 2 f_are_roots d_are_roots ["roots", "holder"] (spArr C_Memory) := ok_arr G_are_roots X
  refine G.F.ok sc_look_at_roots (fun vs H Q E h => ?_) (fun cdv A outer s H vs Q E hr h => ?_)
  · obtain ⟨b, rs, a, c, sh, s, rfl, _⟩ := h; rfl
  · obtain ⟨b, rs, a, c, sh, s, rfl, hb, hl, hr2, hm, q⟩ := h
    refine ⟨_, (pss_one (ps_if (pt_not (pt_val (pe_call H_are_roots hr (by rfl) G_are_roots.g G_are_roots.F.kp G_are_roots.b .nil pass0 (pa_cons (pv 0) (pa_cons (pv 1) pa_nil)))))
        pss_never pss_nil)), ?_⟩
    exact ⟨_, rfl, _, rfl, b, rs, a, c, sh, s, rfl, hb, hl, hr2, hm, _, rfl, iteF q⟩
def spHla (CH CM : Addr) : Sp := fun vs H Q _ => ∃ (h b : Addr) (rs : List Int) (a : Ma) (c : Sz) (sh : List (List Bool)) (s : Ms), vs = [.ref h, .ref b] ∧ HpAt CH CM H h a c sh s ∧ H b = some (.tup (rs.map V.int)) ∧ rs.length ≤ 40000 ∧ rootsIn s rs ∧ Q .non H
theorem ok_hla {f : Addr} {fd : FuncData} (G : Md K C_Heap "look_at" "Heap.look_at" s_Heap_look_at ["self", "roots"] f fd) (X : Lw K mg C_Moving C_Memory C_Heap) : FnOk P w K mg base CX0 4 f fd ["self", "roots"] (spHla C_Heap C_Memory) := by
  obtain ⟨f_look_at_roots, d_look_at_roots, G_look_at_roots⟩ := X.f_look_at_roots
  have H_look_at_roots : FnOk P w K mg base CX0 3 f_look_at_roots d_look_at_roots ["roots", "holder"] (spLar C_Memory) := ok_lar G_look_at_roots X
  refine G.F.ok sc_Heap_look_at (fun vs H Q E h => ?_) (fun cdv A outer s H vs Q E hr h => ?_)
  · obtain ⟨hp, b, rs, a, c, sh, s, rfl, _⟩ := h; rfl
  · obtain ⟨hp, b, rs, a, c, sh, s, rfl, hh, hb, hl, hr2, q⟩ := h
    obtain ⟨dx, hd⟩ := hh.at_
    refine ⟨_, (pss_one (ps_expr (pe_call H_look_at_roots hr (by rfl) G_look_at_roots.g G_look_at_roots.F.kp G_look_at_roots.b .nil pass0 (pa_cons (pv 1) (pa_cons (pe_fld (pv 0) rfl) pa_nil))))), ?_⟩
    exact ⟨_, rfl, _, rfl, hp, C_Heap, dx, HpF a, .ref a.m, rfl, hd, X.cl_Heap, X.n_Heap_memory, rfl, b, rs, a, c, sh, s, rfl, hb, hl, hr2, hh.mem, q⟩
def spHlaa (CH CM : Addr) : Sp := fun vs H Q _ => ∃ (h : Addr) (x : Int) (a : Ma) (c : Sz) (sh : List (List Bool)) (s : Ms), vs = [.ref h, .int x] ∧ HpAt CH CM H h a c sh s ∧ isOb s x = true ∧ Q .non H
theorem ok_hlaa {f : Addr} {fd : FuncData} (G : Md K C_Heap "look_at_address" "Heap.look_at_address" s_Heap_look_at_address ["self", "address"] f fd) (X : Lw K mg C_Moving C_Memory C_Heap) : FnOk P w K mg base CX0 2 f fd ["self", "address"] (spHlaa C_Heap C_Memory) := by
  obtain ⟨f_Memory_is_object, d_Memory_is_object, M_Memory_is_object⟩ := X.m_Memory_is_object
  have H_Memory_is_object : FnOk P w K mg base CX0 1 f_Memory_is_object d_Memory_is_object ["self", "address"] (spMiso C_Memory) := ok_miso M_Memory_is_object X
  obtain ⟨f_is_integer, d_is_integer, G_is_integer⟩ := X.f_is_integer
  have H_is_integer : FnOk P w K mg base CX0 1 f_is_integer d_is_integer ["thing"] (spInt) := ok_int G_is_integer X
  refine G.F.ok sc_Heap_look_at_address (fun vs H Q E h => ?_) (fun cdv A outer s H vs Q E hr h => ?_)
  · obtain ⟨hp, x, a, c, sh, s, rfl, _⟩ := h; rfl
  · obtain ⟨hp, x, a, c, sh, s, rfl, hh, hx, q⟩ := h
    obtain ⟨dx, hd⟩ := hh.at_
    refine ⟨_, (pss_one (ps_if (PW.pt (pw_or (pt_not (pt_val (pe_call H_is_integer hr (by rfl) G_is_integer.g G_is_integer.F.kp G_is_integer.b .nil pass0 (pa_cons (pv 1) pa_nil)))) (pw_or1 (pt_not (pt_val (pe_meth (pe_fld (pv 0) rfl) X.cl_Memory M_Memory_is_object.m H_Memory_is_object hr M_Memory_is_object.b .nil pass0 (pa_cons (pv 1) pa_nil)))))))
        pss_never pss_nil)), ?_⟩
    refine ⟨_, rfl, x, rfl, true, rfl, iteF ?_⟩
    refine ⟨_, rfl, hp, C_Heap, dx, HpF a, .ref a.m, rfl, hd, X.cl_Heap, X.n_Heap_memory, rfl, a.m, a.dx, MemF a c s, rfl, hh.mem.at_, memF_no (by decide), _, rfl, a, x, c, sh, s, rfl, hh.mem, _, rfl, ?_⟩
    rw [show (inL s.old x || inL s.young x) = true from hx]
    exact iteF q
def spHkind (CH CM : Addr) : Sp := fun vs H Q _ => ∃ (h : Addr) (x : Nat) (w : Int) (a : Ma) (c : Sz) (sh : List (List Bool)) (s : Ms), vs = [.ref h, .int x] ∧ HpAt CH CM H h a c sh s ∧ isOb s x = true ∧ s.words[x]? = some w ∧ Q (.int (w / 64 - 3)) H
theorem ok_hkind {f : Addr} {fd : FuncData} (G : Md K C_Heap "kind" "Heap.kind" s_Heap_kind ["self", "address"] f fd) (X : Lw K mg C_Moving C_Memory C_Heap) : FnOk P w K mg base CX0 3 f fd ["self", "address"] (spHkind C_Heap C_Memory) := by
  obtain ⟨f_Memory_kind, d_Memory_kind, M_Memory_kind⟩ := X.m_Memory_kind
  have H_Memory_kind : FnOk P w K mg base CX0 2 f_Memory_kind d_Memory_kind ["self", "address"] (spMkind C_Memory) := ok_mkind M_Memory_kind X
  obtain ⟨f_Heap_look_at_address, d_Heap_look_at_address, M_Heap_look_at_address⟩ := X.m_Heap_look_at_address
  have H_Heap_look_at_address : FnOk P w K mg base CX0 2 f_Heap_look_at_address d_Heap_look_at_address ["self", "address"] (spHlaa C_Heap C_Memory) := ok_hlaa M_Heap_look_at_address X
  refine G.F.ok sc_Heap_kind (fun vs H Q E h => ?_) (fun cdv A outer s H vs Q E hr h => ?_)
  · obtain ⟨hp, x, u, a, c, sh, s, rfl, _⟩ := h; rfl
  · obtain ⟨hp, x, u, a, c, sh, s, rfl, hh, hx, hw, q⟩ := h
    obtain ⟨dx, hd⟩ := hh.at_
    refine ⟨_, (pss_cons (ps_expr (pe_meth (pv 0) X.cl_Heap M_Heap_look_at_address.m H_Heap_look_at_address hr M_Heap_look_at_address.b .nil pass0 (pa_cons (pv 1) pa_nil)))
      (pss_one (ps_ret (pe_meth (pe_fld (pv 0) rfl) X.cl_Memory M_Memory_kind.m H_Memory_kind hr M_Memory_kind.b .nil pass0 (pa_cons (pv 1) pa_nil))))), ?_⟩
    refine ⟨_, rfl, hp, dx, HpF a, rfl, hd, hpF_no (by decide), _, rfl, hp, x, a, c, sh, s, rfl, hh, hx, ?_⟩
    exact ⟨_, rfl, hp, C_Heap, dx, HpF a, .ref a.m, rfl, hd, X.cl_Heap, X.n_Heap_memory, rfl, a.m, a.dx, MemF a c s, rfl, hh.mem.at_, memF_no (by decide), _, rfl, a, x, u, c, sh, s, rfl, hh.mem, hw, q⟩
def spHslots (CH CM : Addr) : Sp := fun vs H Q _ => ∃ (h : Addr) (x : Nat) (w : Int) (a : Ma) (c : Sz) (sh : List (List Bool)) (s : Ms), vs = [.ref h, .int x] ∧ HpAt CH CM H h a c sh s ∧ isOb s x = true ∧ s.words[x + 1]? = some w ∧ Q (.int w) H
theorem ok_hslots {f : Addr} {fd : FuncData} (G : Md K C_Heap "slots" "Heap.slots" s_Heap_slots ["self", "address"] f fd) (X : Lw K mg C_Moving C_Memory C_Heap) : FnOk P w K mg base CX0 3 f fd ["self", "address"] (spHslots C_Heap C_Memory) := by
  obtain ⟨f_Memory_slots, d_Memory_slots, M_Memory_slots⟩ := X.m_Memory_slots
  have H_Memory_slots : FnOk P w K mg base CX0 1 f_Memory_slots d_Memory_slots ["self", "address"] (spMslots C_Memory) := ok_mslots M_Memory_slots X
  obtain ⟨f_Heap_look_at_address, d_Heap_look_at_address, M_Heap_look_at_address⟩ := X.m_Heap_look_at_address
  have H_Heap_look_at_address : FnOk P w K mg base CX0 2 f_Heap_look_at_address d_Heap_look_at_address ["self", "address"] (spHlaa C_Heap C_Memory) := ok_hlaa M_Heap_look_at_address X
  refine G.F.ok sc_Heap_slots (fun vs H Q E h => ?_) (fun cdv A outer s H vs Q E hr h => ?_)
  · obtain ⟨hp, x, u, a, c, sh, s, rfl, _⟩ := h; rfl
  · obtain ⟨hp, x, u, a, c, sh, s, rfl, hh, hx, hw, q⟩ := h
    obtain ⟨dx, hd⟩ := hh.at_
    refine ⟨_, (pss_cons (ps_expr (pe_meth (pv 0) X.cl_Heap M_Heap_look_at_address.m H_Heap_look_at_address hr M_Heap_look_at_address.b .nil pass0 (pa_cons (pv 1) pa_nil)))
      (pss_one (ps_ret (pe_meth (pe_fld (pv 0) rfl) X.cl_Memory M_Memory_slots.m H_Memory_slots (hr.mono (by decide)) M_Memory_slots.b .nil pass0 (pa_cons (pv 1) pa_nil))))), ?_⟩
    refine ⟨_, rfl, hp, dx, HpF a, rfl, hd, hpF_no (by decide), _, rfl, hp, x, a, c, sh, s, rfl, hh, hx, ?_⟩
    exact ⟨_, rfl, hp, C_Heap, dx, HpF a, .ref a.m, rfl, hd, X.cl_Heap, X.n_Heap_memory, rfl, a.m, a.dx, MemF a c s, rfl, hh.mem.at_, memF_no (by decide), _, rfl, a, x, u, c, sh, s, rfl, hh.mem, hw, q⟩
def whereOf (c : Sz) (x : Nat) : Str := if x < c.fo then (if x < c.1 + 1 then "nursery" else "half") else "old"
def spHwhere (CH CM : Addr) : Sp := fun vs H Q _ => ∃ (h : Addr) (x : Nat) (a : Ma) (c : Sz) (sh : List (List Bool)) (s : Ms), vs = [.ref h, .int x] ∧ HpAt CH CM H h a c sh s ∧ isOb s x = true ∧ 0 < x ∧ Q (.str (whereOf c x)) H
theorem ok_hwhere {f : Addr} {fd : FuncData} (G : Md K C_Heap "where" "Heap.where" s_Heap_where ["self", "address"] f fd) (X : Lw K mg C_Moving C_Memory C_Heap) : FnOk P w K mg base CX0 3 f fd ["self", "address"] (spHwhere C_Heap C_Memory) := by
  obtain ⟨f_Memory_is_young, d_Memory_is_young, M_Memory_is_young⟩ := X.m_Memory_is_young
  have H_Memory_is_young : FnOk P w K mg base CX0 1 f_Memory_is_young d_Memory_is_young ["self", "reference"] (spMisy C_Memory) := ok_misy M_Memory_is_young X
  obtain ⟨f_Heap_look_at_address, d_Heap_look_at_address, M_Heap_look_at_address⟩ := X.m_Heap_look_at_address
  have H_Heap_look_at_address : FnOk P w K mg base CX0 2 f_Heap_look_at_address d_Heap_look_at_address ["self", "address"] (spHlaa C_Heap C_Memory) := ok_hlaa M_Heap_look_at_address X
  refine G.F.ok sc_Heap_where (fun vs H Q E h => ?_) (fun cdv A outer s H vs Q E hr h => ?_)
  · obtain ⟨hp, x, a, c, sh, s, rfl, _⟩ := h; rfl
  · obtain ⟨hp, x, a, c, sh, s, rfl, hh, hx, hx0, q⟩ := h
    obtain ⟨dx, hd⟩ := hh.at_
    refine ⟨_, (pss_cons (ps_expr (pe_meth (pv 0) X.cl_Heap M_Heap_look_at_address.m H_Heap_look_at_address hr M_Heap_look_at_address.b .nil pass0 (pa_cons (pv 1) pa_nil)))
      (pss_cons (ps_if (pt_not (pt_val (pe_meth (pe_fld (pv 0) rfl) X.cl_Memory M_Memory_is_young.m H_Memory_is_young (hr.mono (by decide)) M_Memory_is_young.b .nil pass0 (pa_cons (pv 1) pa_nil))))
        (pss_one (ps_ret pe_str)) pss_nil)
      (pss_one (ps_ret (pe_ifExp (pt_cmpR op_lt (pv 1) (pe_ix ix_tup (pe_fld (pe_fld (pv 0) rfl) rfl) pe_int (fun _ _ => rfl)) (nomark _)) pe_str pe_str))))), ?_⟩
    refine ⟨_, rfl, hp, dx, HpF a, rfl, hd, hpF_no (by decide), _, rfl, hp, x, a, c, sh, s, rfl, hh, hx, ?_⟩
    refine ⟨_, rfl, hp, C_Heap, dx, HpF a, .ref a.m, rfl, hd, X.cl_Heap, X.n_Heap_memory, rfl, a.m, a.dx, MemF a c s, rfl, hh.mem.at_, memF_no (by decide), _, rfl, a, x, c, sh, s, rfl, hh.mem, _, rfl, ?_⟩
    unfold whereOf at q
    by_cases e : x < c.fo
    · rw [if_pos e] at q
      rw [decide_eq_true (show (0 : Int) < (x : Int) ∧ (x : Int) < (c.fo : Int) by omega)]
      refine iteF ?_
      refine ⟨_, rfl, _, rfl, hp, C_Heap, dx, HpF a, .ref a.m, rfl, hd, X.cl_Heap, X.n_Heap_memory, rfl, a.m, C_Memory, a.dx, MemF a c s, .ref a.aFi, rfl, hh.mem.at_, X.cl_Memory, X.n_Memory_firsts, rfl, a.aFi, _, 1, .int ((c.1 + 1 : Nat) : Int), rfl, rfl, SqT.of hh.mem.fi, rfl, _, _, rfl, rfl, ?_⟩
      by_cases e2 : x < c.1 + 1
      · rw [if_pos e2] at q
        exact ⟨true, congrArg V.bl (decide_eq_true (show (x : Int) < ((c.1 + 1 : Nat) : Int) by omega)), iteT q⟩
      · rw [if_neg e2] at q
        exact ⟨false, congrArg V.bl (decide_eq_false (show ¬ (x : Int) < ((c.1 + 1 : Nat) : Int) by omega)), iteF q⟩
    · rw [if_neg e] at q
      rw [decide_eq_false (show ¬ ((0 : Int) < (x : Int) ∧ (x : Int) < (c.fo : Int)) by omega)]
      exact iteT q
def spHroom (CH CM : Addr) : Sp := fun vs H Q _ => ∃ (h : Addr) (n x : Nat) (a : Ma) (c : Sz) (sh : List (List Bool)) (s : Ms), vs = [.ref h, .int n] ∧ HpAt CH CM H h a c sh s ∧ s.nexts[0]? = some x ∧ Q (.bl (decide (c.2.2.1 < 2 + n) || decide (x + (2 + n) ≤ c.1 + 1))) H
theorem ok_hroom {f : Addr} {fd : FuncData} (G : Md K C_Heap "has_room" "Heap.has_room" s_Heap_has_room ["self", "slots"] f fd) (X : Lw K mg C_Moving C_Memory C_Heap) : FnOk P w K mg base CX0 2 f fd ["self", "slots"] (spHroom C_Heap C_Memory) := by
  obtain ⟨f_Memory_fits, d_Memory_fits, M_Memory_fits⟩ := X.m_Memory_fits
  have H_Memory_fits : FnOk P w K mg base CX0 1 f_Memory_fits d_Memory_fits ["self", "room", "many"] (spMfits C_Memory) := ok_mfits M_Memory_fits X
  obtain ⟨_, m_HEAD_WORDS⟩ := X.c_HEAD_WORDS
  obtain ⟨f_Memory_is_great, d_Memory_is_great, M_Memory_is_great⟩ := X.m_Memory_is_great
  have H_Memory_is_great : FnOk P w K mg base CX0 1 f_Memory_is_great d_Memory_is_great ["self", "slots"] (spMgreat C_Memory) := ok_mgreat M_Memory_is_great X
  refine G.F.ok sc_Heap_has_room (fun vs H Q E h => ?_) (fun cdv A outer s H vs Q E hr h => ?_)
  · obtain ⟨hp, n, x, a, c, sh, s, rfl, _⟩ := h; rfl
  · obtain ⟨hp, n, x, a, c, sh, s, rfl, hh, hx, q⟩ := h
    obtain ⟨dx, hd⟩ := hh.at_
    refine ⟨_, (pss_one (ps_ret (pe_or (pe_meth (pe_fld (pv 0) rfl) X.cl_Memory M_Memory_is_great.m H_Memory_is_great hr M_Memory_is_great.b .nil pass0 (pa_cons (pv 1) pa_nil)) (pe_one (pe_meth (pe_fld (pv 0) rfl) X.cl_Memory M_Memory_fits.m H_Memory_fits hr M_Memory_fits.b .nil pass0 (pa_cons pe_int (pa_cons (pe_op op_add (pe_glob (v := .int (2)) (by rfl) m_HEAD_WORDS ⟨_, rfl⟩) (pv 1)) pa_nil))))))), ?_⟩
    refine ⟨_, rfl, hp, C_Heap, dx, HpF a, .ref a.m, rfl, hd, X.cl_Heap, X.n_Heap_memory, rfl, a.m, a.dx, MemF a c s, rfl, hh.mem.at_, memF_no (by decide), _, rfl, a, n, c, sh, s, rfl, hh.mem, _, rfl, ?_⟩
    by_cases e : c.2.2.1 < 2 + n
    · rw [decide_eq_true e] at q ⊢
      exact iteT q
    · rw [decide_eq_false e] at q ⊢
      refine iteF ⟨_, rfl, hp, C_Heap, dx, HpF a, .ref a.m, rfl, hd, X.cl_Heap, X.n_Heap_memory, rfl, a.m, a.dx, MemF a c s, rfl, hh.mem.at_, memF_no (by decide), _, rfl, _, _, rfl, rfl, a, 0, 2 + n, x, c, sh, s, rfl, hh.mem, by omega, hx, ?_⟩
      exact q
def spHmark (CH CM : Addr) : Sp := fun vs H Q _ => ∃ (h : Addr) (a : Ma) (c : Sz) (sh : List (List Bool)) (s : Ms), vs = [.ref h] ∧ HpAt CH CM H h a c sh s ∧ Q (.bl s.marks) H
theorem ok_hmark {f : Addr} {fd : FuncData} (G : Md K C_Heap "is_marking" "Heap.is_marking" s_Heap_is_marking ["self"] f fd) (X : Lw K mg C_Moving C_Memory C_Heap) : FnOk P w K mg base CX0 1 f fd ["self"] (spHmark C_Heap C_Memory) := by

  refine G.F.ok sc_Heap_is_marking (fun vs H Q E h => ?_) (fun cdv A outer s H vs Q E hr h => ?_)
  · obtain ⟨hp, a, c, sh, s, rfl, _⟩ := h; rfl
  · obtain ⟨hp, a, c, sh, s, rfl, hh, q⟩ := h
    obtain ⟨dx, hd⟩ := hh.at_
    refine ⟨_, (pss_one (ps_ret (pe_fld (pe_fld (pv 0) rfl) rfl))), ?_⟩
    exact ⟨_, rfl, hp, C_Heap, dx, HpF a, .ref a.m, rfl, hd, X.cl_Heap, X.n_Heap_memory, rfl, a.m, C_Memory, a.dx, MemF a c s, .bl s.marks, rfl, hh.mem.at_, X.cl_Memory, X.n_Memory_marks, rfl, q⟩
def spHrem (CH CM : Addr) : Sp := fun vs H Q _ => ∃ (h : Addr) (a : Ma) (c : Sz) (sh : List (List Bool)) (s : Ms), vs = [.ref h] ∧ HpAt CH CM H h a c sh s ∧ s.rem.length ≤ 1000000 ∧
  ∀ (b : Addr) (ns : List Int) (H' : Hp), ns.Perm (s.rem.map fun (n : Nat) => (n : Int)) → ns.Pairwise (· ≤ ·) → H b = none → Same H H' → H' b = some (.tup (ns.map V.int)) → Q (.ref b) H'
theorem ok_hrem {f : Addr} {fd : FuncData} (G : Md K C_Heap "remembered" "Heap.remembered" s_Heap_remembered ["self"] f fd) (X : Lw K mg C_Moving C_Memory C_Heap) : FnOk P w K mg base CX0 1 f fd ["self"] (spHrem C_Heap C_Memory) := by

  refine G.F.ok sc_Heap_remembered (fun vs H Q E h => ?_) (fun cdv A outer s H vs Q E hr h => ?_)
  · obtain ⟨hp, a, c, sh, s, rfl, _⟩ := h; rfl
  · obtain ⟨hp, a, c, sh, s, rfl, hh, hl, q⟩ := h
    obtain ⟨dx, hd⟩ := hh.at_
    refine ⟨_, (pss_one (ps_ret (pe_callTy call_tuple_of (by rfl) X.b_tuple (by decide +kernel) (pa_cons (pe_callB cr_sortedI (by rfl) X.b_sorted (by decide +kernel) (pa_cons (pe_callTy (call_list_dK rfl) (by rfl) X.b_list (by decide +kernel) (pa_cons (pe_fld (pe_fld (pv 0) rfl) rfl) pa_nil)) pa_nil)) pa_nil)))), ?_⟩
    refine ⟨_, rfl, hp, C_Heap, dx, HpF a, .ref a.m, rfl, hd, X.cl_Heap, X.n_Heap_memory, rfl, a.m, C_Memory, a.dx, MemF a c s, .ref a.aR, rfl, hh.mem.at_, X.cl_Memory, X.n_Memory_remembered, rfl, ?_⟩
    refine ⟨a.aR, _, rfl, hh.mem.rem, fun q1 n1 => ?_⟩
    have ek : ((dk s.rem).map fun kv => kV kv.1) = (s.rem.map fun (n : Nat) => (n : Int)).map V.int := by
      unfold dk
      rw [List.map_map, List.map_map]
      rfl
    rw [ek]
    refine ⟨q1, _, rfl, SqL.of upd_same, fun ns q2 pm pw n2 => ⟨q2, _, rfl, .inl ⟨SqL.of upd_same, fun l nl => ?_⟩⟩⟩
    have S := ((same_new (o := .lst ((s.rem.map fun (n : Nat) => (n : Int)).map V.int)) n1).trans (same_new (o := .lst (ns.map V.int)) n2)).trans (same_new (o := .tup (ns.map V.int)) nl)
    have n0 : H l = none := by
      cases e : H l with
      | none => rfl
      | some o => rw [((same_new (o := .lst ((s.rem.map fun (n : Nat) => (n : Int)).map V.int)) n1).trans (same_new (o := .lst (ns.map V.int)) n2)) _ _ e] at nl; cases nl
    exact q l ns _ pm pw n0 S upd_same
def spHcnt (CH CM : Addr) : Sp := fun vs H Q _ => ∃ (h : Addr) (x y : Nat) (a : Ma) (c : Sz) (sh : List (List Bool)) (s : Ms), vs = [.ref h] ∧ HpAt CH CM H h a c sh s ∧ s.half < 2 ∧ s.nexts[0]? = some x ∧ 1 ≤ x ∧ x ≤ s.words.length ∧ s.nexts[1 + s.half]? = some y ∧ c.firsts.getD (1 + s.half) 0 ≤ y ∧ y ≤ s.words.length ∧ c.fo ≤ s.words.length ∧ s.young.length ≤ 1000000 ∧
  ∀ (b : Addr) (H' : Hp), H b = none → Same H H' → H' b = some (.tup [.int ((roomW c s 0).length : Nat), .int ((roomW c s (1 + s.half)).length : Nat), .int ((s.words.drop c.fo).length : Nat), .int ((s.young.filter (· < c.1 + 1)).length : Nat), .int ((s.young.length - (s.young.filter (· < c.1 + 1)).length : Nat)), .int (s.old.length : Nat)]) → Q (.ref b) H'
theorem ok_hcnt {f : Addr} {fd : FuncData} (G : Md K C_Heap "counts" "Heap.counts" s_Heap_counts ["self"] f fd) (X : Lw K mg C_Moving C_Memory C_Heap) : FnOk P w K mg base CX0 2 f fd ["self"] (spHcnt C_Heap C_Memory) := by
  obtain ⟨f_Memory_old_room, d_Memory_old_room, M_Memory_old_room⟩ := X.m_Memory_old_room
  have H_Memory_old_room : FnOk P w K mg base CX0 1 f_Memory_old_room d_Memory_old_room ["self"] (spMold C_Memory) := ok_mold M_Memory_old_room X
  obtain ⟨f_Memory_room, d_Memory_room, M_Memory_room⟩ := X.m_Memory_room
  have H_Memory_room : FnOk P w K mg base CX0 1 f_Memory_room d_Memory_room ["self", "room"] (spMroom C_Memory) := ok_mroom M_Memory_room X
  refine G.F.ok sc_Heap_counts (fun vs H Q E h => ?_) (fun cdv A outer s H vs Q E hr h => ?_)
  · obtain ⟨hp, x, y, a, c, sh, s, rfl, _⟩ := h; rfl
  · obtain ⟨hp, x, y, a, c, sh, s, rfl, hh, h1, h2, h3, h4, h5, h6, h7, h8, h9, q⟩ := h
    obtain ⟨dx, hd⟩ := hh.at_
    refine ⟨_, (pss_cons (ps_set (i := 1) sc_Heap_counts.nd rfl (Or.inr rfl) (pe_fld (pv 0) rfl))
      (pss_cons (ps_set (i := 2) sc_Heap_counts.nd rfl (Or.inl rfl) (pe_callB call_len (by rfl) X.b_len PySem.boot_len (pa_cons (pe_lock (pe_lc (own := [("address", 3)]) (g := (gName 3)) (tt := tTest (tOp _ (tVar 3) (tOp (rIxT K) (tFld K (tVar 1) "firsts") (tC (.int 1))))) rfl sc_Heap_counts.nd (pi_keys (pe_fld (pv 1) rfl)) (blkOk_by (own := [("address", 3)]) (N := ["self", "memory", "in_nursery", "address"]) (sc := defScope s_Heap_counts) (by decide +kernel)) (fun _ _ _ _ _ => (pg_name (i := 3) sc_Heap_counts.nd rfl (Or.inl rfl))) (fun _ _ _ _ _ => (pts_one (pt_cmpR op_lt (pv 3) (pe_ix ix_tup (pe_fld (pv 1) rfl) pe_int (fun _ _ => rfl)) (nomark _)))) (fun _ _ _ _ _ => (pv 3)))) pa_nil)))
      (pss_one (ps_ret (pe_tup (pa_cons (pe_callB call_len (by rfl) X.b_len PySem.boot_len (pa_cons (pe_meth (pv 1) X.cl_Memory M_Memory_room.m H_Memory_room hr M_Memory_room.b .nil pass0 (pa_cons pe_int pa_nil)) pa_nil)) (pa_cons (pe_callB call_len (by rfl) X.b_len PySem.boot_len (pa_cons (pe_meth (pv 1) X.cl_Memory M_Memory_room.m H_Memory_room hr M_Memory_room.b .nil pass0 (pa_cons (pe_op op_add pe_int (pe_fld (pv 1) rfl)) pa_nil)) pa_nil)) (pa_cons (pe_callB call_len (by rfl) X.b_len PySem.boot_len (pa_cons (pe_meth0 (pv 1) X.cl_Memory M_Memory_old_room.m H_Memory_old_room hr M_Memory_old_room.b .nil pass0) pa_nil)) (pa_cons (pv 2) (pa_cons (pe_op op_sub (pe_callB call_lenD (by rfl) X.b_len PySem.boot_len (pa_cons (pe_fld (pv 1) rfl) pa_nil)) (pv 2)) (pa_cons (pe_callB call_lenD (by rfl) X.b_len PySem.boot_len (pa_cons (pe_fld (pv 1) rfl) pa_nil)) pa_nil))))))))))), ?_⟩
    refine ⟨_, rfl, hp, C_Heap, dx, HpF a, .ref a.m, rfl, hd, X.cl_Heap, X.n_Heap_memory, rfl, ?_⟩
    have hm := hh.mem
    refine ⟨a.aY, _, hm.young, trivial, fun od => ?_⟩
    generalize eF : upd H a.aY (.frz od (.dK (dk s.young))) = HF
    have fY : HF a.aY = some (.frz od (.dK (dk s.young))) := by rw [← eF]; exact upd_same
    have fN : ∀ {b : Addr} {o : HO}, H b = some o → o ≠ .dK (dk s.young) → HF b = some o := fun e ne => by
      rw [← eF, upd_ne (fun z => ne (by rw [z, hm.young] at e; cases e; rfl))]
      exact e
    refine ⟨_, rfl, a.m, C_Memory, a.dx, MemF a c s, .ref a.aY, rfl, fN hm.at_ (by intro z; cases z), X.cl_Memory, X.n_Memory_young, rfl, a.aY, od, rfl, .inl ⟨_, fY, fun D nD => ?_⟩⟩
    refine lc_it walk_keys (fun i H2 => H2 D = some (.lst (natI ((s.young.take i).filter (· < c.1 + 1)))) ∧ Same HF H2) ⟨upd_same, same_new nD⟩ (fun i H2 _ h => h.2 _ _ fY) ?_ ?_
    · rintro i v H2 _ hi ⟨w1, w2⟩ ⟨rfl, k, v', e, rfl⟩
      unfold dk at e hi
      rw [List.length_map] at hi
      rw [List.getElem?_map, List.getElem?_eq_getElem hi] at e
      cases e
      refine ⟨rfl, _, rfl, _, rfl, a.m, C_Memory, a.dx, MemF a c s, .ref a.aFi, rfl, w2 _ _ (fN hm.at_ (by intro z; cases z)), X.cl_Memory, X.n_Memory_firsts, rfl, a.aFi, _, 1, .int ((c.1 + 1 : Nat) : Int), rfl, rfl, SqT.of (w2 _ _ (fN hm.fi (by intro z; cases z))), rfl, _, _, rfl, rfl, ?_⟩
      have et : s.young.take (i + 1) = s.young.take i ++ [s.young[i]] := by rw [List.take_succ_eq_append_getElem hi]
      by_cases hx : s.young[i] < c.1 + 1
      · refine ⟨true, congrArg V.bl (decide_eq_true (show ((s.young[i] : Nat) : Int) < ((c.1 + 1 : Nat) : Int) by omega)), ?_⟩
        refine iteT ⟨_, rfl, _, w1, ?_, ?_, same_at nD w2⟩
        · refine Nat.lt_of_le_of_lt ?_ (big h9)
          unfold natI
          rw [List.length_map]
          exact Nat.le_trans (List.length_filter_le _ _) (by rw [List.length_take]; omega)
        · rw [upd_same, et, List.filter_append]
          simp [natI, kV, hx]
      · refine ⟨false, congrArg V.bl (decide_eq_false (show ¬ ((s.young[i] : Nat) : Int) < ((c.1 + 1 : Nat) : Int) by omega)), ?_⟩
        refine iteF ⟨?_, w2⟩
        rw [w1, et, List.filter_append]
        simp [hx]
    · rintro H2 ⟨w1, w2⟩
      refine ⟨w2 _ _ fY, ?_⟩
      have DY : D ≠ a.aY := fun z => by rw [z, fY] at nD; cases nD
      generalize eN : upd H2 a.aY (.dK (dk s.young)) = HN
      have S0 : Same H HN := fun b u e => by
        rw [← eN]
        by_cases hb : b = a.aY
        · rw [hb, upd_same, ← hm.young, ← hb, e]
        · rw [upd_ne hb]
          exact w2 _ _ (by rw [← eF, upd_ne hb]; exact e)
      have hD : HN D = some (.lst (natI (s.young.filter (· < c.1 + 1)))) := by
        rw [← eN, upd_ne DY, w1]
        unfold dk
        rw [List.length_map, List.take_length]
      have nDH : H D = none := by
        rw [← eF, upd_ne DY] at nD
        exact nD
      have mN := hm.same S0
      refine ⟨_, _, rfl, .inl ⟨_, SqL.of hD, rfl⟩, ?_⟩
      refine ⟨_, rfl, a.m, a.dx, MemF a c s, rfl, mN.at_, memF_no (by decide), a, 0, 1, x, c, sh, s, rfl, mN, rfl, h2, h3, h4, fun l1 G1 S1 n1 e1 => ?_⟩
      refine ⟨_, _, rfl, .inl ⟨_, SqL.of e1, rfl⟩, ?_⟩
      have m1 := mN.same S1
      refine ⟨_, rfl, a.m, a.dx, MemF a c s, rfl, m1.at_, memF_no (by decide), _, rfl, a.m, C_Memory, a.dx, MemF a c s, .int s.half, rfl, m1.at_, X.cl_Memory, X.n_Memory_half, rfl, _, _, rfl, rfl, ?_⟩
      have hf : c.firsts[1 + s.half]? = some (c.firsts.getD (1 + s.half) 0) := by
        rw [List.getD_eq_getElem?_getD, List.getElem?_eq_getElem (by show 1 + s.half < 3; omega)]
        rfl
      refine ⟨a, 1 + s.half, _, y, c, sh, s, rfl, m1, hf, h5, h6, h7, fun l2 G2 S2 n2 e2 => ?_⟩
      have m2 := m1.same S2
      refine ⟨_, _, rfl, .inl ⟨_, SqL.of e2, rfl⟩, ?_⟩
      refine ⟨_, rfl, a.m, a.dx, MemF a c s, rfl, m2.at_, memF_no (by decide), a, c, sh, s, rfl, m2, h8, fun l3 G3 S3 n3 e3 => ?_⟩
      have m3 := m2.same S3
      refine ⟨_, _, rfl, .inl ⟨_, SqL.of e3, rfl⟩, ?_⟩
      refine ⟨_, rfl, _, rfl, a.m, C_Memory, a.dx, MemF a c s, .ref a.aY, rfl, m3.at_, X.cl_Memory, X.n_Memory_young, rfl, a.aY, _, rfl, m3.young, ?_⟩
      refine ⟨_, rfl, _, _, rfl, rfl, ?_⟩
      refine ⟨_, rfl, a.m, C_Memory, a.dx, MemF a c s, .ref a.aO, rfl, m3.at_, X.cl_Memory, X.n_Memory_old, rfl, a.aO, _, rfl, m3.old, ?_⟩
      refine ⟨by show 6 ≤ _; decide, fun b nb => ?_⟩
      have SA := ((S0.trans S1).trans S2).trans S3
      have nbH : H b = none := by
        cases e : H b with
        | none => rfl
        | some o => rw [SA _ _ e] at nb; cases nb
      refine q b _ nbH (SA.trans (same_new nb)) ?_
      rw [upd_same]
      have lf : (s.young.filter (· < c.1 + 1)).length ≤ s.young.length := List.length_filter_le _ _
      have e5 : ((s.young.length : Nat) : Int) - (((s.young.filter (· < c.1 + 1)).length : Nat) : Int) = ((s.young.length - (s.young.filter (· < c.1 + 1)).length : Nat) : Int) := by omega
      simp only [natI, dk, List.length_map]
      rw [← e5]
def spHpic (CH CM : Addr) : Sp := fun vs H Q _ => ∃ (h : Addr) (x y : Nat) (a : Ma) (c : Sz) (sh : List (List Bool)) (s : Ms), vs = [.ref h] ∧ HpAt CH CM H h a c sh s ∧ s.half < 2 ∧ s.nexts[0]? = some x ∧ 1 ≤ x ∧ x ≤ s.words.length ∧ s.nexts[1 + s.half]? = some y ∧ c.firsts.getD (1 + s.half) 0 ≤ y ∧ y ≤ s.words.length ∧ c.fo ≤ s.words.length ∧ s.words.length ≤ 40000 ∧ s.rem.length ≤ 40000 ∧ s.grey.length ≤ 40000 ∧ s.done ≤ s.grey.length ∧
  ∀ (b : Addr) (ns : List Int) (H' : Hp), ns.Perm (s.rem.map fun (n : Nat) => (n : Int)) → ns.Pairwise (· ≤ ·) → Same H H' → Dv H' (.ref b) (.tuple [inPy (roomW c s 0), .int s.half, inPy (roomW c s (1 + s.half)), inPy (s.words.drop c.fo), inPy ns, inPy ((s.grey.drop s.done).map fun (n : Nat) => (n : Int)), .bool s.marks]) → Q (.ref b) H'
theorem ok_hpic {f : Addr} {fd : FuncData} (G : Md K C_Heap "picture" "Heap.picture" s_Heap_picture ["self"] f fd) (X : Lw K mg C_Moving C_Memory C_Heap) : FnOk P w K mg base CX0 2 f fd ["self"] (spHpic C_Heap C_Memory) := by
  obtain ⟨f_Memory_grey_row, d_Memory_grey_row, M_Memory_grey_row⟩ := X.m_Memory_grey_row
  have H_Memory_grey_row : FnOk P w K mg base CX0 1 f_Memory_grey_row d_Memory_grey_row ["self"] (spMgrey C_Memory) := ok_mgrey M_Memory_grey_row X
  obtain ⟨f_Heap_remembered, d_Heap_remembered, M_Heap_remembered⟩ := X.m_Heap_remembered
  have H_Heap_remembered : FnOk P w K mg base CX0 1 f_Heap_remembered d_Heap_remembered ["self"] (spHrem C_Heap C_Memory) := ok_hrem M_Heap_remembered X
  obtain ⟨f_Memory_old_room, d_Memory_old_room, M_Memory_old_room⟩ := X.m_Memory_old_room
  have H_Memory_old_room : FnOk P w K mg base CX0 1 f_Memory_old_room d_Memory_old_room ["self"] (spMold C_Memory) := ok_mold M_Memory_old_room X
  obtain ⟨f_Memory_room, d_Memory_room, M_Memory_room⟩ := X.m_Memory_room
  have H_Memory_room : FnOk P w K mg base CX0 1 f_Memory_room d_Memory_room ["self", "room"] (spMroom C_Memory) := ok_mroom M_Memory_room X
  refine G.F.ok sc_Heap_picture (fun vs H Q E h => ?_) (fun cdv A outer s H vs Q E hr h => ?_)
  · obtain ⟨hp, x, y, a, c, sh, s, rfl, _⟩ := h; rfl
  · obtain ⟨hp, x, y, a, c, sh, s, rfl, hh, h1, h2, h3, h4, h5, h6, h7, h8, h9, h10, h11, h12, q⟩ := h
    obtain ⟨dx, hd⟩ := hh.at_
    refine ⟨_, (pss_cons (ps_set (i := 1) sc_Heap_picture.nd rfl (Or.inl rfl) (pe_fld (pv 0) rfl))
      (pss_one (ps_ret (pe_tup (pa_cons (pe_callTy call_tuple_of (by rfl) X.b_tuple (by decide +kernel) (pa_cons (pe_meth (pv 1) X.cl_Memory M_Memory_room.m H_Memory_room hr M_Memory_room.b .nil pass0 (pa_cons pe_int pa_nil)) pa_nil)) (pa_cons (pe_fld (pv 1) rfl) (pa_cons (pe_callTy call_tuple_of (by rfl) X.b_tuple (by decide +kernel) (pa_cons (pe_meth (pv 1) X.cl_Memory M_Memory_room.m H_Memory_room hr M_Memory_room.b .nil pass0 (pa_cons (pe_op op_add pe_int (pe_fld (pv 1) rfl)) pa_nil)) pa_nil)) (pa_cons (pe_callTy call_tuple_of (by rfl) X.b_tuple (by decide +kernel) (pa_cons (pe_meth0 (pv 1) X.cl_Memory M_Memory_old_room.m H_Memory_old_room hr M_Memory_old_room.b .nil pass0) pa_nil)) (pa_cons (pe_meth0 (pv 0) X.cl_Heap M_Heap_remembered.m H_Heap_remembered hr M_Heap_remembered.b .nil pass0) (pa_cons (pe_callTy call_tuple_of (by rfl) X.b_tuple (by decide +kernel) (pa_cons (pe_meth0 (pv 1) X.cl_Memory M_Memory_grey_row.m H_Memory_grey_row hr M_Memory_grey_row.b .nil pass0) pa_nil)) (pa_cons (pe_fld (pv 1) rfl) pa_nil))))))))))), ?_⟩
    refine ⟨_, rfl, hp, C_Heap, dx, HpF a, .ref a.m, rfl, hd, X.cl_Heap, X.n_Heap_memory, rfl, ?_⟩
    have hm := hh.mem
    refine ⟨_, rfl, a.m, a.dx, MemF a c s, rfl, hm.at_, memF_no (by decide), a, 0, 1, x, c, sh, s, rfl, hm, rfl, h2, h3, h4, fun l1 G1 S1 n1 e1 => ?_⟩
    refine ⟨_, _, rfl, .inl ⟨SqL.of e1, fun t1 nt1 => ?_⟩⟩
    have s1 := S1.trans (same_new (o := .tup ((roomW c s 0).map V.int)) nt1)
    have f1 : upd G1 t1 (.tup ((roomW c s 0).map V.int)) t1 = some (.tup ((roomW c s 0).map V.int)) := upd_same
    revert s1 f1
    generalize upd G1 t1 (.tup ((roomW c s 0).map V.int)) = A1
    intro s1 f1
    have m1 := hm.same s1
    refine ⟨_, rfl, a.m, C_Memory, a.dx, MemF a c s, .int s.half, rfl, m1.at_, X.cl_Memory, X.n_Memory_half, rfl, ?_⟩
    refine ⟨_, rfl, a.m, a.dx, MemF a c s, rfl, m1.at_, memF_no (by decide), _, rfl, a.m, C_Memory, a.dx, MemF a c s, .int s.half, rfl, m1.at_, X.cl_Memory, X.n_Memory_half, rfl, _, _, rfl, rfl, ?_⟩
    have hf : c.firsts[1 + s.half]? = some (c.firsts.getD (1 + s.half) 0) := by
      rw [List.getD_eq_getElem?_getD, List.getElem?_eq_getElem (by show 1 + s.half < 3; omega)]
      rfl
    refine ⟨a, 1 + s.half, _, y, c, sh, s, rfl, m1, hf, h5, h6, h7, fun l2 G2 S2 n2 e2 => ?_⟩
    refine ⟨_, _, rfl, .inl ⟨SqL.of e2, fun t2 nt2 => ?_⟩⟩
    have s2 := S2.trans (same_new (o := .tup ((roomW c s (1 + s.half)).map V.int)) nt2)
    have f2 : upd G2 t2 (.tup ((roomW c s (1 + s.half)).map V.int)) t2 = some (.tup ((roomW c s (1 + s.half)).map V.int)) := upd_same
    revert s2 f2
    generalize upd G2 t2 (.tup ((roomW c s (1 + s.half)).map V.int)) = A2
    intro s2 f2
    have m2 := m1.same s2
    refine ⟨_, rfl, a.m, a.dx, MemF a c s, rfl, m2.at_, memF_no (by decide), a, c, sh, s, rfl, m2, h8, fun l3 G3 S3 n3 e3 => ?_⟩
    refine ⟨_, _, rfl, .inl ⟨SqL.of e3, fun t3 nt3 => ?_⟩⟩
    have s3 := S3.trans (same_new (o := .tup ((s.words.drop c.fo).map V.int)) nt3)
    have f3 : upd G3 t3 (.tup ((s.words.drop c.fo).map V.int)) t3 = some (.tup ((s.words.drop c.fo).map V.int)) := upd_same
    revert s3 f3
    generalize upd G3 t3 (.tup ((s.words.drop c.fo).map V.int)) = A3
    intro s3 f3
    have h3' := ((hh.same s1).same s2).same s3
    refine ⟨_, rfl, hp, dx, HpF a, rfl, s3 _ _ (s2 _ _ (s1 _ _ hd)), hpF_no (by decide), hp, a, c, sh, s, rfl, h3', by omega, fun t4 ns A4 pm pw n4 s4 f4 => ?_⟩
    have m4 := h3'.mem.same s4
    refine ⟨_, rfl, a.m, a.dx, MemF a c s, rfl, m4.at_, memF_no (by decide), a, c, sh, s, rfl, m4, h12, fun l5 G5 S5 n5 e5 => ?_⟩
    refine ⟨_, _, rfl, .inl ⟨SqL.of e5, fun t5 nt5 => ?_⟩⟩
    have s5 := S5.trans (same_new (o := .tup (natI (s.grey.drop s.done))) nt5)
    have f5 : upd G5 t5 (.tup (natI (s.grey.drop s.done))) t5 = some (.tup (natI (s.grey.drop s.done))) := upd_same
    revert s5 f5
    generalize upd G5 t5 (.tup (natI (s.grey.drop s.done))) = A5
    intro s5 f5
    have m5 := m4.same s5
    refine ⟨_, rfl, a.m, C_Memory, a.dx, MemF a c s, .bl s.marks, rfl, m5.at_, X.cl_Memory, X.n_Memory_marks, rfl, ?_⟩
    refine ⟨by show 7 ≤ _; decide, fun b nb => ?_⟩
    have s6 : Same A5 (upd A5 b (.tup [.ref t1, .int s.half, .ref t2, .ref t3, .ref t4, .ref t5, .bl s.marks])) := same_new nb
    have r2 := s2.trans (s3.trans (s4.trans (s5.trans s6)))
    refine q b ns _ pm pw (s1.trans r2) (.tup upd_same (by show 7 ≤ 50000; decide) ?_)
    have lr : ∀ r, (roomW c s r).length ≤ 40000 := fun r => by
      unfold roomW
      rw [List.length_take, List.length_drop]
      omega
    have ln : ns.length ≤ 40000 := by
      rw [pm.length_eq, List.length_map]
      exact h10
    refine .cons (.tup (r2 _ _ f1) ?_ ints_dv) (.cons (.int _) (.cons (.tup ((s3.trans (s4.trans (s5.trans s6))) _ _ f2) ?_ ints_dv) (.cons (.tup ((s4.trans (s5.trans s6)) _ _ f3) ?_ ints_dv) (.cons (.tup ((s5.trans s6) _ _ f4) ?_ ints_dv) (.cons (.tup (s6 _ _ f5) ?_ ?_) (.cons (.bl _) .nil))))))
    · rw [List.length_map]; exact Nat.le_trans (lr 0) (by decide)
    · rw [List.length_map]; exact Nat.le_trans (lr _) (by decide)
    · rw [List.length_map, List.length_drop]; omega
    · rw [List.length_map]; omega
    · unfold natI; rw [List.length_map, List.length_drop]; omega
    · unfold natI
      have : (s.grey.drop s.done).map (fun (n : Nat) => V.int (n : Int)) = ((s.grey.drop s.done).map fun (n : Nat) => (n : Int)).map V.int := by
        rw [List.map_map]
        rfl
      rw [this]
      exact ints_dv
end
end PH

/-! A new memory, a new heap, what is made. -/
namespace PH
open PySem PySem.Spec PyProof.Rows L2 KA KI KK PV T ET
theorem kept_none {H G : Hp} {p x : Addr} (k : KeptL [p] H G) (n : G x = none) : x = p ∨ H x = none := by
  by_cases e : x = p
  · exact .inl e
  · refine .inr ?_
    cases h : H x with
    | none => rfl
    | some o => rw [k _ _ (by rw [List.mem_singleton]; exact e) h] at n; cases n
def s0 (c : Sz) : Ms := ⟨0, List.replicate c.fo 0, c.firsts, [], [], [], [], 0, false, [0, 0, 0]⟩
section
variable {P : Program} {w : World} {K : PySem.W.Frag} {mg : Str → Option Value} {base : Heap} {C_Moving C_Memory C_Heap : Addr}
def spMinit (CM : Addr) : Sp := fun vs H Q _ => ∃ (p dx aSh aSz : Addr) (c : Sz) (sh : List (List Bool)), vs = [.ref p, .ref aSh, .ref aSz] ∧ H p = some (.ins CM dx []) ∧ Dv H (.ref aSh) (shPy sh) ∧ Dv H (.ref aSz) (szPy c) ∧ szOk c ∧ sh.length ≤ 60 ∧ (∀ r ∈ sh, r.length ≤ 100) ∧
  ∀ (a : Ma) (H' : Hp), MemAt CM H' a c sh (s0 c) → a.m = p → (∀ b ∈ a.own, b = p ∨ H b = none) → KeptL [p] H H' → Q .non H'
theorem ok_minit {f : Addr} {fd : FuncData} (F : Fun K "__init__" "Memory.__init__" s_Memory_init f fd) (X : Lw K mg C_Moving C_Memory C_Heap) : FnOk P w K mg base CX0 2 f fd ["self", "shapes", "sizes"] (spMinit C_Memory) := by
  obtain ⟨f_shape_links, d_shape_links, G_shape_links⟩ := X.f_shape_links
  have H_shape_links : FnOk P w K mg base CX0 1 f_shape_links d_shape_links ["shape"] (spShl) := ok_shl G_shape_links X
  refine F.ok sc_Memory_init (fun vs H Q E h => ?_) (fun cdv A outer s H vs Q E hr h => ?_)
  · obtain ⟨p, dx, aSh, aSz, c, sh, rfl, _⟩ := h; rfl
  · obtain ⟨p, dx, aSh, aSz, c, sh, rfl, hp, hv, hz, hc, hl, hr2, q⟩ := h
    refine ⟨_, (pss_cons (ps_fld (pv 0) (pv 1) rfl)
      (pss_cons (ps_fld (pv 0) (pv 2) rfl)
      (pss_cons (ps_asg (pv 2) (pg_tup rfl (pgs_cons (pg_name (i := 3) sc_Memory_init.nd rfl (Or.inl rfl)) (pgs_cons (pg_name (i := 4) sc_Memory_init.nd rfl (Or.inl rfl)) (pgs_cons (pg_name (i := 5) sc_Memory_init.nd rfl (Or.inl rfl)) (pgs_cons (pg_name (i := 6) sc_Memory_init.nd rfl (Or.inl rfl)) pgs_nil))))))
      (pss_cons (ps_fld (pv 0) (pv 5) rfl)
      (pss_cons (ps_fld (pv 0) (pv 6) rfl)
      (pss_cons (ps_fld (pv 0) (pe_tup (pa_cons pe_int (pa_cons (pe_op op_add (pv 3) pe_int) (pa_cons (pe_op op_add (pe_op op_add (pv 3) (pv 4)) pe_int) pa_nil)))) rfl)
      (pss_cons (ps_fld (pv 0) (pe_op op_add (pe_op op_add (pv 3) (pe_op op_mul pe_int (pv 4))) pe_int) rfl)
      (pss_cons (ps_fld (pv 0) (pe_lc (own := [("shape", 7)]) (g := (gName 7)) (tt := tYes) rfl sc_Memory_init.nd (pi_tup (pv 1)) (blkOk_by (own := [("shape", 7)]) (N := ["self", "shapes", "sizes", "nursery", "half", "great", "age", "shape"]) (sc := defScope s_Memory_init) (by decide +kernel)) (fun _ _ _ _ _ => (pg_name (i := 7) sc_Memory_init.nd rfl (Or.inl rfl))) (fun _ _ _ _ _ => pts_nil) (fun _ _ _ _ _ => (pe_call H_shape_links hr (by rfl) G_shape_links.g G_shape_links.F.kp G_shape_links.b .nil pass0 (pa_cons (pv 7) pa_nil)))) rfl)
      (pss_cons (ps_fld (pv 0) (pe_op op_rep (pe_lst (pa_cons pe_int pa_nil)) (pe_fld (pv 0) rfl)) rfl)
      (pss_cons (ps_fld (pv 0) (pe_callTy call_list_of (by rfl) X.b_list (by decide +kernel) (pa_cons (pe_fld (pv 0) rfl) pa_nil)) rfl)
      (pss_cons (ps_fld (pv 0) pe_int rfl)
      (pss_cons (ps_fld (pv 0) pe_dnewK rfl)
      (pss_cons (ps_fld (pv 0) pe_dnewK rfl)
      (pss_cons (ps_fld (pv 0) pe_dnewK rfl)
      (pss_cons (ps_fld (pv 0) (pe_lst pa_nil) rfl)
      (pss_cons (ps_fld (pv 0) pe_int rfl)
      (pss_cons (ps_fld (pv 0) pe_bl rfl)
      (pss_one (ps_fld (pv 0) (pe_lst (pa_cons pe_int (pa_cons pe_int (pa_cons pe_int pa_nil)))) rfl))))))))))))))))))), ?_⟩
    have P0 := hp
    obtain ⟨H1, g1⟩ : ∃ G : Hp, G = upd H p (.ins C_Memory dx [("shapes", .ref aSh)]) := ⟨_, rfl⟩
    refine ⟨_, rfl, _, rfl, p, C_Memory, dx, _, rfl, P0, X.cl_Memory, X.n_Memory_shapes, by decide, ?_⟩
    refine at_nx g1 ?_
    have P1 : H1 p = some (.ins C_Memory dx [("shapes", .ref aSh)]) := by rw [g1]; exact upd_same
    have k1 : KeptL [p] H H1 := by rw [g1]; exact kept_upd (by simp)
    obtain ⟨H2, g2⟩ : ∃ G : Hp, G = upd H1 p (.ins C_Memory dx [("shapes", .ref aSh), ("sizes", .ref aSz)]) := ⟨_, rfl⟩
    refine ⟨_, rfl, _, rfl, p, C_Memory, dx, _, rfl, P1, X.cl_Memory, X.n_Memory_sizes, by show 1 < _; decide, ?_⟩
    refine at_nx g2 ?_
    have P2 : H2 p = some (.ins C_Memory dx [("shapes", .ref aSh), ("sizes", .ref aSz)]) := by rw [g2]; exact upd_same
    have k2 : KeptL [p] H1 H2 := by rw [g2]; exact kept_upd (by simp)
    obtain ⟨_, ez, hz1⟩ := szPy_at hz
    cases ez
    have kz := k1.trans k2
    have z1 := kz _ _ (by intro z; rw [List.mem_singleton] at z; rw [z, hp] at hz1; cases hz1) hz1
    refine ⟨_, rfl, aSz, _, rfl, SqT.of z1, rfl, _, _, rfl, _, _, rfl, _, _, rfl, _, _, rfl, rfl, ?_⟩
    obtain ⟨H3, g3⟩ : ∃ G : Hp, G = upd H2 p (.ins C_Memory dx [("shapes", .ref aSh), ("sizes", .ref aSz), ("great", .int c.2.2.1)]) := ⟨_, rfl⟩
    refine ⟨_, rfl, _, rfl, p, C_Memory, dx, _, rfl, P2, X.cl_Memory, X.n_Memory_great, by show 2 < _; decide, ?_⟩
    refine at_nx g3 ?_
    have P3 : H3 p = some (.ins C_Memory dx [("shapes", .ref aSh), ("sizes", .ref aSz), ("great", .int c.2.2.1)]) := by rw [g3]; exact upd_same
    have k3 : KeptL [p] H2 H3 := by rw [g3]; exact kept_upd (by simp)
    obtain ⟨H4, g4⟩ : ∃ G : Hp, G = upd H3 p (.ins C_Memory dx [("shapes", .ref aSh), ("sizes", .ref aSz), ("great", .int c.2.2.1), ("age", .int c.2.2.2)]) := ⟨_, rfl⟩
    refine ⟨_, rfl, _, rfl, p, C_Memory, dx, _, rfl, P3, X.cl_Memory, X.n_Memory_age, by show 3 < _; decide, ?_⟩
    refine at_nx g4 ?_
    have P4 : H4 p = some (.ins C_Memory dx [("shapes", .ref aSh), ("sizes", .ref aSz), ("great", .int c.2.2.1), ("age", .int c.2.2.2)]) := by rw [g4]; exact upd_same
    have k4 : KeptL [p] H3 H4 := by rw [g4]; exact kept_upd (by simp)
    refine ⟨_, rfl, _, _, rfl, rfl, _, rfl, _, rfl, _, _, rfl, rfl, _, _, rfl, rfl, by show 3 ≤ _; decide, fun aFi naFi => ?_⟩
    have eaFi : p ≠ aFi := ne_of_none P4 naFi
    obtain ⟨H5, g5⟩ : ∃ G : Hp, G = upd (upd H4 aFi (.tup (natI c.firsts))) p (.ins C_Memory dx [("shapes", .ref aSh), ("sizes", .ref aSz), ("great", .int c.2.2.1), ("age", .int c.2.2.2), ("firsts", .ref aFi)]) := ⟨_, rfl⟩
    refine ⟨_, rfl, p, C_Memory, dx, _, rfl, (by rw [upd_ne eaFi]; exact P4), X.cl_Memory, X.n_Memory_firsts, by show 4 < _; decide, ?_⟩
    refine at_nx g5 ?_
    have P5 : H5 p = some (.ins C_Memory dx [("shapes", .ref aSh), ("sizes", .ref aSz), ("great", .int c.2.2.1), ("age", .int c.2.2.2), ("firsts", .ref aFi)]) := by rw [g5]; exact upd_same
    have k5 : KeptL [p] H4 H5 := by rw [g5]; exact (KeptL.of_same (same_new naFi)).trans (kept_upd (by simp))
    have faFi : H5 aFi = some (.tup (natI c.firsts)) := by rw [g5, upd_ne eaFi.symm]; exact upd_same
    obtain ⟨H6, g6⟩ : ∃ G : Hp, G = upd H5 p (.ins C_Memory dx [("shapes", .ref aSh), ("sizes", .ref aSz), ("great", .int c.2.2.1), ("age", .int c.2.2.2), ("firsts", .ref aFi), ("first_old", .int c.fo)]) := ⟨_, rfl⟩
    refine ⟨_, rfl, _, rfl, _, _, rfl, rfl, .inl ⟨by omega, by omega⟩, _, _, rfl, rfl, _, _, rfl, rfl, _, rfl, p, C_Memory, dx, _, rfl, P5, X.cl_Memory, X.n_Memory_first_old, by show 5 < _; decide, ?_⟩
    refine at_nx g6 ?_
    have P6 : H6 p = some (.ins C_Memory dx [("shapes", .ref aSh), ("sizes", .ref aSz), ("great", .int c.2.2.1), ("age", .int c.2.2.2), ("firsts", .ref aFi), ("first_old", .int c.fo)]) := by rw [g6]; exact upd_same
    have k6 : KeptL [p] H5 H6 := by rw [g6]; exact kept_upd (by simp)
    obtain ⟨aS0, vs, es, hvs, hvl, hve⟩ := shPy_at hv
    cases es
    have K6 := ((((k1.trans k2).trans k3).trans k4).trans k5).trans k6
    have st : ∀ {b : Addr} {xs : List V}, H b = some (.tup xs) → H6 b = some (.tup xs) := fun e => K6 _ _ (by intro z; rw [List.mem_singleton] at z; rw [z, hp] at e; cases e) e
    refine ⟨_, rfl, aSh, rfl, ⟨_, SqT.of (st hvs)⟩, fun aL naL => lc_tup (K := K) (xs := vs) (fun i H2 => LinksAt H2 aL (sh.take i) ∧ Same H6 H2) ⟨⟨[], upd_same, by simp, fun i r b e => by simp at e⟩, same_new naL⟩ ?_ ?_ ?_⟩
    · rintro i H2 _ ⟨_, s2⟩
      exact SqT.of (s2 _ _ (st hvs))
    · rintro i v H2 hi ⟨⟨ls, l1, l2, l3⟩, s2⟩
      have hil : i < sh.length := by rw [← hvl]; exact (List.getElem?_eq_some_iff.mp hi).1
      obtain ⟨b, hb, hbb⟩ := hve i sh[i] (List.getElem?_eq_getElem hil)
      rw [hb] at hi
      cases hi
      have hr1 := hr2 sh[i] (List.getElem_mem hil)
      rw [List.length_take, Nat.min_eq_left (Nat.le_of_lt hil)] at l2
      refine ⟨rfl, _, rfl, .ref b, sh[i], rfl, .tup (s2 _ _ (st hbb)) (by rw [List.length_map]; omega) bools_dv, by omega, fun b2 H' nb S e => ⟨ls.map V.ref, S _ _ l1, by rw [List.length_map]; exact small1000 (by omega), ⟨⟨ls ++ [b2], by rw [upd_same, List.map_append]; rfl, by rw [List.length_append, List.length_take, l2, Nat.min_eq_left (by omega)]; rfl, fun j r b' e1 e2 => ?_⟩, same_at naL (s2.trans S)⟩⟩⟩
      have hj : j < ls.length + 1 := by
        have := (List.getElem?_eq_some_iff.mp e2).1
        rwa [List.length_append] at this
      rw [List.getElem?_take] at e1
      by_cases hji : j < i
      · rw [if_pos (by omega)] at e1
        rw [List.getElem?_append_left (by omega)] at e2
        have := S _ _ (l3 j r b' (by rw [List.getElem?_take, if_pos hji]; exact e1) e2)
        rw [upd_ne (ne_of this (S _ _ l1) (by intro z; cases z))]
        exact this
      · have ej : j = i := by omega
        subst ej
        rw [if_pos (by omega), List.getElem?_eq_getElem hil] at e1
        cases e1
        rw [List.getElem?_append_right (by omega), l2, Nat.sub_self] at e2
        cases e2
        rw [upd_ne (ne_of e (S _ _ l1) (by intro z; cases z))]
        exact e
    · rintro G6 ⟨L6, s6⟩
      rw [hvl, List.take_length] at L6
      have Q6 := s6 _ _ P6
      obtain ⟨H7, g7⟩ : ∃ G : Hp, G = upd G6 p (.ins C_Memory dx [("shapes", .ref aSh), ("sizes", .ref aSz), ("great", .int c.2.2.1), ("age", .int c.2.2.2), ("firsts", .ref aFi), ("first_old", .int c.fo), ("shapes_links", .ref aL)]) := ⟨_, rfl⟩
      refine ⟨_, rfl, p, C_Memory, dx, _, rfl, Q6, X.cl_Memory, X.n_Memory_shapes_links, by show 6 < _; decide, ?_⟩
      refine at_nx g7 ?_
      have P7 : H7 p = some (.ins C_Memory dx [("shapes", .ref aSh), ("sizes", .ref aSz), ("great", .int c.2.2.1), ("age", .int c.2.2.2), ("firsts", .ref aFi), ("first_old", .int c.fo), ("shapes_links", .ref aL)]) := by rw [g7]; exact upd_same
      have k7 : KeptL [p] H6 H7 := by rw [g7]; exact (KeptL.of_same s6).trans (kept_upd (by simp))
      have kL : KeptL [p] G6 H7 := by rw [g7]; exact kept_upd (by simp)
      have K7 := K6.trans k7
      obtain ⟨c1, c2, c3, c4, c5, c6, c7⟩ := hc
      have eaL : p ≠ aL := ne_of_none P6 naL
      obtain ⟨ls, L1, L2, L3⟩ := L6
      have faL : H7 aL = some (.lst (ls.map V.ref)) := kL _ _ (by rw [List.mem_singleton]; exact eaL.symm) L1
      refine ⟨by show 1 ≤ _; decide, fun q0 nq => ⟨_, rfl, p, C_Memory, dx, _, .int c.fo, rfl, by rw [upd_ne (ne_of_none P7 nq)]; exact P7, X.cl_Memory, X.n_Memory_first_old, rfl, q0, c.fo, _, rfl, rfl, upd_same, ?_, ?_, ?_, fun aW naW => ?_⟩⟩
      · omega
      · have : c.fo < 100000 := by unfold Sz.fo; omega
        omega
      · show 1 * ((c.fo : Nat) : Int).toNat ≤ _
        rw [Int.toNat_natCast, Nat.one_mul]
        exact Nat.le_of_lt (big (by unfold Sz.fo; omega))
      have sq := same_new (o := .lst [V.int 0]) nq
      have eaW : p ≠ aW := ne_of_none (sq _ _ P7) naW
      have Ew : (List.replicate ((c.fo : Nat) : Int).toNat [V.int 0]).flatten = (List.replicate c.fo (0 : Int)).map V.int := by rw [Int.toNat_natCast, List.map_replicate, List.flatten_replicate_singleton]
      rw [Ew]
      obtain ⟨H8, g8⟩ : ∃ G : Hp, G = upd (upd (upd H7 q0 (.lst [V.int 0])) aW (.lst ((List.replicate c.fo (0 : Int)).map V.int))) p (.ins C_Memory dx [("shapes", .ref aSh), ("sizes", .ref aSz), ("great", .int c.2.2.1), ("age", .int c.2.2.2), ("firsts", .ref aFi), ("first_old", .int c.fo), ("shapes_links", .ref aL), ("words", .ref aW)]) := ⟨_, rfl⟩
      refine ⟨_, rfl, p, C_Memory, dx, _, rfl, by rw [upd_ne eaW]; exact sq _ _ P7, X.cl_Memory, X.n_Memory_words, by show 7 < _; decide, ?_⟩
      refine at_nx g8 ?_
      have P8 : H8 p = some (.ins C_Memory dx [("shapes", .ref aSh), ("sizes", .ref aSz), ("great", .int c.2.2.1), ("age", .int c.2.2.2), ("firsts", .ref aFi), ("first_old", .int c.fo), ("shapes_links", .ref aL), ("words", .ref aW)]) := by rw [g8]; exact upd_same
      have k8 : KeptL [p] H7 H8 := by rw [g8]; exact (KeptL.of_same (sq.trans (same_new naW))).trans (kept_upd (by simp))
      have faW : H8 aW = some (.lst ((List.replicate c.fo (0 : Int)).map V.int)) := by rw [g8, upd_ne eaW.symm]; exact upd_same
      have d_aL_aW : aL ≠ aW := ne_of_none (sq _ _ faL) naW
      have K8 := K7.trans k8
      refine ⟨_, rfl, p, C_Memory, dx, _, .ref aFi, rfl, P8, X.cl_Memory, X.n_Memory_firsts, rfl, aFi, _, rfl, .inr (SqT.of (((k6.trans k7).trans k8) _ _ (by rw [List.mem_singleton]; exact eaFi.symm) faFi)), fun aN naN => ?_⟩
      have eaN : p ≠ aN := ne_of_none P8 naN
      obtain ⟨H9, g9⟩ : ∃ G : Hp, G = upd (upd H8 aN (.lst (natI c.firsts))) p (.ins C_Memory dx [("shapes", .ref aSh), ("sizes", .ref aSz), ("great", .int c.2.2.1), ("age", .int c.2.2.2), ("firsts", .ref aFi), ("first_old", .int c.fo), ("shapes_links", .ref aL), ("words", .ref aW), ("nexts", .ref aN)]) := ⟨_, rfl⟩
      refine ⟨_, rfl, p, C_Memory, dx, _, rfl, (by rw [upd_ne eaN]; exact P8), X.cl_Memory, X.n_Memory_nexts, by show 8 < _; decide, ?_⟩
      refine at_nx g9 ?_
      have P9 : H9 p = some (.ins C_Memory dx [("shapes", .ref aSh), ("sizes", .ref aSz), ("great", .int c.2.2.1), ("age", .int c.2.2.2), ("firsts", .ref aFi), ("first_old", .int c.fo), ("shapes_links", .ref aL), ("words", .ref aW), ("nexts", .ref aN)]) := by rw [g9]; exact upd_same
      have k9 : KeptL [p] H8 H9 := by rw [g9]; exact (KeptL.of_same (same_new naN)).trans (kept_upd (by simp))
      have faN : H9 aN = some (.lst (natI c.firsts)) := by rw [g9, upd_ne eaN.symm]; exact upd_same
      have d_aL_aN : aL ≠ aN := ne_of_none (k8 _ _ (by rw [List.mem_singleton]; exact eaL.symm) faL) naN
      have d_aW_aN : aW ≠ aN := ne_of_none faW naN
      have K9 := K8.trans k9
      obtain ⟨H10, g10⟩ : ∃ G : Hp, G = upd H9 p (.ins C_Memory dx [("shapes", .ref aSh), ("sizes", .ref aSz), ("great", .int c.2.2.1), ("age", .int c.2.2.2), ("firsts", .ref aFi), ("first_old", .int c.fo), ("shapes_links", .ref aL), ("words", .ref aW), ("nexts", .ref aN), ("half", .int 0)]) := ⟨_, rfl⟩
      refine ⟨_, rfl, p, C_Memory, dx, _, rfl, P9, X.cl_Memory, X.n_Memory_half, by show 9 < _; decide, ?_⟩
      refine at_nx g10 ?_
      have P10 : H10 p = some (.ins C_Memory dx [("shapes", .ref aSh), ("sizes", .ref aSz), ("great", .int c.2.2.1), ("age", .int c.2.2.2), ("firsts", .ref aFi), ("first_old", .int c.fo), ("shapes_links", .ref aL), ("words", .ref aW), ("nexts", .ref aN), ("half", .int 0)]) := by rw [g10]; exact upd_same
      have k10 : KeptL [p] H9 H10 := by rw [g10]; exact kept_upd (by simp)
      have K10 := K9.trans k10
      refine fun aY naY => ?_
      have eaY : p ≠ aY := ne_of_none P10 naY
      obtain ⟨H11, g11⟩ : ∃ G : Hp, G = upd (upd H10 aY (.dK [])) p (.ins C_Memory dx [("shapes", .ref aSh), ("sizes", .ref aSz), ("great", .int c.2.2.1), ("age", .int c.2.2.2), ("firsts", .ref aFi), ("first_old", .int c.fo), ("shapes_links", .ref aL), ("words", .ref aW), ("nexts", .ref aN), ("half", .int 0), ("young", .ref aY)]) := ⟨_, rfl⟩
      refine ⟨_, rfl, p, C_Memory, dx, _, rfl, (by rw [upd_ne eaY]; exact P10), X.cl_Memory, X.n_Memory_young, by show 10 < _; decide, ?_⟩
      refine at_nx g11 ?_
      have P11 : H11 p = some (.ins C_Memory dx [("shapes", .ref aSh), ("sizes", .ref aSz), ("great", .int c.2.2.1), ("age", .int c.2.2.2), ("firsts", .ref aFi), ("first_old", .int c.fo), ("shapes_links", .ref aL), ("words", .ref aW), ("nexts", .ref aN), ("half", .int 0), ("young", .ref aY)]) := by rw [g11]; exact upd_same
      have k11 : KeptL [p] H10 H11 := by rw [g11]; exact (KeptL.of_same (same_new naY)).trans (kept_upd (by simp))
      have faY : H11 aY = some (.dK []) := by rw [g11, upd_ne eaY.symm]; exact upd_same
      have K11 := K10.trans k11
      refine fun aO naO => ?_
      have eaO : p ≠ aO := ne_of_none P11 naO
      obtain ⟨H12, g12⟩ : ∃ G : Hp, G = upd (upd H11 aO (.dK [])) p (.ins C_Memory dx [("shapes", .ref aSh), ("sizes", .ref aSz), ("great", .int c.2.2.1), ("age", .int c.2.2.2), ("firsts", .ref aFi), ("first_old", .int c.fo), ("shapes_links", .ref aL), ("words", .ref aW), ("nexts", .ref aN), ("half", .int 0), ("young", .ref aY), ("old", .ref aO)]) := ⟨_, rfl⟩
      refine ⟨_, rfl, p, C_Memory, dx, _, rfl, (by rw [upd_ne eaO]; exact P11), X.cl_Memory, X.n_Memory_old, by show 11 < _; decide, ?_⟩
      refine at_nx g12 ?_
      have P12 : H12 p = some (.ins C_Memory dx [("shapes", .ref aSh), ("sizes", .ref aSz), ("great", .int c.2.2.1), ("age", .int c.2.2.2), ("firsts", .ref aFi), ("first_old", .int c.fo), ("shapes_links", .ref aL), ("words", .ref aW), ("nexts", .ref aN), ("half", .int 0), ("young", .ref aY), ("old", .ref aO)]) := by rw [g12]; exact upd_same
      have k12 : KeptL [p] H11 H12 := by rw [g12]; exact (KeptL.of_same (same_new naO)).trans (kept_upd (by simp))
      have faO : H12 aO = some (.dK []) := by rw [g12, upd_ne eaO.symm]; exact upd_same
      have d_aY_aO : aY ≠ aO := ne_of_none faY naO
      have K12 := K11.trans k12
      refine fun aR naR => ?_
      have eaR : p ≠ aR := ne_of_none P12 naR
      obtain ⟨H13, g13⟩ : ∃ G : Hp, G = upd (upd H12 aR (.dK [])) p (.ins C_Memory dx [("shapes", .ref aSh), ("sizes", .ref aSz), ("great", .int c.2.2.1), ("age", .int c.2.2.2), ("firsts", .ref aFi), ("first_old", .int c.fo), ("shapes_links", .ref aL), ("words", .ref aW), ("nexts", .ref aN), ("half", .int 0), ("young", .ref aY), ("old", .ref aO), ("remembered", .ref aR)]) := ⟨_, rfl⟩
      refine ⟨_, rfl, p, C_Memory, dx, _, rfl, (by rw [upd_ne eaR]; exact P12), X.cl_Memory, X.n_Memory_remembered, by show 12 < _; decide, ?_⟩
      refine at_nx g13 ?_
      have P13 : H13 p = some (.ins C_Memory dx [("shapes", .ref aSh), ("sizes", .ref aSz), ("great", .int c.2.2.1), ("age", .int c.2.2.2), ("firsts", .ref aFi), ("first_old", .int c.fo), ("shapes_links", .ref aL), ("words", .ref aW), ("nexts", .ref aN), ("half", .int 0), ("young", .ref aY), ("old", .ref aO), ("remembered", .ref aR)]) := by rw [g13]; exact upd_same
      have k13 : KeptL [p] H12 H13 := by rw [g13]; exact (KeptL.of_same (same_new naR)).trans (kept_upd (by simp))
      have faR : H13 aR = some (.dK []) := by rw [g13, upd_ne eaR.symm]; exact upd_same
      have d_aY_aR : aY ≠ aR := ne_of_none (k12 _ _ (by rw [List.mem_singleton]; exact eaY.symm) faY) naR
      have d_aO_aR : aO ≠ aR := ne_of_none faO naR
      have K13 := K12.trans k13
      refine ⟨by show 0 ≤ sizeLine; decide, fun aG naG => ?_⟩
      have eaG : p ≠ aG := ne_of_none P13 naG
      obtain ⟨H14, g14⟩ : ∃ G : Hp, G = upd (upd H13 aG (.lst [])) p (.ins C_Memory dx [("shapes", .ref aSh), ("sizes", .ref aSz), ("great", .int c.2.2.1), ("age", .int c.2.2.2), ("firsts", .ref aFi), ("first_old", .int c.fo), ("shapes_links", .ref aL), ("words", .ref aW), ("nexts", .ref aN), ("half", .int 0), ("young", .ref aY), ("old", .ref aO), ("remembered", .ref aR), ("grey", .ref aG)]) := ⟨_, rfl⟩
      refine ⟨_, rfl, p, C_Memory, dx, _, rfl, (by rw [upd_ne eaG]; exact P13), X.cl_Memory, X.n_Memory_grey, by show 13 < _; decide, ?_⟩
      refine at_nx g14 ?_
      have P14 : H14 p = some (.ins C_Memory dx [("shapes", .ref aSh), ("sizes", .ref aSz), ("great", .int c.2.2.1), ("age", .int c.2.2.2), ("firsts", .ref aFi), ("first_old", .int c.fo), ("shapes_links", .ref aL), ("words", .ref aW), ("nexts", .ref aN), ("half", .int 0), ("young", .ref aY), ("old", .ref aO), ("remembered", .ref aR), ("grey", .ref aG)]) := by rw [g14]; exact upd_same
      have k14 : KeptL [p] H13 H14 := by rw [g14]; exact (KeptL.of_same (same_new naG)).trans (kept_upd (by simp))
      have faG : H14 aG = some (.lst []) := by rw [g14, upd_ne eaG.symm]; exact upd_same
      have d_aL_aG : aL ≠ aG := ne_of_none ((((((k8.trans k9).trans k10).trans k11).trans k12).trans k13) _ _ (by rw [List.mem_singleton]; exact eaL.symm) faL) naG
      have d_aW_aG : aW ≠ aG := ne_of_none (((((k9.trans k10).trans k11).trans k12).trans k13) _ _ (by rw [List.mem_singleton]; exact eaW.symm) faW) naG
      have d_aN_aG : aN ≠ aG := ne_of_none ((((k10.trans k11).trans k12).trans k13) _ _ (by rw [List.mem_singleton]; exact eaN.symm) faN) naG
      have K14 := K13.trans k14
      obtain ⟨H15, g15⟩ : ∃ G : Hp, G = upd H14 p (.ins C_Memory dx [("shapes", .ref aSh), ("sizes", .ref aSz), ("great", .int c.2.2.1), ("age", .int c.2.2.2), ("firsts", .ref aFi), ("first_old", .int c.fo), ("shapes_links", .ref aL), ("words", .ref aW), ("nexts", .ref aN), ("half", .int 0), ("young", .ref aY), ("old", .ref aO), ("remembered", .ref aR), ("grey", .ref aG), ("done", .int 0)]) := ⟨_, rfl⟩
      refine ⟨_, rfl, p, C_Memory, dx, _, rfl, P14, X.cl_Memory, X.n_Memory_done, by show 14 < _; decide, ?_⟩
      refine at_nx g15 ?_
      have P15 : H15 p = some (.ins C_Memory dx [("shapes", .ref aSh), ("sizes", .ref aSz), ("great", .int c.2.2.1), ("age", .int c.2.2.2), ("firsts", .ref aFi), ("first_old", .int c.fo), ("shapes_links", .ref aL), ("words", .ref aW), ("nexts", .ref aN), ("half", .int 0), ("young", .ref aY), ("old", .ref aO), ("remembered", .ref aR), ("grey", .ref aG), ("done", .int 0)]) := by rw [g15]; exact upd_same
      have k15 : KeptL [p] H14 H15 := by rw [g15]; exact kept_upd (by simp)
      have K15 := K14.trans k15
      obtain ⟨H16, g16⟩ : ∃ G : Hp, G = upd H15 p (.ins C_Memory dx [("shapes", .ref aSh), ("sizes", .ref aSz), ("great", .int c.2.2.1), ("age", .int c.2.2.2), ("firsts", .ref aFi), ("first_old", .int c.fo), ("shapes_links", .ref aL), ("words", .ref aW), ("nexts", .ref aN), ("half", .int 0), ("young", .ref aY), ("old", .ref aO), ("remembered", .ref aR), ("grey", .ref aG), ("done", .int 0), ("marks", .bl false)]) := ⟨_, rfl⟩
      refine ⟨_, rfl, p, C_Memory, dx, _, rfl, P15, X.cl_Memory, X.n_Memory_marks, by show 15 < _; decide, ?_⟩
      refine at_nx g16 ?_
      have P16 : H16 p = some (.ins C_Memory dx [("shapes", .ref aSh), ("sizes", .ref aSz), ("great", .int c.2.2.1), ("age", .int c.2.2.2), ("firsts", .ref aFi), ("first_old", .int c.fo), ("shapes_links", .ref aL), ("words", .ref aW), ("nexts", .ref aN), ("half", .int 0), ("young", .ref aY), ("old", .ref aO), ("remembered", .ref aR), ("grey", .ref aG), ("done", .int 0), ("marks", .bl false)]) := by rw [g16]; exact upd_same
      have k16 : KeptL [p] H15 H16 := by rw [g16]; exact kept_upd (by simp)
      have K16 := K15.trans k16
      refine ⟨by show 3 ≤ _; decide, fun aE naE => ?_⟩
      have eaE : p ≠ aE := ne_of_none P16 naE
      obtain ⟨H17, g17⟩ : ∃ G : Hp, G = upd (upd H16 aE (.lst [.int 0, .int 0, .int 0])) p (.ins C_Memory dx [("shapes", .ref aSh), ("sizes", .ref aSz), ("great", .int c.2.2.1), ("age", .int c.2.2.2), ("firsts", .ref aFi), ("first_old", .int c.fo), ("shapes_links", .ref aL), ("words", .ref aW), ("nexts", .ref aN), ("half", .int 0), ("young", .ref aY), ("old", .ref aO), ("remembered", .ref aR), ("grey", .ref aG), ("done", .int 0), ("marks", .bl false), ("ended", .ref aE)]) := ⟨_, rfl⟩
      refine ⟨_, rfl, p, C_Memory, dx, _, rfl, (by rw [upd_ne eaE]; exact P16), X.cl_Memory, X.n_Memory_ended, by show 16 < _; decide, ?_⟩
      refine at_nx g17 ?_
      have P17 : H17 p = some (.ins C_Memory dx [("shapes", .ref aSh), ("sizes", .ref aSz), ("great", .int c.2.2.1), ("age", .int c.2.2.2), ("firsts", .ref aFi), ("first_old", .int c.fo), ("shapes_links", .ref aL), ("words", .ref aW), ("nexts", .ref aN), ("half", .int 0), ("young", .ref aY), ("old", .ref aO), ("remembered", .ref aR), ("grey", .ref aG), ("done", .int 0), ("marks", .bl false), ("ended", .ref aE)]) := by rw [g17]; exact upd_same
      have k17 : KeptL [p] H16 H17 := by rw [g17]; exact (KeptL.of_same (same_new naE)).trans (kept_upd (by simp))
      have faE : H17 aE = some (.lst [.int 0, .int 0, .int 0]) := by rw [g17, upd_ne eaE.symm]; exact upd_same
      have d_aL_aE : aL ≠ aE := ne_of_none (((((((((k8.trans k9).trans k10).trans k11).trans k12).trans k13).trans k14).trans k15).trans k16) _ _ (by rw [List.mem_singleton]; exact eaL.symm) faL) naE
      have d_aW_aE : aW ≠ aE := ne_of_none ((((((((k9.trans k10).trans k11).trans k12).trans k13).trans k14).trans k15).trans k16) _ _ (by rw [List.mem_singleton]; exact eaW.symm) faW) naE
      have d_aN_aE : aN ≠ aE := ne_of_none (((((((k10.trans k11).trans k12).trans k13).trans k14).trans k15).trans k16) _ _ (by rw [List.mem_singleton]; exact eaN.symm) faN) naE
      have d_aG_aE : aG ≠ aE := ne_of_none ((k15.trans k16) _ _ (by rw [List.mem_singleton]; exact eaG.symm) faG) naE
      have K17 := K16.trans k17
      refine q ⟨p, dx, aSh, aSz, aFi, aL, aW, aN, aY, aO, aR, aG, aE⟩ H17 ⟨P17, ?_, ((((((((((((k6.trans k7).trans k8).trans k9).trans k10).trans k11).trans k12).trans k13).trans k14).trans k15).trans k16).trans k17) _ _ (by rw [List.mem_singleton]; exact eaFi.symm) faFi), ⟨ls, ((((((((((k8.trans k9).trans k10).trans k11).trans k12).trans k13).trans k14).trans k15).trans k16).trans k17) _ _ (by rw [List.mem_singleton]; exact eaL.symm) faL), L2, ?_⟩, (((((((((k9.trans k10).trans k11).trans k12).trans k13).trans k14).trans k15).trans k16).trans k17) _ _ (by rw [List.mem_singleton]; exact eaW.symm) faW), ((((((((k10.trans k11).trans k12).trans k13).trans k14).trans k15).trans k16).trans k17) _ _ (by rw [List.mem_singleton]; exact eaN.symm) faN), ((((((k12.trans k13).trans k14).trans k15).trans k16).trans k17) _ _ (by rw [List.mem_singleton]; exact eaY.symm) faY), (((((k13.trans k14).trans k15).trans k16).trans k17) _ _ (by rw [List.mem_singleton]; exact eaO.symm) faO), ((((k14.trans k15).trans k16).trans k17) _ _ (by rw [List.mem_singleton]; exact eaR.symm) faR), (((k15.trans k16).trans k17) _ _ (by rw [List.mem_singleton]; exact eaG.symm) faG), faE, ?_, ?_⟩ rfl ?_ K17
      · exact hv.same fun b xs e => K17 _ _ (by intro z; rw [List.mem_singleton] at z; rw [z, hp] at e; cases e) e
      · intro i r b e1 e2
        have hb := L3 i r b e1 e2
        exact (kL.trans (((((((((k8.trans k9).trans k10).trans k11).trans k12).trans k13).trans k14).trans k15).trans k16).trans k17)) _ _ (by intro z; rw [List.mem_singleton] at z; rw [z, Q6] at hb; cases hb) hb
      · simp [d_aL_aW, d_aL_aN, d_aL_aG, d_aL_aE, d_aW_aN, d_aW_aG, d_aW_aE, d_aN_aG, d_aN_aE, d_aG_aE]
      · simp [d_aY_aO, d_aY_aR, d_aO_aR]
      · intro b hb
        have hb : b ∈ [p, aL, aW, aN, aY, aO, aR, aG, aE] := hb
        simp only [List.mem_cons, List.not_mem_nil, or_false] at hb
        rcases hb with rfl | rfl | rfl | rfl | rfl | rfl | rfl | rfl | rfl
        · exact .inl rfl
        · exact kept_none K6 naL
        · exact kept_none (K7.trans (KeptL.of_same sq)) naW
        · exact kept_none K8 naN
        · exact kept_none K10 naY
        · exact kept_none K11 naO
        · exact kept_none K12 naR
        · exact kept_none K13 naG
        · exact kept_none K16 naE
end
end PH

/-! A new heap, what it makes. -/
namespace PH
open PySem PySem.Spec PyProof.Rows L2 KA KI KK PV T ET
def mkS (c : Sz) (s : Ms) (k : Int) (n x : Nat) : Nat × Ms := if c.2.2.1 < 2 + n then (s.words.length, layO s (objW k (if s.marks = true then 2 else 0) n)) else (x, layY s 0 x (objW k 0 n))
section
variable {P : Program} {w : World} {K : PySem.W.Frag} {mg : Str → Option Value} {base : Heap} {C_Moving C_Memory C_Heap : Addr}
def spHinit (CH CM : Addr) : Sp := fun vs H Q _ => ∃ (h dx aSh aSz : Addr) (c : Sz) (sh : List (List Bool)), vs = [.ref h, .ref aSh, .ref aSz] ∧ H h = some (.ins CH dx []) ∧ Dv H (.ref aSh) (shPy sh) ∧ Dv H (.ref aSz) (szPy c) ∧ szOk c ∧ sh.length ≤ 60 ∧ (∀ r ∈ sh, r.length ≤ 100) ∧
  ∀ (a : Ma) (H' : Hp), HpAt CH CM H' h a c sh (s0 c) → (∀ b ∈ a.own, H b = none) → KeptL [h] H H' → Q .non H'
theorem ok_hinit {f : Addr} {fd : FuncData} (F : Fun K "__init__" "Heap.__init__" s_Heap_init f fd) (X : Lw K mg C_Moving C_Memory C_Heap) : FnOk P w K mg base CX0 4 f fd ["self", "shapes", "sizes"] (spHinit C_Heap C_Memory) := by
  obtain ⟨f_Memory___init__, d_Memory___init__, K_Memory, F_Memory___init__, b_Memory___init__⟩ := X.i_Memory
  have H_Memory___init__ : FnOk P w K mg base CX0 2 f_Memory___init__ d_Memory___init__ ["self", "shapes", "sizes"] (spMinit C_Memory) := ok_minit F_Memory___init__ X
  obtain ⟨f_look_at_sizes, d_look_at_sizes, G_look_at_sizes⟩ := X.f_look_at_sizes
  have H_look_at_sizes : FnOk P w K mg base CX0 3 f_look_at_sizes d_look_at_sizes ["sizes"] (spLasz) := ok_lasz G_look_at_sizes X
  obtain ⟨f_look_at_shapes, d_look_at_shapes, G_look_at_shapes⟩ := X.f_look_at_shapes
  have H_look_at_shapes : FnOk P w K mg base CX0 2 f_look_at_shapes d_look_at_shapes ["shapes"] (spLas) := ok_las G_look_at_shapes X
  refine F.ok sc_Heap_init (fun vs H Q E h => ?_) (fun cdv A outer s H vs Q E hr h => ?_)
  · obtain ⟨hp, dx, aSh, aSz, c, sh, rfl, _⟩ := h; rfl
  · obtain ⟨hp, dx, aSh, aSz, c, sh, rfl, hh, hv, hz, hc, hl, hr2, q⟩ := h
    refine ⟨_, (pss_cons (ps_expr (pe_call H_look_at_shapes (hr.mono (by decide)) (by rfl) G_look_at_shapes.g G_look_at_shapes.F.kp G_look_at_shapes.b .nil pass0 (pa_cons (pv 1) pa_nil)))
      (pss_cons (ps_expr (pe_call H_look_at_sizes hr (by rfl) G_look_at_sizes.g G_look_at_sizes.F.kp G_look_at_sizes.b .nil pass0 (pa_cons (pv 2) pa_nil)))
      (pss_one (ps_fld (pv 0) (pe_make K_Memory H_Memory___init__ (hr.mono (by decide)) (by rfl) X.g_Memory b_Memory___init__ .nil pass0 (pa_cons (pv 1) (pa_cons (pv 2) pa_nil))) rfl)))), ?_⟩
    refine ⟨_, rfl, .ref aSh, sh, rfl, hv, hl, hr2, ?_⟩
    refine ⟨_, rfl, .ref aSz, c, rfl, hz, hc, ?_⟩
    refine ⟨_, rfl, _, rfl, fun m md nm nmd ne => ?_⟩
    have S1 : Same H (upd (upd H md (.own m)) m (.ins C_Memory md [])) := same_at nm (same_new nmd)
    refine ⟨m, md, aSh, aSz, c, sh, rfl, upd_same, hv.same (TupSame.of S1), hz.same (TupSame.of S1), hc, hl, hr2, fun a H2 hm e own k => ⟨rfl, ?_⟩⟩
    have ow : ∀ b ∈ a.own, H b = none := fun b hb => by
      rcases own b hb with z | z
      · rw [z]; exact nm
      · cases e : H b with
        | none => rfl
        | some o => rw [S1 _ _ e] at z; cases z
    have hm1 : hp ≠ m := ne_of_none hh nm
    have h2 : H2 hp = some (.ins C_Heap dx []) := k _ _ (by rw [List.mem_singleton]; exact hm1) (S1 _ _ hh)
    refine ⟨_, rfl, hp, C_Heap, dx, _, rfl, h2, X.cl_Heap, X.n_Heap_memory, by decide, ?_⟩
    have S2 : Same H H2 := fun b o e => k _ _ (by rw [List.mem_singleton]; exact ne_of_none e nm) (S1 _ _ e)
    refine q a _ ⟨⟨dx, by rw [← e]; exact upd_same⟩, hm.kept (l := [hp]) (kept_upd (by simp)) (fun b xs e => by rw [upd_ne (ne_of e h2 (by intro z; cases z))]; exact e) fun b hb z => ?_⟩ ow ((KeptL.of_same S2).trans (kept_upd (by simp)))
    rw [List.mem_singleton] at z
    have := ow b hb
    rw [z, hh] at this
    cases this
def spHmake (CH CM : Addr) : Sp := fun vs H Q _ => ∃ (h r : Addr) (k : Int) (n x : Nat) (rs : List Int) (a : Ma) (c : Sz) (sh : List (List Bool)) (s : Ms), vs = [.ref h, .int k, .int n, .ref r] ∧ HpAt CH CM H h a c sh s ∧ H r = some (.tup (rs.map V.int)) ∧ rs.length ≤ 40000 ∧ rootsIn s rs ∧
  -3 ≤ k ∧ k < sh.length ∧ sh.length ≤ 60 ∧ sizeOk sh k n ∧ n ≤ 1000 ∧ s.words.length ≤ 900000 ∧ s.old.length ≤ 900000 ∧ s.young.length ≤ 900000 ∧ s.words.length ∉ s.old ∧ s.nexts[0]? = some x ∧ x ∉ s.young ∧ c.1 + 1 ≤ s.words.length ∧ (c.2.2.1 < 2 + n ∨ x + (2 + n) ≤ c.1 + 1) ∧
  ∀ (b : Addr) (H' : Hp), HpAt CH CM H' h a c sh (mkS c s k n x).2 → KeptL a.own H H' → H b = none → H' b = some (.tup [.int ((mkS c s k n x).1 : Nat), .ref r]) → Q (.ref b) H'
theorem ok_hmake {f : Addr} {fd : FuncData} (G : Md K C_Heap "make" "Heap.make" s_Heap_make ["self", "kind", "slots", "roots"] f fd) (X : Lw K mg C_Moving C_Memory C_Heap) : FnOk P w K mg base CX0 5 f fd ["self", "kind", "slots", "roots"] (spHmake C_Heap C_Memory) := by
  obtain ⟨f_Memory_make, d_Memory_make, M_Memory_make⟩ := X.m_Memory_make
  have H_Memory_make : FnOk P w K mg base CX0 2 f_Memory_make d_Memory_make ["self", "kind", "slots"] (spMmake C_Memory) := ok_mmake M_Memory_make X
  obtain ⟨f_Heap_has_room, d_Heap_has_room, M_Heap_has_room⟩ := X.m_Heap_has_room
  have H_Heap_has_room : FnOk P w K mg base CX0 2 f_Heap_has_room d_Heap_has_room ["self", "slots"] (spHroom C_Heap C_Memory) := ok_hroom M_Heap_has_room X
  obtain ⟨f_Heap_look_at, d_Heap_look_at, M_Heap_look_at⟩ := X.m_Heap_look_at
  have H_Heap_look_at : FnOk P w K mg base CX0 4 f_Heap_look_at d_Heap_look_at ["self", "roots"] (spHla C_Heap C_Memory) := ok_hla M_Heap_look_at X
  obtain ⟨f_look_at_size, d_look_at_size, G_look_at_size⟩ := X.f_look_at_size
  have H_look_at_size : FnOk P w K mg base CX0 2 f_look_at_size d_look_at_size ["shapes", "kind", "slots"] (spLaz) := ok_laz G_look_at_size X
  obtain ⟨f_look_at_kind, d_look_at_kind, G_look_at_kind⟩ := X.f_look_at_kind
  have H_look_at_kind : FnOk P w K mg base CX0 3 f_look_at_kind d_look_at_kind ["shapes", "kind"] (spLak) := ok_lak G_look_at_kind X
  refine G.F.ok sc_Heap_make (fun vs H Q E h => ?_) (fun cdv A outer s H vs Q E hr h => ?_)
  · obtain ⟨hp, r, k, n, x, rs, a, c, sh, s, rfl, _⟩ := h; rfl
  · obtain ⟨hp, r, k, n, x, rs, a, c, sh, s, rfl, hh, hr0, hrl, hri, k1, k2, hsl, hsz, hn, w1, w2, w3, w4, hx, hxy, hfo, hw, q⟩ := h
    obtain ⟨dx, hd⟩ := hh.at_
    have hm := hh.mem
    refine ⟨_, (pss_cons (ps_expr (pe_call H_look_at_kind (hr.mono (by decide)) (by rfl) G_look_at_kind.g G_look_at_kind.F.kp G_look_at_kind.b .nil pass0 (pa_cons (pe_fld (pe_fld (pv 0) rfl) rfl) (pa_cons (pv 1) pa_nil))))
      (pss_cons (ps_expr (pe_call H_look_at_size (hr.mono (by decide)) (by rfl) G_look_at_size.g G_look_at_size.F.kp G_look_at_size.b .nil pass0 (pa_cons (pe_fld (pe_fld (pv 0) rfl) rfl) (pa_cons (pv 1) (pa_cons (pv 2) pa_nil)))))
      (pss_cons (ps_expr (pe_meth (pv 0) X.cl_Heap M_Heap_look_at.m H_Heap_look_at hr M_Heap_look_at.b .nil pass0 (pa_cons (pv 3) pa_nil)))
      (pss_cons (ps_if (pt_not (pt_val (pe_meth (pv 0) X.cl_Heap M_Heap_has_room.m H_Heap_has_room (hr.mono (by decide)) M_Heap_has_room.b .nil pass0 (pa_cons (pv 2) pa_nil))))
        pss_never pss_nil)
      (pss_one (ps_ret (pe_tup (pa_cons (pe_meth (pe_fld (pv 0) rfl) X.cl_Memory M_Memory_make.m H_Memory_make (hr.mono (by decide)) M_Memory_make.b .nil pass0 (pa_cons (pv 1) (pa_cons (pv 2) pa_nil))) (pa_cons (pv 3) pa_nil))))))))), ?_⟩
    refine ⟨_, rfl, hp, C_Heap, dx, HpF a, .ref a.m, rfl, hd, X.cl_Heap, X.n_Heap_memory, rfl, a.m, C_Memory, a.dx, MemF a c s, .ref a.aSh, rfl, hm.at_, X.cl_Memory, X.n_Memory_shapes, rfl, _, rfl, .ref a.aSh, k, sh, rfl, hm.shp, k1, k2, ?_⟩
    refine ⟨_, rfl, hp, C_Heap, dx, HpF a, .ref a.m, rfl, hd, X.cl_Heap, X.n_Heap_memory, rfl, a.m, C_Memory, a.dx, MemF a c s, .ref a.aSh, rfl, hm.at_, X.cl_Memory, X.n_Memory_shapes, rfl, _, rfl, _, rfl, .ref a.aSh, k, n, sh, rfl, hm.shp, hsz, ?_⟩
    refine ⟨_, rfl, hp, dx, HpF a, rfl, hd, hpF_no (by decide), _, rfl, hp, r, rs, a, c, sh, s, rfl, hh, hr0, hrl, hri, ?_⟩
    refine ⟨_, rfl, hp, dx, HpF a, rfl, hd, hpF_no (by decide), _, rfl, hp, n, x, a, c, sh, s, rfl, hh, hx, _, rfl, ?_⟩
    rw [show (decide (c.2.2.1 < 2 + n) || decide (x + (2 + n) ≤ c.1 + 1)) = true by rcases hw with z | z <;> simp [z]]
    refine iteF ?_
    refine ⟨_, rfl, hp, C_Heap, dx, HpF a, .ref a.m, rfl, hd, X.cl_Heap, X.n_Heap_memory, rfl, a.m, a.dx, MemF a c s, rfl, hm.at_, memF_no (by decide), _, rfl, _, rfl, ?_⟩
    have fin : ∀ (y : Nat) (s' : Ms) (H' : Hp), (mkS c s k n x) = (y, s') → MemAt C_Memory H' a c sh s' → KeptL a.own H H' → ∀ b, H' b = none → Q (.ref b) (upd H' b (.tup [.int (y : Int), .ref r])) := fun y s' H' e mH kH b nb => by
      have sb := same_new (o := .tup [.int (y : Int), .ref r]) nb
      have nH : H b = none := by
        cases e0 : H b with
        | none => rfl
        | some o =>
          by_cases hb : b ∈ a.own
          · obtain ⟨o', ho, _⟩ := mH.ownAt b hb
            rw [ho] at nb; cases nb
          · rw [kH _ _ hb e0] at nb; cases nb
      refine q b _ ⟨⟨dx, sb _ _ (kH _ _ hh.notown hd)⟩, ?_⟩ (kH.trans (KeptL.of_same sb)) nH ?_
      · rw [e]; exact mH.same sb
      · rw [e]; exact upd_same
    refine ⟨a, k, n, x, c, sh, s, rfl, hm, by omega, hn, w1, w2, w3, w4, ?_, fun hg H' mH kH => ?_, fun hg H' mH kH => ?_⟩
    · rcases hw with z | z
      · exact .inl z
      · exact .inr ⟨hx, by omega, hxy⟩
    · refine ⟨_, rfl, by show 2 ≤ _; decide, fun b nb => ?_⟩
      exact fin _ _ _ (by unfold mkS; rw [if_pos hg]) mH kH b nb
    · refine ⟨_, rfl, by show 2 ≤ _; decide, fun b nb => ?_⟩
      exact fin _ _ _ (by unfold mkS; rw [if_neg hg]) mH kH b nb
end
end PH

/-! A marking begun where nothing is made. -/
namespace PH
open PySem PySem.Spec PyProof.Rows L2 KA KI KK PV T ET
theorem dc_nil {K : PySem.W.Frag} {a D : Addr} {H1 : Hp} {g : TG} {tt : TT} {tk tv : TE} {vs : List Nat} {σ : L2.St} {Qd : Hp → Prop} (hl : SqL K (upd H1 D (.dK [])) a []) (q : Qd (upd H1 D (.dK []))) :
    ∃ W : Nat → Nat → Hp → Prop, (∃ m, W 0 m (upd H1 D (.dK []))) ∧ ∀ i m H, W i m H →
      ((Itl K a).stop i H ∧ Qd H) ∨ ((Itl K a).go i H ∧ ∃ Nx : Hp → Prop, (∀ H', Nx H' → ∃ m', m' < m ∧ W (i + 1) m' H') ∧ ∀ x H', (Itl K a).yld i H x H' → g x (wipe σ vs) H' fun σ2 H2 => wipe σ2 vs = wipe σ vs ∧ tt σ2 H2 fun b H3 =>
        if b = true then tk σ2 H3 fun y H4 => tv σ2 H4 fun z H5 => ∃ kvs k, y = kV k ∧ H5 D = some (.dK kvs) ∧ kvs.length < sizeLine ∧ Nx (upd H5 D (.dK (putK kvs k z))) else Nx H3) :=
  ⟨fun i m H => i = 0 ∧ H = upd H1 D (.dK []), ⟨0, rfl, rfl⟩, by rintro i m H ⟨rfl, rfl⟩; exact .inl ⟨⟨[], hl, Nat.le_refl _⟩, q⟩⟩
theorem MemAt.keep {CM : Addr} {H : Hp} {a : Ma} {c : Sz} {sh : List (List Bool)} {s : Ms} (h : MemAt CM H a c sh s) {i : HO} {b : Addr} {o : HO} (e : H b = some o) (ne : ∀ C d f, o ≠ .ins C d f) : upd H a.m i b = some o := by
  rw [upd_ne (by rintro rfl; rw [h.at_] at e; cases e; exact ne _ _ _ rfl)]
  exact e
theorem MemAt.fields {CM : Addr} {H : Hp} {a : Ma} {c : Sz} {sh : List (List Bool)} {s : Ms} (h : MemAt CM H a c sh s) (hf : Nat) (dn : Nat) (mk : Bool) : MemAt CM (upd H a.m (.ins CM a.dx (MemF a c { s with half := hf, done := dn, marks := mk }))) a c sh { s with half := hf, done := dn, marks := mk } := by
  obtain ⟨ls, hL, ll, he⟩ := h.links
  refine ⟨upd_same, h.shp.same (fun b xs e => h.keep e (by intro C d f z; cases z)), h.keep h.fi (by intro C d f z; cases z), ⟨ls, h.keep hL (by intro C d f z; cases z), ll, fun i r b e1 e2 => h.keep (he i r b e1 e2) (by intro C d f z; cases z)⟩, h.keep h.words (by intro C d f z; cases z), h.keep h.nexts (by intro C d f z; cases z), h.keep h.young (by intro C d f z; cases z), h.keep h.old (by intro C d f z; cases z), h.keep h.rem (by intro C d f z; cases z), h.keep h.grey (by intro C d f z; cases z), h.keep h.ended (by intro C d f z; cases z), h.nl, h.nd⟩
theorem MemAt.newY {CM : Addr} {H : Hp} {a : Ma} {c : Sz} {sh : List (List Bool)} {s : Ms} {D : Addr} (h0 : MemAt CM H a c sh s) (nD : H D = none) : MemAt CM (upd (upd H D (.dK [])) a.m (.ins CM a.dx (MemF { a with aY := D } c { s with young := [] }))) { a with aY := D } c sh { s with young := [] } := by
  have h := h0.same (same_new (o := .dK []) nD)
  obtain ⟨ls, hL, ll, he⟩ := h.links
  refine ⟨upd_same, h.shp.same (fun b xs e => h.keep e (by intro C d f z; cases z)), h.keep h.fi (by intro C d f z; cases z), ⟨ls, h.keep hL (by intro C d f z; cases z), ll, fun i r b e1 e2 => h.keep (he i r b e1 e2) (by intro C d f z; cases z)⟩, h.keep h.words (by intro C d f z; cases z), h.keep h.nexts (by intro C d f z; cases z), h.keep upd_same (by intro C d f z; cases z), h.keep h.old (by intro C d f z; cases z), h.keep h.rem (by intro C d f z; cases z), h.keep h.grey (by intro C d f z; cases z), h.keep h.ended (by intro C d f z; cases z), h.nl, ?_⟩
  have nd := h.nd
  simp only [List.nodup_cons, List.mem_cons, List.not_mem_nil, or_false, not_or, not_false_eq_true, List.nodup_nil, and_true] at nd ⊢
  exact ⟨⟨(ne_of_none h0.old nD).symm, (ne_of_none h0.rem nD).symm⟩, nd.2⟩
theorem MemAt.newR {CM : Addr} {H : Hp} {a : Ma} {c : Sz} {sh : List (List Bool)} {s : Ms} {D : Addr} (h0 : MemAt CM H a c sh s) (nD : H D = none) : MemAt CM (upd (upd H D (.dK [])) a.m (.ins CM a.dx (MemF { a with aR := D } c { s with rem := [] }))) { a with aR := D } c sh { s with rem := [] } := by
  have h := h0.same (same_new (o := .dK []) nD)
  obtain ⟨ls, hL, ll, he⟩ := h.links
  refine ⟨upd_same, h.shp.same (fun b xs e => h.keep e (by intro C d f z; cases z)), h.keep h.fi (by intro C d f z; cases z), ⟨ls, h.keep hL (by intro C d f z; cases z), ll, fun i r b e1 e2 => h.keep (he i r b e1 e2) (by intro C d f z; cases z)⟩, h.keep h.words (by intro C d f z; cases z), h.keep h.nexts (by intro C d f z; cases z), h.keep h.young (by intro C d f z; cases z), h.keep h.old (by intro C d f z; cases z), h.keep upd_same (by intro C d f z; cases z), h.keep h.grey (by intro C d f z; cases z), h.keep h.ended (by intro C d f z; cases z), h.nl, ?_⟩
  have nd := h.nd
  simp only [List.nodup_cons, List.mem_cons, List.not_mem_nil, or_false, not_or, not_false_eq_true, List.nodup_nil, and_true] at nd ⊢
  exact ⟨⟨nd.1.1, ne_of_none h0.young nD⟩, ne_of_none h0.old nD⟩
theorem MemAt.newG {CM : Addr} {H : Hp} {a : Ma} {c : Sz} {sh : List (List Bool)} {s : Ms} {D : Addr} (h0 : MemAt CM H a c sh s) (nD : H D = none) : MemAt CM (upd (upd H D (.lst [])) a.m (.ins CM a.dx (MemF { a with aG := D } c { s with grey := [] }))) { a with aG := D } c sh { s with grey := [] } := by
  have h := h0.same (same_new (o := .lst []) nD)
  obtain ⟨ls, hL, ll, he⟩ := h.links
  obtain ⟨ls0, hL0, _⟩ := h0.links
  refine ⟨upd_same, h.shp.same (fun b xs e => h.keep e (by intro C d f z; cases z)), h.keep h.fi (by intro C d f z; cases z), ⟨ls, h.keep hL (by intro C d f z; cases z), ll, fun i r b e1 e2 => h.keep (he i r b e1 e2) (by intro C d f z; cases z)⟩, h.keep h.words (by intro C d f z; cases z), h.keep h.nexts (by intro C d f z; cases z), h.keep h.young (by intro C d f z; cases z), h.keep h.old (by intro C d f z; cases z), h.keep h.rem (by intro C d f z; cases z), h.keep upd_same (by intro C d f z; cases z), h.keep h.ended (by intro C d f z; cases z), ?_, h.nd⟩
  have nl := h.nl
  simp only [List.nodup_cons, List.mem_cons, List.not_mem_nil, or_false, not_or, not_false_eq_true, List.nodup_nil, and_true] at nl ⊢
  exact ⟨⟨nl.1.1, nl.1.2.1, ne_of_none hL0 nD, nl.1.2.2.2⟩, ⟨nl.2.1.1, ne_of_none h0.words nD, nl.2.1.2.2⟩, ⟨ne_of_none h0.nexts nD, nl.2.2.1.2⟩, (ne_of_none h0.ended nD).symm⟩
abbrev VF (am : Addr) (st : Bool) (hf : Nat) (aMo aH aO : Addr) : List (Str × V) := [("memory", .ref am), ("is_settling", .bl st), ("half", .int hf), ("moved", .ref aMo), ("to_half", .ref aH), ("to_old", .ref aO)]
theorem natI_set (l : List Nat) (r x : Nat) : (natI l).set r (V.int (x : Int)) = natI (l.set r x) := by
  unfold natI
  rw [List.map_set]
def spNo : Sp := fun _ _ _ _ => False
section
variable {P : Program} {w : World} {K : PySem.W.Frag} {mg : Str → Option Value} {base : Heap} {C_Moving C_Memory C_Heap : Addr}
theorem ok_led {f : Addr} {fd : FuncData} (G : Md K C_Moving "led" "Moving.led" s_Moving_led ["self", "reference"] f fd) (X : Lw K mg C_Moving C_Memory C_Heap) : FnOk P w K mg base CX0 1 f fd ["self", "reference"] (spNo) := by
  exact ⟨fun _ _ _ _ h => h.elim, fun _ _ _ _ _ _ _ _ _ _ _ _ _ h => h.elim⟩
theorem ok_lsl {f : Addr} {fd : FuncData} (G : Md K C_Moving "lead_slots" "Moving.lead_slots" s_Moving_lead_slots ["self", "address"] f fd) (X : Lw K mg C_Moving C_Memory C_Heap) : FnOk P w K mg base CX0 1 f fd ["self", "address"] (spNo) := by
  exact ⟨fun _ _ _ _ h => h.elim, fun _ _ _ _ _ _ _ _ _ _ _ _ _ h => h.elim⟩
theorem ok_mlp {f : Addr} {fd : FuncData} (G : Md K C_Memory "link_places" "Memory.link_places" s_Memory_link_places ["self", "address"] f fd) (X : Lw K mg C_Moving C_Memory C_Heap) : FnOk P w K mg base CX0 1 f fd ["self", "address"] (spNo) := by
  exact ⟨fun _ _ _ _ h => h.elim, fun _ _ _ _ _ _ _ _ _ _ _ _ _ h => h.elim⟩
theorem ok_msh {f : Addr} {fd : FuncData} (G : Md K C_Memory "shade" "Memory.shade" s_Memory_shade ["self", "reference"] f fd) (X : Lw K mg C_Moving C_Memory C_Heap) : FnOk P w K mg base CX0 1 f fd ["self", "reference"] (spNo) := by
  exact ⟨fun _ _ _ _ h => h.elim, fun _ _ _ _ _ _ _ _ _ _ _ _ _ h => h.elim⟩
def spVinit (CV CM : Addr) : Sp := fun vs H Q _ => ∃ (v dx : Addr) (st : Bool) (a : Ma) (c : Sz) (sh : List (List Bool)) (s : Ms), vs = [.ref v, .ref a.m, .bl st] ∧ H v = some (.ins CV dx []) ∧ MemAt CM H a c sh s ∧ s.half < 2 ∧
  ∀ (aMo aH aO : Addr) (H' : Hp), H' v = some (.ins CV dx (VF a.m st (1 - s.half) aMo aH aO)) → H' aMo = some (.dK []) → H' aH = some (.lst []) → H' aO = some (.lst []) → aH ≠ aO → H aMo = none → H aH = none → H aO = none → KeptL [v] H H' → Q .non H'
theorem ok_vinit {f : Addr} {fd : FuncData} (F : Fun K "__init__" "Moving.__init__" s_Moving_init f fd) (X : Lw K mg C_Moving C_Memory C_Heap) : FnOk P w K mg base CX0 1 f fd ["self", "memory", "is_settling"] (spVinit C_Moving C_Memory) := by

  refine F.ok sc_Moving_init (fun vs H Q E h => ?_) (fun cdv A outer s H vs Q E hr h => ?_)
  · obtain ⟨v, dx, st, a, c, sh, s, rfl, _⟩ := h; rfl
  · obtain ⟨v, dx, st, a, c, sh, s, rfl, hv, hm, hs2, q⟩ := h
    refine ⟨_, (pss_cons (ps_fld (pv 0) (pv 1) rfl)
      (pss_cons (ps_fld (pv 0) (pv 2) rfl)
      (pss_cons (ps_fld (pv 0) (pe_op op_sub pe_int (pe_fld (pv 1) rfl)) rfl)
      (pss_cons (ps_fld (pv 0) pe_dnewK rfl)
      (pss_cons (ps_fld (pv 0) (pe_lst pa_nil) rfl)
      (pss_one (ps_fld (pv 0) (pe_lst pa_nil) rfl))))))), ?_⟩
    have P0 := hv
    have eh : (1 : Int) - (s.half : Int) = ((1 - s.half : Nat) : Int) := by omega
    obtain ⟨H1, g1⟩ : ∃ G : Hp, G = upd H v (.ins C_Moving dx [("memory", .ref a.m)]) := ⟨_, rfl⟩
    refine ⟨_, rfl, _, rfl, v, C_Moving, dx, _, rfl, P0, X.cl_Moving, X.n_Moving_memory, by decide, ?_⟩
    refine at_nx g1 ?_
    have P1 : H1 v = some (.ins C_Moving dx [("memory", .ref a.m)]) := by rw [g1]; exact upd_same
    have k1 : KeptL [v] H H1 := by rw [g1]; exact kept_upd (by simp)
    have K1 := k1
    obtain ⟨H2, g2⟩ : ∃ G : Hp, G = upd H1 v (.ins C_Moving dx [("memory", .ref a.m), ("is_settling", .bl st)]) := ⟨_, rfl⟩
    refine ⟨_, rfl, _, rfl, v, C_Moving, dx, _, rfl, P1, X.cl_Moving, X.n_Moving_is_settling, by show 1 < _; decide, ?_⟩
    refine at_nx g2 ?_
    have P2 : H2 v = some (.ins C_Moving dx [("memory", .ref a.m), ("is_settling", .bl st)]) := by rw [g2]; exact upd_same
    have k2 : KeptL [v] H1 H2 := by rw [g2]; exact kept_upd (by simp)
    have K2 := K1.trans k2
    have vm : a.m ≠ v := fun z => by have := hm.at_; rw [z, hv] at this; cases this
    obtain ⟨H3, g3⟩ : ∃ G : Hp, G = upd H2 v (.ins C_Moving dx [("memory", .ref a.m), ("is_settling", .bl st), ("half", .int (1 - (s.half : Int)))]) := ⟨_, rfl⟩
    refine ⟨_, rfl, a.m, C_Memory, a.dx, MemF a c s, .int s.half, rfl, K2 _ _ (by rw [List.mem_singleton]; exact vm) hm.at_, X.cl_Memory, X.n_Memory_half, rfl, _, _, rfl, rfl, _, rfl, v, C_Moving, dx, _, rfl, P2, X.cl_Moving, X.n_Moving_half, by show 2 < _; decide, ?_⟩
    refine at_nx g3 ?_
    have P3 : H3 v = some (.ins C_Moving dx [("memory", .ref a.m), ("is_settling", .bl st), ("half", .int (1 - (s.half : Int)))]) := by rw [g3]; exact upd_same
    rw [eh] at P3
    have k3 : KeptL [v] H2 H3 := by rw [g3]; exact kept_upd (by simp)
    have K3 := K2.trans k3
    refine fun aMo naMo => ?_
    have eaMo : v ≠ aMo := ne_of_none P3 naMo
    obtain ⟨H4, g4⟩ : ∃ G : Hp, G = upd (upd H3 aMo (.dK [])) v (.ins C_Moving dx [("memory", .ref a.m), ("is_settling", .bl st), ("half", .int ((1 - s.half : Nat) : Int)), ("moved", .ref aMo)]) := ⟨_, rfl⟩
    refine ⟨_, rfl, v, C_Moving, dx, _, rfl, (by rw [upd_ne eaMo]; exact P3), X.cl_Moving, X.n_Moving_moved, by show 3 < _; decide, ?_⟩
    refine at_nx g4 ?_
    have P4 : H4 v = some (.ins C_Moving dx [("memory", .ref a.m), ("is_settling", .bl st), ("half", .int ((1 - s.half : Nat) : Int)), ("moved", .ref aMo)]) := by rw [g4]; exact upd_same
    have k4 : KeptL [v] H3 H4 := by rw [g4]; exact (KeptL.of_same (same_new naMo)).trans (kept_upd (by simp))
    have faMo : H4 aMo = some (.dK []) := by rw [g4, upd_ne eaMo.symm]; exact upd_same
    have K4 := K3.trans k4
    refine ⟨by show 0 ≤ sizeLine; decide, fun aH naH => ?_⟩
    have eaH : v ≠ aH := ne_of_none P4 naH
    obtain ⟨H5, g5⟩ : ∃ G : Hp, G = upd (upd H4 aH (.lst [])) v (.ins C_Moving dx [("memory", .ref a.m), ("is_settling", .bl st), ("half", .int ((1 - s.half : Nat) : Int)), ("moved", .ref aMo), ("to_half", .ref aH)]) := ⟨_, rfl⟩
    refine ⟨_, rfl, v, C_Moving, dx, _, rfl, (by rw [upd_ne eaH]; exact P4), X.cl_Moving, X.n_Moving_to_half, by show 4 < _; decide, ?_⟩
    refine at_nx g5 ?_
    have P5 : H5 v = some (.ins C_Moving dx [("memory", .ref a.m), ("is_settling", .bl st), ("half", .int ((1 - s.half : Nat) : Int)), ("moved", .ref aMo), ("to_half", .ref aH)]) := by rw [g5]; exact upd_same
    have k5 : KeptL [v] H4 H5 := by rw [g5]; exact (KeptL.of_same (same_new naH)).trans (kept_upd (by simp))
    have faH : H5 aH = some (.lst []) := by rw [g5, upd_ne eaH.symm]; exact upd_same
    have K5 := K4.trans k5
    refine ⟨by show 0 ≤ sizeLine; decide, fun aO naO => ?_⟩
    have eaO : v ≠ aO := ne_of_none P5 naO
    obtain ⟨H6, g6⟩ : ∃ G : Hp, G = upd (upd H5 aO (.lst [])) v (.ins C_Moving dx [("memory", .ref a.m), ("is_settling", .bl st), ("half", .int ((1 - s.half : Nat) : Int)), ("moved", .ref aMo), ("to_half", .ref aH), ("to_old", .ref aO)]) := ⟨_, rfl⟩
    refine ⟨_, rfl, v, C_Moving, dx, _, rfl, (by rw [upd_ne eaO]; exact P5), X.cl_Moving, X.n_Moving_to_old, by show 5 < _; decide, ?_⟩
    refine at_nx g6 ?_
    have P6 : H6 v = some (.ins C_Moving dx [("memory", .ref a.m), ("is_settling", .bl st), ("half", .int ((1 - s.half : Nat) : Int)), ("moved", .ref aMo), ("to_half", .ref aH), ("to_old", .ref aO)]) := by rw [g6]; exact upd_same
    have k6 : KeptL [v] H5 H6 := by rw [g6]; exact (KeptL.of_same (same_new naO)).trans (kept_upd (by simp))
    have faO : H6 aO = some (.lst []) := by rw [g6, upd_ne eaO.symm]; exact upd_same
    have K6 := K5.trans k6
    have fr : ∀ {x : Addr} {G : Hp}, KeptL [v] H G → v ≠ x → G x = none → H x = none := fun kk ne n => (kept_none kk n).resolve_left ne.symm
    refine q aMo aH aO H6 P6 ((k5.trans k6) _ _ (by rw [List.mem_singleton]; exact eaMo.symm) faMo) (k6 _ _ (by rw [List.mem_singleton]; exact eaH.symm) faH) faO (ne_of_none faH naO) (fr K3 eaMo naMo) (fr K4 eaH naH) (fr K5 eaO naO) K6
def spVlm (CV : Addr) : Sp := fun vs H Q _ => ∃ (v dx am aMo aH aO : Addr) (st : Bool) (hf : Nat), vs = [.ref v] ∧ H v = some (.ins CV dx (VF am st hf aMo aH aO)) ∧ H aH = some (.lst []) ∧ H aO = some (.lst []) ∧ Q .non H
theorem ok_vlm {f : Addr} {fd : FuncData} (G : Md K C_Moving "lead_moved" "Moving.lead_moved" s_Moving_lead_moved ["self"] f fd) (X : Lw K mg C_Moving C_Memory C_Heap) : FnOk P w K mg base CX0 2 f fd ["self"] (spVlm C_Moving) := by
  obtain ⟨f_Moving_lead_slots, d_Moving_lead_slots, M_Moving_lead_slots⟩ := X.m_Moving_lead_slots
  have H_Moving_lead_slots : FnOk P w K mg base CX0 1 f_Moving_lead_slots d_Moving_lead_slots ["self", "address"] (spNo) := ok_lsl M_Moving_lead_slots X
  refine G.F.ok sc_Moving_lead_moved (fun vs H Q E h => ?_) (fun cdv A outer s H vs Q E hr h => ?_)
  · obtain ⟨v, dx, am, aMo, aH, aO, st, hf, rfl, _⟩ := h; rfl
  · obtain ⟨v, dx, am, aMo, aH, aO, st, hf, rfl, hv, hH, hO, q⟩ := h
    refine ⟨_, (pss_cons (ps_set (i := 1) sc_Moving_lead_moved.nd rfl (Or.inl rfl) pe_int)
      (pss_cons (ps_set (i := 2) sc_Moving_lead_moved.nd rfl (Or.inl rfl) pe_int)
      (pss_one (ps_while PassesOwn.never (PW.pt (pw_or (pt_cmpR op_lt (pv 1) (pe_callB call_len (by rfl) X.b_len PySem.boot_len (pa_cons (pe_fld (pv 0) rfl) pa_nil)) (nomark _)) (pw_or1 (pt_cmpR op_lt (pv 2) (pe_callB call_len (by rfl) X.b_len PySem.boot_len (pa_cons (pe_fld (pv 0) rfl) pa_nil)) (nomark _)))))
        (pss_one (ps_if (pt_cmpR op_lt (pv 1) (pe_callB call_len (by rfl) X.b_len PySem.boot_len (pa_cons (pe_fld (pv 0) rfl) pa_nil)) (nomark _))
        (pss_cons (ps_expr (pe_meth (pv 0) X.cl_Moving M_Moving_lead_slots.m H_Moving_lead_slots hr M_Moving_lead_slots.b .nil pass0 (pa_cons (pe_ix ix_list (pe_fld (pv 0) rfl) (pv 1) (fun _ _ => rfl)) pa_nil)))
      (pss_one (ps_aug (i := 1) sc_Moving_lead_moved.nd rfl (Or.inl rfl) pe_int ip_add))) (pss_cons (ps_expr (pe_meth (pv 0) X.cl_Moving M_Moving_lead_slots.m H_Moving_lead_slots hr M_Moving_lead_slots.b .nil pass0 (pa_cons (pe_ix ix_list (pe_fld (pv 0) rfl) (pv 2) (fun _ _ => rfl)) pa_nil)))
      (pss_one (ps_aug (i := 2) sc_Moving_lead_moved.nd rfl (Or.inl rfl) pe_int ip_add))))))))), ?_⟩
    refine ⟨fun _ σ H' => H' = H ∧ σ = [some (.ref v), some (.int 0), some (.int 0)], ⟨0, rfl, rfl⟩, ?_⟩
    rintro m σ H' ⟨rfl, rfl⟩
    refine ⟨_, rfl, _, rfl, v, C_Moving, dx, VF am st hf aMo aH aO, .ref aH, rfl, hv, X.cl_Moving, X.n_Moving_to_half, rfl, _, _, rfl, .inl ⟨_, SqL.of hH, rfl⟩, _, _, rfl, rfl, false, rfl, iteF ?_⟩
    refine ⟨_, rfl, _, rfl, v, C_Moving, dx, VF am st hf aMo aH aO, .ref aO, rfl, hv, X.cl_Moving, X.n_Moving_to_old, rfl, _, _, rfl, .inl ⟨_, SqL.of hO, rfl⟩, _, _, rfl, rfl, false, rfl, ?_⟩
    exact q
def spVfin (CV CM : Addr) : Sp := fun vs H Q _ => ∃ (v dx aMo aH aO : Addr) (st : Bool) (hf : Nat) (a : Ma) (c : Sz) (sh : List (List Bool)) (s : Ms), vs = [.ref v] ∧ H v = some (.ins CV dx (VF a.m st hf aMo aH aO)) ∧ H aH = some (.lst []) ∧ H aO = some (.lst []) ∧ aH ∉ a.own ∧ aO ∉ a.own ∧ v ∉ a.own ∧ MemAt CM H a c sh s ∧ s.half < 2 ∧ s.rem = [] ∧ s.nexts.length = 3 ∧
  ∀ (a' : Ma) (H' : Hp), a'.m = a.m → MemAt CM H' a' c sh { s with half := hf, young := [], nexts := (s.nexts.set 0 1).set (1 + s.half) (c.firsts.getD (1 + s.half) 0) } → KeptL a.own H H' → (∀ b ∈ a'.own, b ∈ a.own ∨ H b = none) → Q .non H'
theorem ok_vfin {f : Addr} {fd : FuncData} (G : Md K C_Moving "finish" "Moving.finish" s_Moving_finish ["self"] f fd) (X : Lw K mg C_Moving C_Memory C_Heap) : FnOk P w K mg base CX0 2 f fd ["self"] (spVfin C_Moving C_Memory) := by
  obtain ⟨f_Memory_is_young, d_Memory_is_young, M_Memory_is_young⟩ := X.m_Memory_is_young
  have H_Memory_is_young : FnOk P w K mg base CX0 1 f_Memory_is_young d_Memory_is_young ["self", "reference"] (spMisy C_Memory) := ok_misy M_Memory_is_young X
  obtain ⟨f_Memory_link_places, d_Memory_link_places, M_Memory_link_places⟩ := X.m_Memory_link_places
  have H_Memory_link_places : FnOk P w K mg base CX0 1 f_Memory_link_places d_Memory_link_places ["self", "address"] (spNo) := ok_mlp M_Memory_link_places X
  refine G.F.ok sc_Moving_finish (fun vs H Q E h => ?_) (fun cdv A outer s H vs Q E hr h => ?_)
  · obtain ⟨v, dx, aMo, aH, aO, st, hf0, a, c, sh, s, rfl, _⟩ := h; rfl
  · obtain ⟨v, dx, aMo, aH, aO, st, hf0, a, c, sh, s, rfl, hv, hH, hO, oH, oO, ov, hm, hs2, hrem, hnl, q⟩ := h
    refine ⟨_, (pss_cons (ps_set (i := 1) sc_Moving_finish.nd rfl (Or.inr rfl) (pe_fld (pv 0) rfl))
      (pss_cons (ps_fld (pv 1) (pe_dc (own := [("address", 2)]) (g := (gName 2)) (tt := tYes) rfl sc_Moving_finish.nd (pi_list (pe_fld (pv 0) rfl)) (blkOk_by (own := [("address", 2)]) (N := ["self", "memory", "address", "places", "place"]) (sc := defScope s_Moving_finish) (by decide +kernel)) (fun _ _ _ _ _ => (pg_name (i := 2) sc_Moving_finish.nd rfl (Or.inl rfl))) (fun _ _ _ _ _ => pts_nil) (fun _ _ _ _ _ => (pv 2)) (fun _ _ _ _ _ => pe_bl)) rfl)
      (pss_cons (ps_asg (pe_ix ix_tup (pe_fld (pv 1) rfl) pe_int (fun _ _ => rfl)) (pg_sub (pe_fld (pv 1) rfl) pe_int set_list))
      (pss_cons (ps_asg (pe_ix ix_tup (pe_fld (pv 1) rfl) (pe_op op_add pe_int (pe_fld (pv 1) rfl)) (fun _ _ => rfl)) (pg_sub (pe_fld (pv 1) rfl) (pe_op op_add pe_int (pe_fld (pv 1) rfl)) set_list))
      (pss_cons (ps_fld (pv 1) (pe_fld (pv 0) rfl) rfl)
      (pss_cons (ps_set (i := 3) sc_Moving_finish.nd rfl (Or.inl rfl) (pe_callTy (call_list_dK rfl) (by rfl) X.b_list (by decide +kernel) (pa_cons (pe_fld (pv 1) rfl) pa_nil)))
      (pss_cons (ps_for PassesOwn.never rfl (pi_list (pe_fld (pv 0) rfl)) (pg_name (i := 2) sc_Moving_finish.nd rfl (Or.inl rfl))
        (pss_one (ps_expr (pe_bm PySem.F.plainAttrs_list PySem.F.slot_list_extend PySem.F.type_list_extend mt_extend (pv 3) (pa_cons (pe_meth (pv 1) X.cl_Memory M_Memory_link_places.m H_Memory_link_places hr M_Memory_link_places.b .nil pass0 (pa_cons (pv 2) pa_nil)) pa_nil)))))
      (pss_one (ps_fld (pv 1) (pe_dc (own := [("place", 4)]) (g := (gName 4)) (tt := tB (tMeth C_Memory "is_young" (spMisy C_Memory) [] E0 (tVar 1) (tCons (tOp (rIxL K) (tFld K (tVar 1) "words") (tVar 4)) tNil))) rfl sc_Moving_finish.nd (pi_list (pv 3)) (blkOk_by (own := [("place", 4)]) (N := ["self", "memory", "address", "places", "place"]) (sc := defScope s_Moving_finish) (by decide +kernel)) (fun _ _ _ _ _ => (pg_name (i := 4) sc_Moving_finish.nd rfl (Or.inl rfl))) (fun _ _ _ _ _ => (pts_one (pt_val (pe_meth (pv 1) X.cl_Memory M_Memory_is_young.m H_Memory_is_young hr M_Memory_is_young.b .nil pass0 (pa_cons (pe_ix ix_list (pe_fld (pv 1) rfl) (pv 4) (fun _ _ => rfl)) pa_nil))))) (fun _ _ _ _ _ => (pv 4)) (fun _ _ _ _ _ => pe_bl)) rfl))))))))), ?_⟩
    refine ⟨_, rfl, v, C_Moving, dx, VF a.m st hf0 aMo aH aO, .ref a.m, rfl, hv, X.cl_Moving, X.n_Moving_memory, rfl, ?_⟩
    have kH : ∀ {i : HO} {b : Addr} {o : HO}, H b = some o → b ≠ a.m → upd H a.m i b = some o := fun e n => by rw [upd_ne n]; exact e
    have mo : a.m ∈ a.own := by simp [Ma.own]
    have hmv : v ≠ a.m := fun z => ov (z ▸ mo)
    have hmH : aH ≠ a.m := fun z => oH (z ▸ mo)
    have hmO : aO ≠ a.m := fun z => oO (z ▸ mo)
    -- memory.young
    refine ⟨_, rfl, v, C_Moving, dx, VF a.m st hf0 aMo aH aO, .ref aH, rfl, hv, X.cl_Moving, X.n_Moving_to_half, rfl, aH, rfl, ⟨_, SqL.of hH⟩, fun D nD => dc_nil (SqL.of (same_new nD _ _ hH)) ?_⟩
    have m1 := hm.newY nD
    obtain ⟨H1, g1⟩ : ∃ G : Hp, G = upd (upd H D (.dK [])) a.m (.ins C_Memory a.dx (MemF { a with aY := D } c { s with young := [] })) := ⟨_, rfl⟩
    rw [← g1] at m1
    have sD := same_new (o := .dK []) nD
    refine ⟨_, rfl, a.m, C_Memory, a.dx, MemF a c s, rfl, sD _ _ hm.at_, X.cl_Memory, X.n_Memory_young, by show 17 < _; decide, ?_⟩
    refine at_nx g1 ?_
    have K1 : KeptL a.own H H1 := by rw [g1]; exact (KeptL.of_same sD).trans (kept_upd mo)
    -- nexts[0]
    have m2 := m1.setN (s.nexts.set 0 1)
    obtain ⟨H2, g2⟩ : ∃ G : Hp, G = upd H1 a.aN (.lst (natI (s.nexts.set 0 1))) := ⟨_, rfl⟩
    rw [← g2] at m2
    refine ⟨_, rfl, a.m, C_Memory, a.dx, MemF { a with aY := D } c { s with young := [] }, .ref a.aFi, rfl, m1.at_, X.cl_Memory, X.n_Memory_firsts, rfl, a.aFi, _, 0, .int ((1 : Nat) : Int), rfl, rfl, SqT.of m1.fi, rfl, ?_⟩
    refine ⟨_, rfl, a.m, C_Memory, a.dx, MemF { a with aY := D } c { s with young := [] }, .ref a.aN, rfl, m1.at_, X.cl_Memory, X.n_Memory_nexts, rfl, a.aN, _, 0, 0, rfl, rfl, m1.nexts, ?_, ?_⟩
    · unfold ixN natI
      rw [List.length_map, if_pos (by omega), if_pos (by show (0 : Int) < (s.nexts.length : Int); omega)]
      rfl
    refine at_nx (g2.trans (congrArg (fun z => upd H1 a.aN (.lst z)) (natI_set _ _ _).symm)) ?_
    have K2 : KeptL a.own H H2 := by rw [g2]; exact K1.trans (kept_upd (by simp [Ma.own]))
    -- nexts[1 + half]
    have hf : c.firsts[1 + s.half]? = some (c.firsts.getD (1 + s.half) 0) := by
      rw [List.getD_eq_getElem?_getD, List.getElem?_eq_getElem (by show 1 + s.half < 3; omega)]
      rfl
    have m3 := m2.setN ((s.nexts.set 0 1).set (1 + s.half) (c.firsts.getD (1 + s.half) 0))
    obtain ⟨H3, g3⟩ : ∃ G : Hp, G = upd H2 a.aN (.lst (natI ((s.nexts.set 0 1).set (1 + s.half) (c.firsts.getD (1 + s.half) 0)))) := ⟨_, rfl⟩
    rw [← g3] at m3
    refine ⟨_, rfl, a.m, C_Memory, a.dx, MemF { a with aY := D } c { s with young := [], nexts := s.nexts.set 0 1 }, .ref a.aFi, rfl, m2.at_, X.cl_Memory, X.n_Memory_firsts, rfl, _, rfl, a.m, C_Memory, a.dx, MemF { a with aY := D } c { s with young := [], nexts := s.nexts.set 0 1 }, .int s.half, rfl, m2.at_, X.cl_Memory, X.n_Memory_half, rfl, _, _, rfl, rfl, a.aFi, _, ((1 + s.half : Nat) : Int), .int ((c.firsts.getD (1 + s.half) 0 : Nat) : Int), rfl, rfl, SqT.of m2.fi, atI_nat (by unfold natI; rw [List.getElem?_map, hf]; rfl), ?_⟩
    refine ⟨_, rfl, a.m, C_Memory, a.dx, MemF { a with aY := D } c { s with young := [], nexts := s.nexts.set 0 1 }, .ref a.aN, rfl, m2.at_, X.cl_Memory, X.n_Memory_nexts, rfl, _, rfl, a.m, C_Memory, a.dx, MemF { a with aY := D } c { s with young := [], nexts := s.nexts.set 0 1 }, .int s.half, rfl, m2.at_, X.cl_Memory, X.n_Memory_half, rfl, _, _, rfl, rfl, a.aN, _, ((1 + s.half : Nat) : Int), 1 + s.half, rfl, rfl, m2.nexts, ?_, ?_⟩
    · unfold ixN natI
      rw [List.length_map, if_pos (by omega), if_pos (by
        show ((1 + s.half : Nat) : Int) < ((s.nexts.set 0 1).length : Int)
        rw [List.length_set]
        omega)]
      rfl
    refine at_nx (g3.trans (congrArg (fun z => upd H2 a.aN (.lst z)) (natI_set _ _ _).symm)) ?_
    have K3 : KeptL a.own H H3 := by rw [g3]; exact K2.trans (kept_upd (by simp [Ma.own]))
    -- half
    have m4 := m3.fields hf0 s.done s.marks
    obtain ⟨H4, g4⟩ : ∃ G : Hp, G = upd H3 a.m (.ins C_Memory a.dx (MemF { a with aY := D } c { s with half := hf0, young := [], nexts := (s.nexts.set 0 1).set (1 + s.half) (c.firsts.getD (1 + s.half) 0) })) := ⟨_, rfl⟩
    refine ⟨_, rfl, v, C_Moving, dx, VF a.m st hf0 aMo aH aO, .int hf0, rfl, K3 _ _ ov hv, X.cl_Moving, X.n_Moving_half, rfl, _, rfl, a.m, C_Memory, a.dx, MemF { a with aY := D } c { s with young := [], nexts := (s.nexts.set 0 1).set (1 + s.half) (c.firsts.getD (1 + s.half) 0) }, rfl, m3.at_, X.cl_Memory, X.n_Memory_half, by show 17 < _; decide, ?_⟩
    refine at_nx g4 ?_
    have m4 : MemAt C_Memory H4 { a with aY := D } c sh { s with half := hf0, young := [], nexts := (s.nexts.set 0 1).set (1 + s.half) (c.firsts.getD (1 + s.half) 0) } := by rw [g4]; exact m4
    have K4 : KeptL a.own H H4 := by rw [g4]; exact K3.trans (kept_upd mo)
    -- places
    refine ⟨_, rfl, a.m, C_Memory, a.dx, MemF { a with aY := D } c { s with half := hf0, young := [], nexts := (s.nexts.set 0 1).set (1 + s.half) (c.firsts.getD (1 + s.half) 0) }, .ref a.aR, rfl, m4.at_, X.cl_Memory, X.n_Memory_remembered, rfl, a.aR, _, rfl, m4.rem, fun pl npl => ?_⟩
    obtain ⟨H5, g5⟩ : ∃ G : Hp, G = upd H4 pl (.lst []) := ⟨_, rfl⟩
    refine at_nx (g5.trans (by rw [hrem]; rfl)) ?_
    have s5 : Same H4 H5 := by rw [g5]; exact same_new npl
    have m5 := m4.same s5
    have K5 : KeptL a.own H H5 := K4.trans (KeptL.of_same s5)
    have fpl : H5 pl = some (.lst []) := by rw [g5]; exact upd_same
    have hO5 := K5 _ _ oO hO
    refine ⟨_, rfl, v, C_Moving, dx, VF a.m st hf0 aMo aH aO, .ref aO, rfl, K5 _ _ ov hv, X.cl_Moving, X.n_Moving_to_old, rfl, aO, rfl, ⟨_, SqL.of hO5⟩, for_list (xs := []) (fun _ σ H' => H' = H5 ∧ σ = [some (.ref v), some (.ref a.m), none, some (.ref pl), none]) ⟨rfl, rfl⟩ ?_ ?_ ?_⟩
    · rintro _ _ _ _ ⟨rfl, _⟩
      exact SqL.of hO5
    · intro i x σ H' e
      simp at e
    rintro σ H' ⟨rfl, rfl⟩
    -- remembered
    refine ⟨_, rfl, pl, rfl, ⟨_, SqL.of fpl⟩, fun D2 nD2 => dc_nil (SqL.of (same_new nD2 _ _ fpl)) ?_⟩
    have m6 := m5.newR nD2
    have s6 := same_new (o := .dK []) nD2
    refine ⟨_, rfl, a.m, C_Memory, a.dx, MemF { a with aY := D } c { s with half := hf0, young := [], nexts := (s.nexts.set 0 1).set (1 + s.half) (c.firsts.getD (1 + s.half) 0) }, rfl, s6 _ _ m5.at_, X.cl_Memory, X.n_Memory_remembered, by show 17 < _; decide, ?_⟩
    have es : ({ s with half := hf0, young := [], nexts := (s.nexts.set 0 1).set (1 + s.half) (c.firsts.getD (1 + s.half) 0), rem := [] } : Ms) = { s with half := hf0, young := [], nexts := (s.nexts.set 0 1).set (1 + s.half) (c.firsts.getD (1 + s.half) 0) } := by rw [← hrem]
    refine q { a with aY := D, aR := D2 } _ rfl (by rw [← es]; exact m6) (K5.trans ((KeptL.of_same s6).trans (kept_upd mo))) fun b hb => ?_
    by_cases hba : b ∈ a.own
    · exact .inl hba
    · refine .inr ?_
      have hb : b ∈ [a.m, a.aL, a.aW, a.aN, D, a.aO, D2, a.aG, a.aE] := hb
      have hba' : b ∉ [a.m, a.aL, a.aW, a.aN, a.aY, a.aO, a.aR, a.aG, a.aE] := hba
      simp only [List.mem_cons, List.not_mem_nil, or_false, not_or] at hb hba'
      rcases hb with e | e | e | e | e | e | e | e | e
      · exact absurd e hba'.1
      · exact absurd e hba'.2.1
      · exact absurd e hba'.2.2.1
      · exact absurd e hba'.2.2.2.1
      · rw [e]; exact nD
      · exact absurd e hba'.2.2.2.2.2.1
      · cases h : H b with
        | none => rfl
        | some o =>
          have := K5 _ _ hba h
          rw [e] at this
          rw [this] at nD2
          cases nD2
      · exact absurd e hba'.2.2.2.2.2.2.2.1
      · exact absurd e hba'.2.2.2.2.2.2.2.2
end
end PH

/-! A marking begun where nothing is made. -/
namespace PH
open PySem PySem.Spec PyProof.Rows L2 KA KI KK PV T ET
def movedS (c : Sz) (s : Ms) : Ms := { s with half := 1 - s.half, young := [], nexts := (s.nexts.set 0 1).set (1 + s.half) (c.firsts.getD (1 + s.half) 0) }
theorem vF_no {am aMo aH aO : Addr} {st : Bool} {hf : Nat} {m : Str} (h : m ∉ (["memory", "is_settling", "half", "moved", "to_half", "to_old"] : List Str)) : (VF am st hf aMo aH aO).lookup m = none := by
  simp only [List.mem_cons, List.not_mem_nil, or_false, not_or] at h
  have e : ∀ {x : Str}, ¬ m = x → (m == x) = false := fun h => by simpa using h
  simp only [VF, List.lookup, e h.1, e h.2.1, e h.2.2.1, e h.2.2.2.1, e h.2.2.2.2.1, e h.2.2.2.2.2]
section
variable {P : Program} {w : World} {K : PySem.W.Frag} {mg : Str → Option Value} {base : Heap} {C_Moving C_Memory C_Heap : Addr}
def spMy (CM : Addr) : Sp := fun vs H Q _ => ∃ (r : Addr) (st : Bool) (a : Ma) (c : Sz) (sh : List (List Bool)) (s : Ms), vs = [.ref a.m, .ref r, .bl st] ∧ H r = some (.tup []) ∧ MemAt CM H a c sh s ∧ s.half < 2 ∧ s.rem = [] ∧ s.nexts.length = 3 ∧
  ∀ (a' : Ma) (b : Addr) (H' : Hp), a'.m = a.m → MemAt CM H' a' c sh (movedS c s) → KeptL a.own H H' → (∀ b ∈ a'.own, b ∈ a.own ∨ H b = none) → H b = none → H' b = some (.tup []) → Q (.ref b) H'
theorem ok_my {f : Addr} {fd : FuncData} (G : Gd K mg "move_young" s_move_young ["memory", "roots", "is_settling"] f fd) (X : Lw K mg C_Moving C_Memory C_Heap) : FnOk P w K mg base CX0 3 f fd ["memory", "roots", "is_settling"] (spMy C_Memory) := by
  obtain ⟨f_Moving_finish, d_Moving_finish, M_Moving_finish⟩ := X.m_Moving_finish
  have H_Moving_finish : FnOk P w K mg base CX0 2 f_Moving_finish d_Moving_finish ["self"] (spVfin C_Moving C_Memory) := ok_vfin M_Moving_finish X
  obtain ⟨f_Moving_lead_moved, d_Moving_lead_moved, M_Moving_lead_moved⟩ := X.m_Moving_lead_moved
  have H_Moving_lead_moved : FnOk P w K mg base CX0 2 f_Moving_lead_moved d_Moving_lead_moved ["self"] (spVlm C_Moving) := ok_vlm M_Moving_lead_moved X
  obtain ⟨f_Moving_led, d_Moving_led, M_Moving_led⟩ := X.m_Moving_led
  have H_Moving_led : FnOk P w K mg base CX0 1 f_Moving_led d_Moving_led ["self", "reference"] (spNo) := ok_led M_Moving_led X
  obtain ⟨f_Moving___init__, d_Moving___init__, K_Moving, F_Moving___init__, b_Moving___init__⟩ := X.i_Moving
  have H_Moving___init__ : FnOk P w K mg base CX0 1 f_Moving___init__ d_Moving___init__ ["self", "memory", "is_settling"] (spVinit C_Moving C_Memory) := ok_vinit F_Moving___init__ X
  refine G.F.ok sc_move_young (fun vs H Q E h => ?_) (fun cdv A outer s H vs Q E hr h => ?_)
  · obtain ⟨r, st, a, c, sh, s, rfl, _⟩ := h; rfl
  · obtain ⟨r, st, a, c, sh, s, rfl, hr0, hm, hs2, hrem, hnl, q⟩ := h
    refine ⟨_, (pss_cons (ps_set (i := 3) sc_move_young.nd rfl (Or.inr rfl) (pe_make K_Moving H_Moving___init__ (hr.mono (by decide)) (by rfl) X.g_Moving b_Moving___init__ .nil pass0 (pa_cons (pv 0) (pa_cons (pv 2) pa_nil))))
      (pss_cons (ps_set (i := 1) sc_move_young.nd rfl (Or.inl rfl) (pe_callTy call_tuple_of (by rfl) X.b_tuple (by decide +kernel) (pa_cons (pe_lc (own := [("root", 4)]) (g := (gName 4)) (tt := tYes) rfl sc_move_young.nd (pi_tup (pv 1)) (blkOk_by (own := [("root", 4)]) (N := ["memory", "roots", "is_settling", "moving", "root", "place"]) (sc := defScope s_move_young) (by decide +kernel)) (fun _ _ _ _ _ => (pg_name (i := 4) sc_move_young.nd rfl (Or.inl rfl))) (fun _ _ _ _ _ => pts_nil) (fun _ _ _ _ _ => (pe_meth (pv 3) X.cl_Moving M_Moving_led.m H_Moving_led (hr.mono (by decide)) M_Moving_led.b .nil pass0 (pa_cons (pv 4) pa_nil)))) pa_nil)))
      (pss_cons (ps_for PassesOwn.never rfl (pi_list (pe_callB cr_sortedI (by rfl) X.b_sorted (by decide +kernel) (pa_cons (pe_callTy (call_list_dK rfl) (by rfl) X.b_list (by decide +kernel) (pa_cons (pe_fld (pv 0) rfl) pa_nil)) pa_nil))) (pg_name (i := 5) sc_move_young.nd rfl (Or.inl rfl))
        (pss_one (ps_asg (pe_meth (pv 3) X.cl_Moving M_Moving_led.m H_Moving_led (hr.mono (by decide)) M_Moving_led.b .nil pass0 (pa_cons (pe_ix ix_list (pe_fld (pv 0) rfl) (pv 5) (fun _ _ => rfl)) pa_nil)) (pg_sub (pe_fld (pv 0) rfl) (pv 5) set_list))))
      (pss_cons (ps_expr (pe_meth0 (pv 3) X.cl_Moving M_Moving_lead_moved.m H_Moving_lead_moved hr M_Moving_lead_moved.b .nil pass0))
      (pss_cons (ps_expr (pe_meth0 (pv 3) X.cl_Moving M_Moving_finish.m H_Moving_finish hr M_Moving_finish.b .nil pass0))
      (pss_one (ps_ret (pv 1)))))))), ?_⟩
    refine ⟨_, rfl, _, rfl, fun v dv nv ndv nev => ?_⟩
    have S1 : Same H (upd (upd H dv (.own v)) v (.ins C_Moving dv [])) := same_at nv (same_new ndv)
    refine ⟨v, dv, st, a, c, sh, s, rfl, upd_same, hm.same S1, hs2, fun aMo aH aO H2 e1 e2 e3 e4 nHO n1 n2 n3 k => ⟨rfl, ?_⟩⟩
    have S2 : Same H H2 := fun b o e => k _ _ (by rw [List.mem_singleton]; exact ne_of_none e nv) (S1 _ _ e)
    have m2 := hm.same S2
    have r2 := S2 _ _ hr0
    refine ⟨_, rfl, r, rfl, ⟨_, SqT.of r2⟩, fun D nD => lc_tup (K := K) (xs := []) (fun _ H3 => H3 D = some (.lst []) ∧ Same H2 H3) ⟨upd_same, same_new nD⟩ (by rintro _ H3 _ ⟨_, s3⟩; exact SqT.of (s3 _ _ r2)) (by intro i x H' e; simp at e) ?_⟩
    rintro H3 ⟨hD, s3⟩
    refine ⟨_, _, rfl, .inl ⟨SqL.of hD, fun t nt => ?_⟩⟩
    obtain ⟨H4, g4⟩ : ∃ G : Hp, G = upd H3 t (.tup []) := ⟨_, rfl⟩
    refine at_nx g4 ?_
    have s4 : Same H3 H4 := by rw [g4]; exact same_new nt
    have ft : H4 t = some (.tup []) := by rw [g4]; exact upd_same
    have S4 := S2.trans (s3.trans s4)
    have m4 := hm.same S4
    have nt0 : H t = none := by
      cases h : H t with
      | none => rfl
      | some o => rw [(S2.trans s3) _ _ h] at nt; cases nt
    refine ⟨_, rfl, a.m, C_Memory, a.dx, MemF a c s, .ref a.aR, rfl, m4.at_, X.cl_Memory, X.n_Memory_remembered, rfl, a.aR, _, rfl, m4.rem, fun pl npl => ⟨pl, [], rfl, SqL.of (by rw [upd_same, hrem]; rfl), fun ns p2 pm pw np2 => ?_⟩⟩
    have ens : ns = [] := List.perm_nil.mp pm
    subst ens
    have S5 : Same H4 (upd H4 pl (.lst ((dk s.rem).map fun kv => kV kv.1))) := same_new npl
    have S6 := S5.trans (same_new (o := .lst (([] : List Int).map V.int)) np2)
    have f2 : upd (upd H4 pl (.lst ((dk s.rem).map fun kv => kV kv.1))) p2 (.lst (([] : List Int).map V.int)) p2 = some (.lst []) := upd_same
    revert S6 f2
    generalize upd (upd H4 pl (.lst ((dk s.rem).map fun kv => kV kv.1))) p2 (.lst (([] : List Int).map V.int)) = H6
    intro S6 f2
    refine ⟨p2, rfl, ⟨_, SqL.of f2⟩, for_list (xs := []) (fun _ σ H' => H' = H6 ∧ σ = [some (.ref a.m), some (.ref t), some (.bl st), some (.ref v), none, none]) ⟨rfl, rfl⟩ ?_ ?_ ?_⟩
    · rintro _ _ _ _ ⟨rfl, _⟩
      exact SqL.of f2
    · intro i x σ H' e
      simp at e
    rintro σ H' ⟨rfl, rfl⟩
    have T6 := s3.trans (s4.trans S6)
    have m6 := m4.same S6
    have v6 := T6 _ _ e1
    have no : ∀ {b : Addr}, H b = none → b ∉ a.own := fun n z => by
      obtain ⟨o, ho, _⟩ := hm.ownAt _ z
      rw [n] at ho
      cases ho
    refine ⟨_, rfl, v, dv, VF a.m st (1 - s.half) aMo aH aO, rfl, v6, vF_no (by decide), v, dv, a.m, aMo, aH, aO, st, 1 - s.half, rfl, v6, T6 _ _ e3, T6 _ _ e4, ?_⟩
    refine ⟨_, rfl, v, dv, VF a.m st (1 - s.half) aMo aH aO, rfl, v6, vF_no (by decide), v, dv, aMo, aH, aO, st, 1 - s.half, a, c, sh, s, rfl, v6, T6 _ _ e3, T6 _ _ e4, no (S1.free n2), no (S1.free n3), no nv, m6, hs2, hrem, hnl, fun a' H' em mm kk ow => ?_⟩
    refine ⟨_, rfl, q a' t H' em mm ((KeptL.of_same (S4.trans S6)).trans kk) (fun b hb => ?_) nt0 (kk _ _ (no nt0) (S6 _ _ ft))⟩
    rcases ow b hb with z | z
    · exact .inl z
    · refine .inr ?_
      cases h : H b with
      | none => rfl
      | some o => rw [(S4.trans S6) _ _ h] at z; cases z
def begunS (c : Sz) (s : Ms) : Ms := { movedS c s with marks := true, grey := [], done := 0 }
def spBm (CM : Addr) : Sp := fun vs H Q _ => ∃ (r : Addr) (a : Ma) (c : Sz) (sh : List (List Bool)) (s : Ms), vs = [.ref a.m, .ref r] ∧ H r = some (.tup []) ∧ MemAt CM H a c sh s ∧ s.half < 2 ∧ s.rem = [] ∧ s.nexts.length = 3 ∧
  ∀ (a' : Ma) (b : Addr) (H' : Hp), a'.m = a.m → MemAt CM H' a' c sh (begunS c s) → KeptL a.own H H' → (∀ b ∈ a'.own, b ∈ a.own ∨ H b = none) → H' b = some (.tup []) → Q (.ref b) H'
theorem ok_bm {f : Addr} {fd : FuncData} (G : Gd K mg "begin_marking" s_begin_marking ["memory", "roots"] f fd) (X : Lw K mg C_Moving C_Memory C_Heap) : FnOk P w K mg base CX0 4 f fd ["memory", "roots"] (spBm C_Memory) := by
  obtain ⟨f_Memory_shade, d_Memory_shade, M_Memory_shade⟩ := X.m_Memory_shade
  have H_Memory_shade : FnOk P w K mg base CX0 1 f_Memory_shade d_Memory_shade ["self", "reference"] (spNo) := ok_msh M_Memory_shade X
  obtain ⟨f_move_young, d_move_young, G_move_young⟩ := X.f_move_young
  have H_move_young : FnOk P w K mg base CX0 3 f_move_young d_move_young ["memory", "roots", "is_settling"] (spMy C_Memory) := ok_my G_move_young X
  refine G.F.ok sc_begin_marking (fun vs H Q E h => ?_) (fun cdv A outer s H vs Q E hr h => ?_)
  · obtain ⟨r, a, c, sh, s, rfl, _⟩ := h; rfl
  · obtain ⟨r, a, c, sh, s, rfl, hr0, hm, hs2, hrem, hnl, q⟩ := h
    refine ⟨_, (pss_cons (ps_set (i := 1) sc_begin_marking.nd rfl (Or.inl rfl) (pe_call H_move_young hr (by rfl) G_move_young.g G_move_young.F.kp G_move_young.b .nil pass0 (pa_cons (pv 0) (pa_cons (pv 1) (pa_cons pe_bl pa_nil)))))
      (pss_cons (ps_fld (pv 0) pe_bl rfl)
      (pss_cons (ps_fld (pv 0) (pe_lst pa_nil) rfl)
      (pss_cons (ps_fld (pv 0) pe_int rfl)
      (pss_cons (ps_for PassesOwn.never rfl (pi_tup (pv 1)) (pg_name (i := 2) sc_begin_marking.nd rfl (Or.inl rfl))
        (pss_one (ps_expr (pe_meth (pv 0) X.cl_Memory M_Memory_shade.m H_Memory_shade (hr.mono (by decide)) M_Memory_shade.b .nil pass0 (pa_cons (pv 2) pa_nil)))))
      (pss_one (ps_ret (pv 1)))))))), ?_⟩
    refine ⟨_, rfl, _, rfl, r, true, a, c, sh, s, rfl, hr0, hm, hs2, hrem, hnl, fun a1 b H1 em m1 K1 ow nb fb => ?_⟩
    refine at_nx (B := H1) rfl ?_
    have mo : a1.m ∈ a.own := by rw [em]; simp [Ma.own]
    rw [← em]
    obtain ⟨H2, g2⟩ : ∃ G : Hp, G = upd H1 a1.m (.ins C_Memory a1.dx (MemF a1 c { movedS c s with marks := true })) := ⟨_, rfl⟩
    refine ⟨_, rfl, a1.m, C_Memory, a1.dx, MemF a1 c (movedS c s), rfl, m1.at_, X.cl_Memory, X.n_Memory_marks, by show 17 < _; decide, ?_⟩
    refine at_nx g2 ?_
    have m2 : MemAt C_Memory H2 a1 c sh { movedS c s with marks := true } := by rw [g2]; exact m1.fields (movedS c s).half (movedS c s).done true
    have K2 : KeptL a.own H H2 := by rw [g2]; exact K1.trans (kept_upd mo)
    have bm : b ≠ a1.m := fun z => by have := m1.at_; rw [← z, fb] at this; cases this
    have fb2 : H2 b = some (.tup []) := by rw [g2, upd_ne bm]; exact fb
    refine ⟨by show 0 ≤ sizeLine; decide, fun D nD => ?_⟩
    have sD := same_new (o := .lst []) nD
    obtain ⟨H3, g3⟩ : ∃ G : Hp, G = upd (upd H2 D (.lst [])) a1.m (.ins C_Memory a1.dx (MemF { a1 with aG := D } c { movedS c s with marks := true, grey := [] })) := ⟨_, rfl⟩
    refine ⟨_, rfl, a1.m, C_Memory, a1.dx, MemF a1 c { movedS c s with marks := true }, rfl, sD _ _ m2.at_, X.cl_Memory, X.n_Memory_grey, by show 17 < _; decide, ?_⟩
    refine at_nx g3 ?_
    have m3 : MemAt C_Memory H3 { a1 with aG := D } c sh { movedS c s with marks := true, grey := [] } := by rw [g3]; exact m2.newG nD
    have K3 : KeptL a.own H H3 := by rw [g3]; exact K2.trans ((KeptL.of_same sD).trans (kept_upd mo))
    have fb3 : H3 b = some (.tup []) := by rw [g3, upd_ne bm]; exact sD _ _ fb2
    obtain ⟨H4, g4⟩ : ∃ G : Hp, G = upd H3 a1.m (.ins C_Memory a1.dx (MemF { a1 with aG := D } c (begunS c s))) := ⟨_, rfl⟩
    refine ⟨_, rfl, a1.m, C_Memory, a1.dx, MemF { a1 with aG := D } c { movedS c s with marks := true, grey := [] }, rfl, m3.at_, X.cl_Memory, X.n_Memory_done, by show 17 < _; decide, ?_⟩
    refine at_nx g4 ?_
    have m4 : MemAt C_Memory H4 { a1 with aG := D } c sh (begunS c s) := by rw [g4]; exact m3.fields (movedS c s).half 0 true
    have K4 : KeptL a.own H H4 := by rw [g4]; exact K3.trans (kept_upd mo)
    have fb4 : H4 b = some (.tup []) := by rw [g4, upd_ne bm]; exact fb3
    refine ⟨_, rfl, b, rfl, ⟨_, SqT.of fb4⟩, for_tup (xs := []) (fun _ σ H' => H' = H4 ∧ σ = [some (.ref a1.m), some (.ref b), none]) ⟨rfl, rfl⟩ ?_ ?_ ?_⟩
    · rintro _ _ _ _ ⟨rfl, _⟩
      exact SqT.of fb4
    · intro i x σ H' e
      simp at e
    rintro σ H' ⟨rfl, rfl⟩
    refine ⟨_, rfl, q { a1 with aG := D } b _ em m4 K4 (fun x hx => ?_) fb4⟩
    have hx : x ∈ [a1.m, a1.aL, a1.aW, a1.aN, a1.aY, a1.aO, a1.aR, D, a1.aE] := hx
    have o1 : ∀ y ∈ [a1.m, a1.aL, a1.aW, a1.aN, a1.aY, a1.aO, a1.aR, a1.aG, a1.aE], y ∈ a.own ∨ H y = none := ow
    simp only [List.mem_cons, List.not_mem_nil, or_false] at hx
    rcases hx with e | e | e | e | e | e | e | e | e
    case inr.inr.inr.inr.inr.inr.inr.inl =>
      by_cases z : x ∈ a.own
      · exact .inl z
      · refine .inr ?_
        cases h : H x with
        | none => rfl
        | some o =>
          have := K2 _ _ z h
          rw [e, nD] at this
          cases this
    all_goals exact o1 x (by simp [e])
def spHbeg (CH CM : Addr) : Sp := fun vs H Q _ => ∃ (h r : Addr) (a : Ma) (c : Sz) (sh : List (List Bool)) (s : Ms), vs = [.ref h, .ref r] ∧ HpAt CH CM H h a c sh s ∧ H r = some (.tup []) ∧ s.half < 2 ∧ s.rem = [] ∧ s.nexts.length = 3 ∧ s.marks = false ∧
  ∀ (a' : Ma) (b : Addr) (H' : Hp), HpAt CH CM H' h a' c sh (begunS c s) → KeptL a.own H H' → (∀ b ∈ a'.own, b ∈ a.own ∨ H b = none) → H' b = some (.tup []) → Q (.ref b) H'
theorem ok_hbeg {f : Addr} {fd : FuncData} (G : Md K C_Heap "begin" "Heap.begin" s_Heap_begin ["self", "roots"] f fd) (X : Lw K mg C_Moving C_Memory C_Heap) : FnOk P w K mg base CX0 5 f fd ["self", "roots"] (spHbeg C_Heap C_Memory) := by
  obtain ⟨f_begin_marking, d_begin_marking, G_begin_marking⟩ := X.f_begin_marking
  have H_begin_marking : FnOk P w K mg base CX0 4 f_begin_marking d_begin_marking ["memory", "roots"] (spBm C_Memory) := ok_bm G_begin_marking X
  obtain ⟨f_Heap_look_at, d_Heap_look_at, M_Heap_look_at⟩ := X.m_Heap_look_at
  have H_Heap_look_at : FnOk P w K mg base CX0 4 f_Heap_look_at d_Heap_look_at ["self", "roots"] (spHla C_Heap C_Memory) := ok_hla M_Heap_look_at X
  refine G.F.ok sc_Heap_begin (fun vs H Q E h => ?_) (fun cdv A outer s H vs Q E hr h => ?_)
  · obtain ⟨hp, r, a, c, sh, s, rfl, _⟩ := h; rfl
  · obtain ⟨hp, r, a, c, sh, s, rfl, hh, hr0, hs2, hrem, hnl, hmk, q⟩ := h
    obtain ⟨dx, hd⟩ := hh.at_
    refine ⟨_, (pss_cons (ps_expr (pe_meth (pv 0) X.cl_Heap M_Heap_look_at.m H_Heap_look_at hr M_Heap_look_at.b .nil pass0 (pa_cons (pv 1) pa_nil)))
      (pss_cons (ps_if (pt_val (pe_fld (pe_fld (pv 0) rfl) rfl))
        pss_never pss_nil)
      (pss_one (ps_ret (pe_call H_begin_marking hr (by rfl) G_begin_marking.g G_begin_marking.F.kp G_begin_marking.b .nil pass0 (pa_cons (pe_fld (pv 0) rfl) (pa_cons (pv 1) pa_nil))))))), ?_⟩
    refine ⟨_, rfl, hp, dx, HpF a, rfl, hd, hpF_no (by decide), _, rfl, hp, r, [], a, c, sh, s, rfl, hh, hr0, by simp, by intro x hx; simp at hx, ?_⟩
    refine ⟨_, rfl, hp, C_Heap, dx, HpF a, .ref a.m, rfl, hd, X.cl_Heap, X.n_Heap_memory, rfl, a.m, C_Memory, a.dx, MemF a c s, .bl s.marks, rfl, hh.mem.at_, X.cl_Memory, X.n_Memory_marks, rfl, _, rfl, ?_⟩
    rw [hmk]
    refine iteF ?_
    refine ⟨_, rfl, hp, C_Heap, dx, HpF a, .ref a.m, rfl, hd, X.cl_Heap, X.n_Heap_memory, rfl, _, rfl, r, a, c, sh, s, rfl, hr0, hh.mem, hs2, hrem, hnl, fun a' b H' em mm kk ow fb => ?_⟩
    exact q a' b H' ⟨⟨dx, by rw [show HpF a' = HpF a by simp [HpF, em]]; exact kk _ _ hh.notown hd⟩, mm⟩ kk ow fb
end
end PH

/-! What the law draws; what it compares. -/
namespace PH
open PySem PySem.Spec PyProof.Rows L2 KA KI KK PV T ET
theorem keptL_of {p : Addr} {H H' : Hp} (b : But p H H') : KeptL [p] H H' := fun c o n h => (b c (by simpa using n)).trans h
theorem feedL {H : Hp} {p q : Addr} {n : Nat} {o : HO} (hF : FeedAt H p n) (h : H q = none) : FeedAt (upd H q o) p n := feed_new hF h
theorem feedS {H H' : Hp} {p : Addr} {n : Nat} (hF : FeedAt H p n) (s : Same H H') : FeedAt H' p n := by
  obtain ⟨a, b, c, e, r⟩ := hF
  exact ⟨a, b, c, s _ _ e, r⟩
theorem feed_tups {H H' : Hp} {p : Addr} {n : Nat} (k : KeptL [p] H H') (hF : FeedAt H p n) : TupSame H H' := k.tups2 fun b hb => by
  obtain ⟨x, y, z, e, _⟩ := hF
  have : b = p := by simpa using hb
  subst this
  exact ⟨_, e, by intro xs z; cases z⟩
theorem kept_new {l : List Addr} {H H1 : Hp} {q : Addr} {o : HO} (k : KeptL l H H1) (h : H1 q = none) : KeptL l H (upd H1 q o) := k.trans (KeptL.of_same (same_new h))
theorem feed_at2 {H : Hp} {p L : Addr} {n : Nat} {o : HO} (hF : FeedAt H p n) (h : L ≠ p) : FeedAt (upd H L o) p n := by
  obtain ⟨a, b, c, e, r⟩ := hF
  exact ⟨a, b, c, by rw [upd_ne h.symm]; exact e, r⟩
theorem kept_at {l : List Addr} {H H1 : Hp} {q : Addr} {o : HO} (k : KeptL l H H1) (h : H q = none) : KeptL l H (upd H1 q o) := fun b u nb e => by
  rw [upd_ne (ne_of_none e h)]
  exact k b u nb e
theorem feed_mono {H : Hp} {p : Addr} {n m : Nat} (h : FeedAt H p n) (l : n ≤ m) : FeedAt H p m := by
  obtain ⟨a, b, c, e, h1, h2, h3, h4, h5⟩ := h
  exact ⟨a, b, c, e, h1, h2, h3, h4, by omega⟩
theorem kl_free {p a : Addr} {H H' : Hp} {m : Nat} (k : KeptL [p] H H') (hF : FeedAt H' p m) (h : H' a = none) : H a = none := by
  cases e : H a with
  | none => rfl
  | some o =>
    rw [k a o (by simpa using feed_ne hF h) e] at h
    cases h

theorem tyI {K : PySem.W.Frag} {H : Hp} {i : Int} : ∃ t : String, TyX K H (.int i) (.type t) ∧ PySem.W.kitOne K (.type t) (.type "int") = some true ∧ PySem.W.kitOne K (.type t) (.type "bool") = some false ∧ PySem.W.kitOne K (.type t) (.type "tuple") = some false :=
  ⟨"int", .base (.int i), kit_ty (by decide +kernel), kit_ty (by decide +kernel), kit_ty (by decide +kernel)⟩
theorem tyB {K : PySem.W.Frag} {H : Hp} {i : Bool} : ∃ t : String, TyX K H (.bl i) (.type t) ∧ PySem.W.kitOne K (.type t) (.type "bool") = some true ∧ PySem.W.kitOne K (.type t) (.type "tuple") = some false :=
  ⟨"bool", .base (.bl i), kit_ty (by decide +kernel), kit_ty (by decide +kernel)⟩
theorem tyS {K : PySem.W.Frag} {H : Hp} {z : Str} : ∃ t : String, TyX K H (.str z) (.type t) ∧ PySem.W.kitOne K (.type t) (.type "str") = some true ∧ PySem.W.kitOne K (.type t) (.type "bool") = some false ∧ PySem.W.kitOne K (.type t) (.type "int") = some false ∧ PySem.W.kitOne K (.type t) (.type "tuple") = some false :=
  ⟨"str", .base (.str z), kit_ty (by decide +kernel), kit_ty (by decide +kernel), kit_ty (by decide +kernel), kit_ty (by decide +kernel)⟩
theorem tyT {K : PySem.W.Frag} {H : Hp} {a : Addr} {xs : List V} (h : H a = some (.tup xs)) : ∃ t : String, TyX K H (.ref a) (.type t) ∧ PySem.W.kitOne K (.type t) (.type "tuple") = some true := ⟨"tuple", .base (.tup h), kit_ty (by decide +kernel)⟩
def leafD (d : PyData) : Prop := (∃ i, d = .int i) ∨ (∃ b, d = .bool b) ∨ ∃ z, d = .str z
def smOk : Nat → PyData → Prop
  | 0, d => leafD d
  | n + 1, d => leafD d ∨ ∃ ds : List PyData, d = .tuple ds ∧ ∀ e ∈ ds, smOk n e
section
variable {P : Program} {w : World} {K : PySem.W.Frag} {mg : Str → Option Value} {base : Heap} {C_Moving C_Memory C_Heap : Addr}
def spDk : Sp := fun vs H Q _ => ∃ (p : Addr) (m : Int) (n : Nat), vs = [.ref p, .int m] ∧ FeedAt H p n ∧ n ≤ 2 ^ 60 ∧ 0 < m ∧ m < 2 ^ 40 ∧ ∀ (r : Int) (H' : Hp), 0 ≤ r → r < m → KeptL [p] H H' → FeedAt H' p (n + 1) → Q (.int r) H'
theorem ok_drw {f : Addr} {fd : FuncData} (G : Gd K mg "_law_draw" s_law_draw ["_law_feed_here", "_law_many"] f fd) (X : Lw K mg C_Moving C_Memory C_Heap) : FnOk P w K mg base CX0 1 f fd ["_law_feed_here", "_law_many"] (spDk) := by
  refine (ok_draw G.F X.b_int).imp fun vs H Q E h => ?_
  obtain ⟨p, m, n, e, h1, h2, h3, h4, q⟩ := h
  exact ⟨p, m, n, e, h1, h2, h3, h4, fun r H' a b c d => q r H' a b (keptL_of c) d⟩
def spOl : Sp := fun vs H Q _ => ∃ (p L : Addr) (xs : List V) (n : Nat), vs = [.ref p, .ref L] ∧ FeedAt H p n ∧ n ≤ 2 ^ 60 ∧ H L = some (.lst xs) ∧ L ≠ p ∧ 0 < xs.length ∧ xs.length < 2 ^ 30 ∧ ∀ (x : V) (H' : Hp), x ∈ xs → KeptL [p] H H' → FeedAt H' p (n + 1) → Q x H'
theorem ok_oneL {f : Addr} {fd : FuncData} (G : Gd K mg "_law_one" s_law_one ["_law_feed_here", "_law_things"] f fd) (X : Lw K mg C_Moving C_Memory C_Heap) : FnOk P w K mg base CX0 2 f fd ["_law_feed_here", "_law_things"] (spOl) := by
  obtain ⟨f_d, d_d, G_d⟩ := X.f__law_draw
  refine (ok_one G.F G_d.F G_d.b G_d.g X.b_int X.b_len).imp fun vs H Q E h => ?_
  obtain ⟨p, L, xs, n, e, h1, h2, hL, hne, h3, h4, q⟩ := h
  exact ⟨p, n, h1, h2, .inl ⟨L, xs, e, hne, SqL.of hL, h3, h4, fun x H' hx bt hF' => q x H' hx (keptL_of bt) hF'⟩⟩
theorem ok_fee {f : Addr} {fd : FuncData} (G : Gd K mg "_law_feed" s_law_feed ["_law_script", "_law_k"] f fd) (X : Lw K mg C_Moving C_Memory C_Heap) : FnOk P w K mg base CX0 1 f fd ["_law_script", "_law_k"] (spFeed K) := by
  exact ok_feed G.F X.b_sum X.b_len X.b_max X.b_int
/-- one of a new list -/
theorem one_new {H : Hp} {p : Addr} {n : Nat} {xs : List V} {Q : VK} {E : XK} (hF : FeedAt H p n) (hn : n ≤ 2 ^ 60) (h0 : 0 < xs.length) (h1 : xs.length < 2 ^ 30) (k : ∀ (x : V) (H' : Hp), x ∈ xs → KeptL [p] H H' → FeedAt H' p (n + 1) → Q x H') :
    ∀ L : Addr, H L = none → spOl [.ref p, .ref L] (upd H L (.lst xs)) Q E := fun L nL =>
  ⟨p, L, xs, n, rfl, feed_new hF nL, hn, upd_same, feed_ne hF nL, h0, h1, fun x H' hx bt hF' => k x H' hx ((KeptL.of_same (same_new nL)).trans bt) hF'⟩
def spSm (n : Nat) : Sp := fun vs H Q _ => ∃ (x y : V) (d : PyData), vs = [x, y] ∧ Dv H x d ∧ Dv H y d ∧ smOk n d ∧ Q (.bl true) H
theorem ok_same (X : Lw K mg C_Moving C_Memory C_Heap) {f : Addr} {fd : FuncData} (G : Gd K mg "_law_same" s_law_same ["_law_told_here", "_law_due"] f fd) : ∀ n : Nat, FnOk P w K mg base CX0 (n + 1) f fd ["_law_told_here", "_law_due"] (spSm n) := by
  intro n
  induction n with
  | zero =>
    refine G.F.ok sc_law_same (fun vs H Q E h => ?_) (fun cdv A outer s H vs Q E hr h => ?_)
    · obtain ⟨x, y, d, rfl, _⟩ := h; rfl
    · obtain ⟨x, y, d, rfl, hx, hy, hd, q⟩ := h
      refine ⟨_, (pss_cons (ps_if (pt_val (pe_callB call_isi (by rfl) X.b_isinstance (by decide +kernel) (pa_cons (pv 1) (pa_cons (pe_bltn (by rfl) X.b_tuple (v := .ty "tuple") (by decide +kernel) rfl) pa_nil))))
        pss_never pss_nil)
      (pss_cons (ps_if (PW.pt (pw_or (pt_val (pe_callB call_isi (by rfl) X.b_isinstance (by decide +kernel) (pa_cons (pv 1) (pa_cons (pe_bltn (by rfl) X.b_bool (v := .ty "bool") (by decide +kernel) rfl) pa_nil)))) (pw_or1 (pt_val (pe_callB call_isi (by rfl) X.b_isinstance (by decide +kernel) (pa_cons (pv 0) (pa_cons (pe_bltn (by rfl) X.b_bool (v := .ty "bool") (by decide +kernel) rfl) pa_nil)))))))
        (pss_one (ps_ret (pe_and (pe_callB call_isi (by rfl) X.b_isinstance (by decide +kernel) (pa_cons (pv 1) (pa_cons (pe_bltn (by rfl) X.b_bool (v := .ty "bool") (by decide +kernel) rfl) pa_nil))) (pe_and (pe_callB call_isi (by rfl) X.b_isinstance (by decide +kernel) (pa_cons (pv 0) (pa_cons (pe_bltn (by rfl) X.b_bool (v := .ty "bool") (by decide +kernel) rfl) pa_nil))) (pe_one (pe_cmpR op_eq (pv 0) (pv 1) (nomark _))))))) pss_nil)
      (pss_cons (ps_if (pt_val (pe_callB call_isi (by rfl) X.b_isinstance (by decide +kernel) (pa_cons (pv 1) (pa_cons (pe_bltn (by rfl) X.b_int (v := .ty "int") (by decide +kernel) rfl) pa_nil))))
        (pss_one (ps_ret (pe_and (pe_callB call_isi (by rfl) X.b_isinstance (by decide +kernel) (pa_cons (pv 0) (pa_cons (pe_bltn (by rfl) X.b_int (v := .ty "int") (by decide +kernel) rfl) pa_nil))) (pe_one (pe_cmpR op_eq (pv 0) (pv 1) (nomark _)))))) pss_nil)
      (pss_one (ps_ret (pe_and (pe_callB call_isi (by rfl) X.b_isinstance (by decide +kernel) (pa_cons (pv 1) (pa_cons (pe_bltn (by rfl) X.b_str (v := .ty "str") (by decide +kernel) rfl) pa_nil))) (pe_and (pe_callB call_isi (by rfl) X.b_isinstance (by decide +kernel) (pa_cons (pv 0) (pa_cons (pe_bltn (by rfl) X.b_str (v := .ty "str") (by decide +kernel) rfl) pa_nil))) (pe_one (pe_cmpR op_eq (pv 0) (pv 1) (nomark _)))))))))), ?_⟩
      rcases (show leafD d from hd) with ⟨i, rfl⟩ | ⟨b, rfl⟩ | ⟨z, rfl⟩
      · cases hx
        cases hy
        obtain ⟨t, t1, t2, t3, t4⟩ := tyI (K := K) (H := H) (i := i)
        refine ⟨_, rfl, _, _, _, _, _, rfl, .ty _, t1, t4, false, rfl, iteF ?_⟩
        refine ⟨_, rfl, _, _, _, _, _, rfl, .ty _, t1, t3, false, rfl, iteF ⟨_, rfl, _, _, _, _, _, rfl, .ty _, t1, t3, false, rfl, iteF ?_⟩⟩
        refine ⟨_, rfl, _, _, _, _, _, rfl, .ty _, t1, t2, true, rfl, iteT ⟨_, rfl, _, _, _, _, _, rfl, .ty _, t1, t2, true, rfl, iteT ⟨_, rfl, _, rfl, rfl, ?_⟩⟩⟩
        rw [decide_eq_true rfl]
        exact q
      · cases hx
        cases hy
        obtain ⟨t, t1, t2, t4⟩ := tyB (K := K) (H := H) (i := b)
        refine ⟨_, rfl, _, _, _, _, _, rfl, .ty _, t1, t4, false, rfl, iteF ?_⟩
        refine ⟨_, rfl, _, _, _, _, _, rfl, .ty _, t1, t2, true, rfl, iteT (iteT ?_)⟩
        refine ⟨_, rfl, _, _, _, _, _, rfl, .ty _, t1, t2, true, rfl, iteT ⟨_, rfl, _, _, _, _, _, rfl, .ty _, t1, t2, true, rfl, iteT ⟨_, rfl, _, rfl, rfl, ?_⟩⟩⟩
        rw [decide_eq_true rfl]
        exact q
      · cases hx
        cases hy
        obtain ⟨t, t1, t2, t3, t5, t4⟩ := tyS (K := K) (H := H) (z := z)
        refine ⟨_, rfl, _, _, _, _, _, rfl, .ty _, t1, t4, false, rfl, iteF ?_⟩
        refine ⟨_, rfl, _, _, _, _, _, rfl, .ty _, t1, t3, false, rfl, iteF ⟨_, rfl, _, _, _, _, _, rfl, .ty _, t1, t3, false, rfl, iteF ?_⟩⟩
        refine ⟨_, rfl, _, _, _, _, _, rfl, .ty _, t1, t5, false, rfl, iteF ?_⟩
        refine ⟨_, rfl, _, _, _, _, _, rfl, .ty _, t1, t2, true, rfl, iteT ⟨_, rfl, _, _, _, _, _, rfl, .ty _, t1, t2, true, rfl, iteT ⟨_, rfl, _, rfl, rfl, ?_⟩⟩⟩
        rw [decide_eq_true rfl]
        exact q
  | succ n ih =>
    have G__law_same := G
    have H__law_same := ih
    refine G.F.ok sc_law_same (fun vs H Q E h => ?_) (fun cdv A outer s H vs Q E hr h => ?_)
    · obtain ⟨x, y, d, rfl, _⟩ := h; rfl
    · obtain ⟨x, y, d, rfl, hx, hy, hd, q⟩ := h
      refine ⟨_, (pss_cons (ps_if (pt_val (pe_callB call_isi (by rfl) X.b_isinstance (by decide +kernel) (pa_cons (pv 1) (pa_cons (pe_bltn (by rfl) X.b_tuple (v := .ty "tuple") (by decide +kernel) rfl) pa_nil))))
        (pss_cons (ps_if (PW.pt (pw_or (pt_not (pt_val (pe_callB call_isi (by rfl) X.b_isinstance (by decide +kernel) (pa_cons (pv 0) (pa_cons (pe_bltn (by rfl) X.b_tuple (v := .ty "tuple") (by decide +kernel) rfl) pa_nil))))) (pw_or1 (pt_cmpR op_ne (pe_callB call_len (by rfl) X.b_len PySem.boot_len (pa_cons (pv 0) pa_nil)) (pe_callB call_len (by rfl) X.b_len PySem.boot_len (pa_cons (pv 1) pa_nil)) (nomark _)))))
        (pss_one (ps_ret pe_bl)) pss_nil)
      (pss_cons (ps_for PassesOwn.never rfl (pi_range1 (by rfl) X.b_range (pa_cons (pe_callB call_len (by rfl) X.b_len PySem.boot_len (pa_cons (pv 1) pa_nil)) pa_nil)) (pg_name (i := 2) sc_law_same.nd rfl (Or.inl rfl))
        (pss_one (ps_if (pt_not (pt_val (pe_call H__law_same hr (by rfl) G__law_same.g G__law_same.F.kp G__law_same.b .nil pass0 (pa_cons (pe_ix ix_tup (pv 0) (pv 2) (fun _ _ => rfl)) (pa_cons (pe_ix ix_tup (pv 1) (pv 2) (fun _ _ => rfl)) pa_nil)))))
        (pss_one (ps_ret pe_bl)) pss_nil)))
      (pss_one (ps_ret pe_bl)))) pss_nil)
      (pss_cons (ps_if (PW.pt (pw_or (pt_val (pe_callB call_isi (by rfl) X.b_isinstance (by decide +kernel) (pa_cons (pv 1) (pa_cons (pe_bltn (by rfl) X.b_bool (v := .ty "bool") (by decide +kernel) rfl) pa_nil)))) (pw_or1 (pt_val (pe_callB call_isi (by rfl) X.b_isinstance (by decide +kernel) (pa_cons (pv 0) (pa_cons (pe_bltn (by rfl) X.b_bool (v := .ty "bool") (by decide +kernel) rfl) pa_nil)))))))
        (pss_one (ps_ret (pe_and (pe_callB call_isi (by rfl) X.b_isinstance (by decide +kernel) (pa_cons (pv 1) (pa_cons (pe_bltn (by rfl) X.b_bool (v := .ty "bool") (by decide +kernel) rfl) pa_nil))) (pe_and (pe_callB call_isi (by rfl) X.b_isinstance (by decide +kernel) (pa_cons (pv 0) (pa_cons (pe_bltn (by rfl) X.b_bool (v := .ty "bool") (by decide +kernel) rfl) pa_nil))) (pe_one (pe_cmpR op_eq (pv 0) (pv 1) (nomark _))))))) pss_nil)
      (pss_cons (ps_if (pt_val (pe_callB call_isi (by rfl) X.b_isinstance (by decide +kernel) (pa_cons (pv 1) (pa_cons (pe_bltn (by rfl) X.b_int (v := .ty "int") (by decide +kernel) rfl) pa_nil))))
        (pss_one (ps_ret (pe_and (pe_callB call_isi (by rfl) X.b_isinstance (by decide +kernel) (pa_cons (pv 0) (pa_cons (pe_bltn (by rfl) X.b_int (v := .ty "int") (by decide +kernel) rfl) pa_nil))) (pe_one (pe_cmpR op_eq (pv 0) (pv 1) (nomark _)))))) pss_nil)
      (pss_one (ps_ret (pe_and (pe_callB call_isi (by rfl) X.b_isinstance (by decide +kernel) (pa_cons (pv 1) (pa_cons (pe_bltn (by rfl) X.b_str (v := .ty "str") (by decide +kernel) rfl) pa_nil))) (pe_and (pe_callB call_isi (by rfl) X.b_isinstance (by decide +kernel) (pa_cons (pv 0) (pa_cons (pe_bltn (by rfl) X.b_str (v := .ty "str") (by decide +kernel) rfl) pa_nil))) (pe_one (pe_cmpR op_eq (pv 0) (pv 1) (nomark _)))))))))), ?_⟩
      rcases hd with hd | ⟨ds, rfl, hds⟩
      · rcases hd with ⟨i, rfl⟩ | ⟨b, rfl⟩ | ⟨z, rfl⟩
        · cases hx
          cases hy
          obtain ⟨t, t1, t2, t3, t4⟩ := tyI (K := K) (H := H) (i := i)
          refine ⟨_, rfl, _, _, _, _, _, rfl, .ty _, t1, t4, false, rfl, iteF ?_⟩
          refine ⟨_, rfl, _, _, _, _, _, rfl, .ty _, t1, t3, false, rfl, iteF ⟨_, rfl, _, _, _, _, _, rfl, .ty _, t1, t3, false, rfl, iteF ?_⟩⟩
          refine ⟨_, rfl, _, _, _, _, _, rfl, .ty _, t1, t2, true, rfl, iteT ⟨_, rfl, _, _, _, _, _, rfl, .ty _, t1, t2, true, rfl, iteT ⟨_, rfl, _, rfl, rfl, ?_⟩⟩⟩
          rw [decide_eq_true rfl]
          exact q
        · cases hx
          cases hy
          obtain ⟨t, t1, t2, t4⟩ := tyB (K := K) (H := H) (i := b)
          refine ⟨_, rfl, _, _, _, _, _, rfl, .ty _, t1, t4, false, rfl, iteF ?_⟩
          refine ⟨_, rfl, _, _, _, _, _, rfl, .ty _, t1, t2, true, rfl, iteT (iteT ?_)⟩
          refine ⟨_, rfl, _, _, _, _, _, rfl, .ty _, t1, t2, true, rfl, iteT ⟨_, rfl, _, _, _, _, _, rfl, .ty _, t1, t2, true, rfl, iteT ⟨_, rfl, _, rfl, rfl, ?_⟩⟩⟩
          rw [decide_eq_true rfl]
          exact q
        · cases hx
          cases hy
          obtain ⟨t, t1, t2, t3, t5, t4⟩ := tyS (K := K) (H := H) (z := z)
          refine ⟨_, rfl, _, _, _, _, _, rfl, .ty _, t1, t4, false, rfl, iteF ?_⟩
          refine ⟨_, rfl, _, _, _, _, _, rfl, .ty _, t1, t3, false, rfl, iteF ⟨_, rfl, _, _, _, _, _, rfl, .ty _, t1, t3, false, rfl, iteF ?_⟩⟩
          refine ⟨_, rfl, _, _, _, _, _, rfl, .ty _, t1, t5, false, rfl, iteF ?_⟩
          refine ⟨_, rfl, _, _, _, _, _, rfl, .ty _, t1, t2, true, rfl, iteT ⟨_, rfl, _, _, _, _, _, rfl, .ty _, t1, t2, true, rfl, iteT ⟨_, rfl, _, rfl, rfl, ?_⟩⟩⟩
          rw [decide_eq_true rfl]
          exact q
      · obtain ⟨a, xs, rfl, ha, la, ra⟩ := hx.tupE
        obtain ⟨b, ys, rfl, hb, lb, rb⟩ := hy.tupE
        obtain ⟨t, t1, t2⟩ := tyT (K := K) ha
        obtain ⟨u, u1, u2⟩ := tyT (K := K) hb
        refine ⟨_, rfl, _, _, _, _, _, rfl, .ty _, u1, u2, true, rfl, iteT ?_⟩
        refine ⟨_, rfl, _, _, _, _, _, rfl, .ty _, t1, t2, true, rfl, iteF ?_⟩
        have el : xs.length = ys.length := by rw [ra.len, rb.len]
        refine ⟨_, rfl, .ref a, xs.length, rfl, .inr ⟨_, SqT.of ha, rfl⟩, _, rfl, .ref b, ys.length, rfl, .inr ⟨_, SqT.of hb, rfl⟩, rfl, _, rfl, ?_⟩
        have e2 : (!decide (V.int (xs.length : Int) = V.int (ys.length : Int))) = false := by simp [el]
        rw [e2]
        refine iteF ?_
        refine ⟨_, rfl, .ref b, ys.length, rfl, .inr ⟨_, SqT.of hb, rfl⟩, _, rfl, by omega, by omega, ?_⟩
        refine for_range (n := (ys.length : Int).toNat) (lo := 0) (fun i σ H' => H' = H ∧ ∃ o, σ = [some (.ref a), some (.ref b), o]) ⟨rfl, _, rfl⟩ ?_ ?_
        · rintro i σ H' hi ⟨rfl, o, rfl⟩
          have hiy : i < ys.length := by omega
          have hix : i < xs.length := by omega
          have hid : i < ds.length := by rw [← rb.len]; exact hiy
          refine ⟨_, rfl, _, rfl, a, xs, _, xs[i], rfl, rfl, SqT.of ha, atI_nat (by simp [hix]), ?_⟩
          refine ⟨_, rfl, _, rfl, b, ys, _, ys[i], rfl, rfl, SqT.of hb, atI_nat (by simp [hiy]), ?_⟩
          exact ⟨xs[i], ys[i], ds[i], rfl, get2 ra (List.getElem?_eq_getElem hix) (List.getElem?_eq_getElem hid), get2 rb (List.getElem?_eq_getElem hiy) (List.getElem?_eq_getElem hid), hds _ (List.getElem_mem hid), _, rfl, iteF ⟨rfl, _, rfl⟩⟩
        · rintro σ H' ⟨rfl, o, rfl⟩
          exact q
theorem ok_same3 {f : Addr} {fd : FuncData} (G : Gd K mg "_law_same" s_law_same ["_law_told_here", "_law_due"] f fd) (X : Lw K mg C_Moving C_Memory C_Heap) : FnOk P w K mg base CX0 4 f fd ["_law_told_here", "_law_due"] (spSm 3) := ok_same X G 3
end
end PH

/-! Sizes, numbers, heads, what is told. -/
namespace PH
open PySem PySem.Spec PyProof.Rows L2 KA KI KK PV T ET
theorem szPy_mk {H : Hp} {a : Addr} {c : Sz} (h : H a = some (.tup [.int c.1, .int c.2.1, .int c.2.2.1, .int c.2.2.2])) : Dv H (.ref a) (szPy c) :=
  .tup h (by show 4 ≤ 50000; decide) (.cons (.int _) (.cons (.int _) (.cons (.int _) (.cons (.int _) .nil))))
theorem in_nat {x : V} {L : List Nat} (h : x ∈ natI L) : ∃ n : Nat, x = .int n ∧ n ∈ L := by
  obtain ⟨n, hn, e⟩ := List.mem_map.mp h
  exact ⟨n, e.symm, hn⟩
section
variable {P : Program} {w : World} {K : PySem.W.Frag} {mg : Str → Option Value} {base : Heap} {C_Moving C_Memory C_Heap : Addr}
def spSizes : Sp := fun vs H Q _ => ∃ (p : Addr) (n : Nat), vs = [.ref p] ∧ FeedAt H p n ∧ n + 100 ≤ 2 ^ 60 ∧ ∀ (v : V) (c : Sz) (m : Nat) (H' : Hp), KeptL [p] H H' → FeedAt H' p m → m ≤ n + 100 → Dv H' v (szPy c) → szOk c → Q v H'
theorem ok_sizes {f : Addr} {fd : FuncData} (G : Gd K mg "_law_sizes" s_law_sizes ["_law_feed_here"] f fd) (X : Lw K mg C_Moving C_Memory C_Heap) : FnOk P w K mg base CX0 3 f fd ["_law_feed_here"] (spSizes) := by
  obtain ⟨f__law_draw, d__law_draw, G__law_draw⟩ := X.f__law_draw
  have H__law_draw : FnOk P w K mg base CX0 1 f__law_draw d__law_draw ["_law_feed_here", "_law_many"] (spDk) := ok_drw G__law_draw X
  obtain ⟨f__law_one, d__law_one, G__law_one⟩ := X.f__law_one
  have H__law_one : FnOk P w K mg base CX0 2 f__law_one d__law_one ["_law_feed_here", "_law_things"] (spOl) := ok_oneL G__law_one X
  refine G.F.ok sc_law_sizes (fun vs H Q E h => ?_) (fun cdv A outer s H vs Q E hr h => ?_)
  · obtain ⟨p, n, rfl, _⟩ := h; rfl
  · obtain ⟨p, n, rfl, hF, hn, q⟩ := h
    refine ⟨_, (pss_cons (ps_set (i := 1) sc_law_sizes.nd rfl (Or.inl rfl) (pe_call H__law_one hr (by rfl) G__law_one.g G__law_one.F.kp G__law_one.b .nil pass0 (pa_cons (pv 0) (pa_cons (pe_lst (pa_cons pe_int (pa_cons pe_int (pa_cons pe_int (pa_cons pe_int (pa_cons pe_int pa_nil)))))) pa_nil))))
      (pss_one (ps_ret (pe_tup (pa_cons (pv 1) (pa_cons (pe_call H__law_one hr (by rfl) G__law_one.g G__law_one.F.kp G__law_one.b .nil pass0 (pa_cons (pv 0) (pa_cons (pe_lst (pa_cons pe_int (pa_cons pe_int (pa_cons pe_int (pa_cons pe_int pa_nil))))) pa_nil))) (pa_cons (pe_call H__law_one hr (by rfl) G__law_one.g G__law_one.F.kp G__law_one.b .nil pass0 (pa_cons (pv 0) (pa_cons (pe_lst (pa_cons pe_int (pa_cons pe_int (pa_cons pe_int (pa_cons pe_int pa_nil))))) pa_nil))) (pa_cons (pe_op op_add pe_int (pe_call H__law_draw (hr.mono (by decide)) (by rfl) G__law_draw.g G__law_draw.F.kp G__law_draw.b .nil pass0 (pa_cons (pv 0) (pa_cons pe_int pa_nil)))) pa_nil)))))))), ?_⟩
    refine ⟨_, rfl, by show 5 ≤ sizeLine; decide, fun L nL => ?_⟩
    refine one_new (E := E0) hF (by omega) (by simp) (by simp) (fun x H1 hx k1 F1 => ?_) L nL
    obtain ⟨x, rfl, ix⟩ := in_nat (L := [16, 16, 20, 40, 300]) hx
    refine ⟨_, rfl, _, rfl, by show 4 ≤ sizeLine; decide, fun L2 nL2 => ?_⟩
    refine one_new (E := E0) F1 (by omega) (by simp) (by simp) (fun y H2 hy k2 F2 => ?_) L2 nL2
    obtain ⟨y, rfl, iy⟩ := in_nat (L := [0, 4, 12, 30]) hy
    refine ⟨_, rfl, by show 4 ≤ sizeLine; decide, fun L3 nL3 => ?_⟩
    refine one_new (E := E0) F2 (by omega) (by simp) (by simp) (fun z H3 hz k3 F3 => ?_) L3 nL3
    obtain ⟨z, rfl, iz⟩ := in_nat (L := [4, 6, 10, 16]) hz
    refine ⟨_, rfl, p, 7, n + 1 + 1 + 1, rfl, F3, by omega, by decide, by decide, fun r H4 r0 r1 k4 F4 => ⟨_, _, rfl, rfl, by show 4 ≤ sizeLine; decide, fun b nb => ?_⟩⟩
    obtain ⟨r, rfl⟩ := Int.eq_ofNat_of_zero_le r0
    have K4 := ((k1.trans k2).trans k3).trans k4
    refine q (.ref b) (x, y, z, 1 + r) _ _ (K4.trans (KeptL.of_same (same_new nb))) (feed_new F4 nb) (by omega) (szPy_mk upd_same) ?_
    have dx : ∀ x ∈ ([16, 16, 20, 40, 300] : List Nat), 16 ≤ x ∧ x ≤ 4096 := by decide
    have dy : ∀ x ∈ ([0, 4, 12, 30] : List Nat), x ≤ 4096 := by decide
    have dz : ∀ x ∈ ([4, 6, 10, 16] : List Nat), 4 ≤ x ∧ x ≤ 16 := by decide
    have hx := dx x ix
    have hy := dy y iy
    have hz := dz z iz
    exact ⟨hx.1, hx.2, hy, hz.1, Nat.le_trans hz.2 hx.1, by show 1 ≤ 1 + r; omega, by show 1 + r ≤ 7; omega⟩
def spNum : Sp := fun vs H Q _ => ∃ (p : Addr) (v : V) (c : Sz) (n : Nat), vs = [.ref p, v] ∧ FeedAt H p n ∧ n + 100 ≤ 2 ^ 60 ∧ Dv H v (szPy c) ∧ szOk c ∧ ∀ (k m : Nat) (H' : Hp), KeptL [p] H H' → FeedAt H' p m → m ≤ n + 100 → k ≤ 1000 → Q (.int k) H'
theorem ok_num {f : Addr} {fd : FuncData} (G : Gd K mg "_law_number" s_law_number ["_law_feed_here", "_law_sizes_here"] f fd) (X : Lw K mg C_Moving C_Memory C_Heap) : FnOk P w K mg base CX0 3 f fd ["_law_feed_here", "_law_sizes_here"] (spNum) := by
  obtain ⟨f__law_one, d__law_one, G__law_one⟩ := X.f__law_one
  have H__law_one : FnOk P w K mg base CX0 2 f__law_one d__law_one ["_law_feed_here", "_law_things"] (spOl) := ok_oneL G__law_one X
  obtain ⟨f__law_draw, d__law_draw, G__law_draw⟩ := X.f__law_draw
  have H__law_draw : FnOk P w K mg base CX0 1 f__law_draw d__law_draw ["_law_feed_here", "_law_many"] (spDk) := ok_drw G__law_draw X
  refine G.F.ok sc_law_number (fun vs H Q E h => ?_) (fun cdv A outer s H vs Q E hr h => ?_)
  · obtain ⟨p, v, c, n, rfl, _⟩ := h; rfl
  · obtain ⟨p, v, c, n, rfl, hF, hn, hv, ⟨c1, c2, c3, c4, c5, c6, c7⟩, q⟩ := h
    refine ⟨_, (pss_cons (ps_set (i := 2) sc_law_number.nd rfl (Or.inl rfl) (pe_call H__law_draw (hr.mono (by decide)) (by rfl) G__law_draw.g G__law_draw.F.kp G__law_draw.b .nil pass0 (pa_cons (pv 0) (pa_cons pe_int pa_nil))))
      (pss_cons (ps_if (pt_cmpR op_lt (pv 2) pe_int (nomark _))
        (pss_one (ps_ret (pe_callB (call_min2 rfl) (by rfl) X.b_min (by decide +kernel) (pa_cons pe_int (pa_cons (pe_op op_add (pe_op op_sub (pe_ix ix_tup (pv 1) pe_int (fun _ _ => rfl)) pe_int) (pv 2)) pa_nil))))) pss_nil)
      (pss_one (ps_ret (pe_ifExp (pt_cmpR op_eq (pv 2) pe_int (nomark _)) (pe_call H__law_one hr (by rfl) G__law_one.g G__law_one.F.kp G__law_one.b .nil pass0 (pa_cons (pv 0) (pa_cons (pe_lst (pa_cons pe_int (pa_cons pe_int (pa_cons pe_int (pa_cons pe_int (pa_cons pe_int (pa_cons (pe_call H__law_draw (hr.mono (by decide)) (by rfl) G__law_draw.g G__law_draw.F.kp G__law_draw.b .nil pass0 (pa_cons (pv 0) (pa_cons pe_int pa_nil))) pa_nil))))))) pa_nil))) (pe_call H__law_draw (hr.mono (by decide)) (by rfl) G__law_draw.g G__law_draw.F.kp G__law_draw.b .nil pass0 (pa_cons (pv 0) (pa_cons pe_int pa_nil)))))))), ?_⟩
    obtain ⟨a, rfl, ha⟩ := szPy_at hv
    refine ⟨_, rfl, p, 6, n, rfl, hF, by omega, by decide, by decide, fun w H1 w0 w1 k1 F1 => ?_⟩
    obtain ⟨w, rfl⟩ := Int.eq_ofNat_of_zero_le w0
    have ha1 := feed_tups k1 hF _ _ ha
    refine ⟨_, rfl, _, _, rfl, rfl, _, rfl, ite2 (fun hw => ?_) (fun hw => ?_)⟩
    · have hw : (w : Int) < 3 := of_decide_eq_true hw
      refine ⟨_, rfl, a, _, 2, .int c.2.2.1, rfl, rfl, SqT.of ha1, rfl, _, _, rfl, rfl, _, rfl, _, _, rfl, rfl, _, _, rfl, ?_⟩
      have e : (if ((c.2.2.1 : Int) - 3 + (w : Int)) < 1000 then ((c.2.2.1 : Int) - 3 + (w : Int)) else 1000) = ((min 1000 (c.2.2.1 - 3 + w) : Nat) : Int) := by
        split <;> omega
      rw [e]
      exact q _ _ _ k1 F1 (by omega) (by omega)
    · refine ⟨_, rfl, rfl, _, rfl, ite2 (fun he => ?_) (fun he => ?_)⟩
      · refine ⟨_, rfl, _, rfl, p, 1001, n + 1, rfl, F1, by omega, by decide, by decide, fun r H2 r0 r1 k2 F2 => ?_⟩
        obtain ⟨r, rfl⟩ := Int.eq_ofNat_of_zero_le r0
        refine ⟨by show 6 ≤ sizeLine; decide, fun L nL => ?_⟩
        refine one_new (E := E0) F2 (by omega) (by simp) (by simp) (fun x H3 hx k3 F3 => ?_) L nL
        obtain ⟨x, rfl, ix⟩ := in_nat (L := [0, 1, 2, 5, 1000, r]) hx
        refine q _ _ _ ((k1.trans k2).trans k3) F3 (by omega) ?_
        simp only [List.mem_cons, List.not_mem_nil, or_false] at ix
        rcases ix with h | h | h | h | h | h <;> subst h <;> omega
      · refine ⟨_, rfl, p, 9, n + 1, rfl, F1, by omega, by decide, by decide, fun r H2 r0 r1 k2 F2 => ?_⟩
        obtain ⟨r, rfl⟩ := Int.eq_ofNat_of_zero_le r0
        exact q _ _ _ (k1.trans k2) F2 (by omega) (by omega)
def spLhead : Sp := fun vs H Q _ => ∃ (k : Int) (col n : Nat), vs = [.int k, .int col, .int n] ∧ k.natAbs < 1000 ∧ n ≤ 1000 ∧ ∀ (b : Addr) (H' : Hp), H b = none → Same H H' → H' b = some (.lst ((objW k col n).map V.int)) → Q (.ref b) H'
theorem ok_lhead {f : Addr} {fd : FuncData} (G : Gd K mg "_law_head" s_law_head ["_law_kind", "_law_colour", "_law_many"] f fd) (X : Lw K mg C_Moving C_Memory C_Heap) : FnOk P w K mg base CX0 1 f fd ["_law_kind", "_law_colour", "_law_many"] (spLhead) := by

  refine G.F.ok sc_law_head (fun vs H Q E h => ?_) (fun cdv A outer s H vs Q E hr h => ?_)
  · obtain ⟨k, col, n, rfl, _⟩ := h; rfl
  · obtain ⟨k, col, n, rfl, hk, hn, q⟩ := h
    refine ⟨_, (pss_one (ps_ret (pe_op op_cat (pe_lst (pa_cons (pe_op op_add (pe_op op_mul (pe_op op_add (pv 0) pe_int) pe_int) (pv 1)) (pa_cons (pv 2) pa_nil))) (pe_op op_rep (pe_lst (pa_cons pe_int pa_nil)) (pv 2))))), ?_⟩
    refine ⟨_, rfl, _, _, rfl, rfl, _, _, rfl, rfl, .inl ⟨by omega, by omega⟩, _, rfl, _, _, rfl, rfl, _, rfl, by show 2 ≤ _; decide, fun p1 n1 => ?_⟩
    refine ⟨by show 1 ≤ _; decide, fun p2 n2 => ⟨_, rfl, p2, n, _, rfl, rfl, upd_same, by omega, by omega, by
        show 1 * ((n : Nat) : Int).toNat ≤ _
        rw [Int.toNat_natCast, Nat.one_mul]
        exact Nat.le_of_lt (big (by omega)), fun p3 n3 => ?_⟩⟩
    have n13 : p1 ≠ p3 := fun z => by
      rw [← z, upd_ne (ne_of_none upd_same n2), upd_same] at n3
      cases n3
    have ez : (List.replicate ((n : Nat) : Int).toNat [V.int 0]).flatten = (List.replicate n (0 : Int)).map V.int := by
      rw [Int.toNat_natCast, List.map_replicate, List.flatten_replicate_singleton]
    have ek : (k + 3) * 64 + (col : Int) = headW k 0 col := by unfold headW; simp
    refine ⟨p1, p3, [V.int (headW k 0 col), V.int n], (List.replicate n (0 : Int)).map V.int, rfl, rfl, by rw [upd_ne n13, upd_ne (ne_of_none upd_same n2), upd_same, ← ek], by rw [upd_same, ez], by rw [List.length_map, List.length_replicate]; exact Nat.le_of_lt (big (by show 2 + n ≤ _; omega)), fun p n4 => ?_⟩
    have S := (((same_new n1).trans (same_new n2)).trans (same_new n3)).trans (same_new (o := .lst ((objW k col n).map V.int)) n4)
    exact q p _ ((((same_new n1).trans (same_new n2)).trans (same_new n3)).free n4) S upd_same
def spTold (CH CM : Addr) : Sp := fun vs H Q _ => ∃ (h : Addr) (x col n : Nat) (k : Int) (v : V) (a : Ma) (c : Sz) (sh : List (List Bool)) (s : Ms), vs = [.ref h, .int x, v] ∧ HpAt CH CM H h a c sh s ∧ isOb s x = true ∧ 0 < x ∧ col < 64 ∧ s.words[x]? = some (headW k 0 col) ∧ s.words[x + 1]? = some (n : Int) ∧
  Dv H v (.tuple [.int k, .int n, .str (whereOf c x)]) ∧ ∀ H', Same H H' → Q (.bl true) H'
theorem ok_told {f : Addr} {fd : FuncData} (G : Gd K mg "_law_told" s_law_told ["_law_heap", "_law_address", "_law_due"] f fd) (X : Lw K mg C_Moving C_Memory C_Heap) : FnOk P w K mg base CX0 5 f fd ["_law_heap", "_law_address", "_law_due"] (spTold C_Heap C_Memory) := by
  obtain ⟨f__law_same, d__law_same, G__law_same⟩ := X.f__law_same
  have H__law_same : FnOk P w K mg base CX0 4 f__law_same d__law_same ["_law_told_here", "_law_due"] (spSm 3) := ok_same3 G__law_same X
  obtain ⟨f_Heap_where, d_Heap_where, M_Heap_where⟩ := X.m_Heap_where
  have H_Heap_where : FnOk P w K mg base CX0 3 f_Heap_where d_Heap_where ["self", "address"] (spHwhere C_Heap C_Memory) := ok_hwhere M_Heap_where X
  obtain ⟨f_Heap_slots, d_Heap_slots, M_Heap_slots⟩ := X.m_Heap_slots
  have H_Heap_slots : FnOk P w K mg base CX0 3 f_Heap_slots d_Heap_slots ["self", "address"] (spHslots C_Heap C_Memory) := ok_hslots M_Heap_slots X
  obtain ⟨f_Heap_kind, d_Heap_kind, M_Heap_kind⟩ := X.m_Heap_kind
  have H_Heap_kind : FnOk P w K mg base CX0 3 f_Heap_kind d_Heap_kind ["self", "address"] (spHkind C_Heap C_Memory) := ok_hkind M_Heap_kind X
  refine G.F.ok sc_law_told (fun vs H Q E h => ?_) (fun cdv A outer s H vs Q E hr h => ?_)
  · obtain ⟨hp, x, col, n, k, v, a, c, sh, s, rfl, _⟩ := h; rfl
  · obtain ⟨hp, x, col, n, k, v, a, c, sh, s, rfl, hh, hx, h0, hc, w1, w2, hv, q⟩ := h
    obtain ⟨dx, hd⟩ := hh.at_
    refine ⟨_, (pss_one (ps_ret (pe_call H__law_same hr (by rfl) G__law_same.g G__law_same.F.kp G__law_same.b .nil pass0 (pa_cons (pe_tup (pa_cons (pe_meth (pv 0) X.cl_Heap M_Heap_kind.m H_Heap_kind (hr.mono (by decide)) M_Heap_kind.b .nil pass0 (pa_cons (pv 1) pa_nil)) (pa_cons (pe_meth (pv 0) X.cl_Heap M_Heap_slots.m H_Heap_slots (hr.mono (by decide)) M_Heap_slots.b .nil pass0 (pa_cons (pv 1) pa_nil)) (pa_cons (pe_meth (pv 0) X.cl_Heap M_Heap_where.m H_Heap_where (hr.mono (by decide)) M_Heap_where.b .nil pass0 (pa_cons (pv 1) pa_nil)) pa_nil)))) (pa_cons (pv 2) pa_nil))))), ?_⟩
    refine ⟨_, rfl, hp, dx, HpF a, rfl, hd, hpF_no (by decide), _, rfl, hp, x, _, a, c, sh, s, rfl, hh, hx, w1, ?_⟩
    refine ⟨_, rfl, hp, dx, HpF a, rfl, hd, hpF_no (by decide), _, rfl, hp, x, _, a, c, sh, s, rfl, hh, hx, w2, ?_⟩
    refine ⟨_, rfl, hp, dx, HpF a, rfl, hd, hpF_no (by decide), _, rfl, hp, x, a, c, sh, s, rfl, hh, hx, h0, ?_⟩
    refine ⟨by show 3 ≤ sizeLine; decide, fun t nt => ?_⟩
    have ek : headW k 0 col / 64 - 3 = k := by unfold headW; omega
    rw [ek]
    have st := same_new (o := .tup [.int k, .int n, .str (whereOf c x)]) nt
    have wl : (whereOf c x).length ≤ 50000 := by unfold whereOf; split <;> (try split) <;> decide
    exact ⟨_, rfl, .ref t, v, _, rfl, .tup upd_same (by show 3 ≤ 50000; decide) (.cons (.int _) (.cons (.int _) (.cons (.str _ wl) .nil))), hv.same (TupSame.of st), .inr ⟨_, rfl, by
      intro e he
      simp only [List.mem_cons, List.not_mem_nil, or_false] at he
      rcases he with rfl | rfl | rfl
      · exact .inl (.inl ⟨_, rfl⟩)
      · exact .inl (.inl ⟨_, rfl⟩)
      · exact .inl (.inr (.inr ⟨_, rfl⟩))⟩, q _ st⟩
end
end PH

/-! Shapes. -/
namespace PH
open PySem PySem.Spec PyProof.Rows L2 KA KI KK PV T ET
def RowsAt (H : Hp) (ls : List Addr) (rows : List (List Bool)) : Prop := ls.length = rows.length ∧ ∀ (j : Nat) (r : List Bool) (b : Addr), rows[j]? = some r → ls[j]? = some b → H b = some (.lst (r.map V.bl))
theorem RowsAt.same {H H' : Hp} {ls : List Addr} {rows : List (List Bool)} (x : RowsAt H ls rows) (s : Same H H') : RowsAt H' ls rows := ⟨x.1, fun j r b e1 e2 => s _ _ (x.2 j r b e1 e2)⟩
theorem RowsAt.snoc {H : Hp} {ls : List Addr} {rows : List (List Bool)} {b : Addr} {r : List Bool} (x : RowsAt H ls rows) (h : H b = some (.lst (r.map V.bl))) : RowsAt H (ls ++ [b]) (rows ++ [r]) := by
  refine ⟨by rw [List.length_append, List.length_append, x.1]; rfl, fun j r' b' e1 e2 => ?_⟩
  by_cases hj : j < rows.length
  · rw [List.getElem?_append_left hj] at e1
    rw [List.getElem?_append_left (by rw [x.1]; exact hj)] at e2
    exact x.2 j r' b' e1 e2
  · have hl := (List.getElem?_eq_some_iff.mp e1).1
    rw [List.length_append] at hl
    have ej : j = rows.length := by simp at hl; omega
    subst ej
    rw [List.getElem?_append_right (Nat.le_refl _), Nat.sub_self] at e1
    rw [← x.1, List.getElem?_append_right (Nat.le_refl _), Nat.sub_self] at e2
    cases e1
    cases e2
    exact h
theorem RowsAt.atD {H : Hp} {ls : List Addr} {rows : List (List Bool)} {D : Addr} {o : HO} (x : RowsAt H ls rows) (h : D ∉ ls) : RowsAt (upd H D o) ls rows := ⟨x.1, fun j r b e1 e2 => by
  have hb : b ≠ D := fun z => h (by rw [← z]; exact List.mem_of_getElem? e2)
  rw [upd_ne hb]
  exact x.2 j r b e1 e2⟩
theorem RowsAt.kept {H H' : Hp} {ls : List Addr} {rows : List (List Bool)} {p : Addr} (x : RowsAt H ls rows) (k : KeptL [p] H H') (h : p ∉ ls) : RowsAt H' ls rows := ⟨x.1, fun j r b e1 e2 => k _ _ (by
  rw [List.mem_singleton]
  intro z
  exact h (by rw [← z]; exact List.mem_of_getElem? e2)) (x.2 j r b e1 e2)⟩
theorem rowsDv {H : Hp} {ts : List Addr} {rows : List (List Bool)} {a : Addr} (ha : H a = some (.tup (ts.map V.ref))) (hl : ts.length = rows.length) (h60 : rows.length ≤ 60) (h100 : ∀ r ∈ rows, r.length ≤ 100) (h : ∀ (j : Nat) (r : List Bool) (b : Addr), rows[j]? = some r → ts[j]? = some b → H b = some (.tup (r.map V.bl))) : Dv H (.ref a) (shPy rows) := by
  refine .tup ha (by rw [List.length_map]; omega) ?_
  clear ha
  induction rows generalizing ts with
  | nil =>
    cases ts with
    | nil => exact .nil
    | cons t ts => simp at hl
  | cons r rows ih =>
    cases ts with
    | nil => simp at hl
    | cons t ts =>
      refine .cons (.tup (h 0 r t rfl rfl) (by rw [List.length_map]; have := h100 r (by simp); omega) bools_dv) (ih (by simpa using hl) (by simp at h60; omega) (fun r hr => h100 r (by simp [hr])) fun j r b e1 e2 => h (j + 1) r b (by simpa using e1) (by simpa using e2))
def rTupOf (K : PySem.W.Frag) : List V → Hp → VK → Prop := fun xs H Q => ∃ p ys, xs = [.ref p] ∧ ((SqL K H p ys ∧ ∀ (l : Addr), H l = none → Q (.ref l) (upd H l (.tup ys))) ∨ SqT K H p ys ∧ Q (.ref p) H)
section
variable {P : Program} {w : World} {K : PySem.W.Frag} {mg : Str → Option Value} {base : Heap} {C_Moving C_Memory C_Heap : Addr}
def spShapes : Sp := fun vs H Q _ => ∃ (p : Addr) (n : Nat), vs = [.ref p] ∧ FeedAt H p n ∧ n + 1000 ≤ 2 ^ 60 ∧ ∀ (v : V) (sh : List (List Bool)) (m : Nat) (H' : Hp), KeptL [p] H H' → FeedAt H' p m → m ≤ n + 1000 → Dv H' v (shPy sh) → sh.length ≤ 60 → (∀ r ∈ sh, r.length ≤ 100) → 1 ≤ sh.length → Q v H'
def spWide : Sp := fun vs H Q _ => ∃ (p : Addr) (n : Nat), vs = [.ref p] ∧ FeedAt H p n ∧ n + 1000 ≤ 2 ^ 60 ∧ ∀ (v : V) (sh : List (List Bool)) (c : Sz) (m : Nat) (t u : V) (b : Addr) (H' : Hp), v = .ref b → H' b = some (.tup [t, u]) → KeptL [p] H H' → FeedAt H' p m → m ≤ n + 1000 → Dv H' t (shPy sh) → Dv H' u (szPy c) → szOk c → sh.length ≤ 60 → (∀ r ∈ sh, r.length ≤ 100) → Q v H'
theorem ok_wide {f : Addr} {fd : FuncData} (G : Gd K mg "_law_wide" s_law_wide ["_law_feed_here"] f fd) (X : Lw K mg C_Moving C_Memory C_Heap) : FnOk P w K mg base CX0 3 f fd ["_law_feed_here"] (spWide) := by
  obtain ⟨f__law_draw, d__law_draw, G__law_draw⟩ := X.f__law_draw
  have H__law_draw : FnOk P w K mg base CX0 1 f__law_draw d__law_draw ["_law_feed_here", "_law_many"] (spDk) := ok_drw G__law_draw X
  refine G.F.ok sc_law_wide (fun vs H Q E h => ?_) (fun cdv A outer s H vs Q E hr h => ?_)
  · obtain ⟨p, n, rfl, _⟩ := h; rfl
  · obtain ⟨p, n, rfl, hF, hn, q⟩ := h
    refine ⟨_, (pss_cons (ps_asg (pe_tup (pa_cons (pe_call H__law_draw (hr.mono (by decide)) (by rfl) G__law_draw.g G__law_draw.F.kp G__law_draw.b .nil pass0 (pa_cons (pv 0) (pa_cons pe_int pa_nil))) (pa_cons (pe_call H__law_draw (hr.mono (by decide)) (by rfl) G__law_draw.g G__law_draw.F.kp G__law_draw.b .nil pass0 (pa_cons (pv 0) (pa_cons pe_int pa_nil))) (pa_cons (pe_call H__law_draw (hr.mono (by decide)) (by rfl) G__law_draw.g G__law_draw.F.kp G__law_draw.b .nil pass0 (pa_cons (pv 0) (pa_cons pe_int pa_nil))) (pa_cons (pe_call H__law_draw (hr.mono (by decide)) (by rfl) G__law_draw.g G__law_draw.F.kp G__law_draw.b .nil pass0 (pa_cons (pv 0) (pa_cons pe_int pa_nil))) pa_nil))))) (pg_tup rfl (pgs_cons (pg_name (i := 1) sc_law_wide.nd rfl (Or.inl rfl)) (pgs_cons (pg_name (i := 2) sc_law_wide.nd rfl (Or.inr rfl)) (pgs_cons (pg_name (i := 3) sc_law_wide.nd rfl (Or.inr rfl)) (pgs_cons (pg_name (i := 4) sc_law_wide.nd rfl (Or.inr rfl)) pgs_nil))))))
      (pss_cons (ps_setLc (i := 5) (own := [("_law_k", 7)]) (g := (gName 7)) (tt := tYes) rfl sc_law_wide.nd rfl rfl (sw_true rfl rfl rfl (by decide +kernel)) (pi_range1 (by rfl) X.b_range (pa_cons (pv 1) pa_nil)) (blkOk_by (own := [("_law_k", 7)]) (N := ["_law_feed_here", "_law_many", "_law_most", "_law_a", "_law_b", "_law_shapes_here", "_law_slot", "_law_k", "_law_nursery", "_law_sizes_here", "_law_shape"]) (sc := defScope s_law_wide) (by decide +kernel)) (fun _ _ _ _ _ => (pg_name (i := 7) sc_law_wide.nd rfl (Or.inr rfl))) (fun _ _ _ _ _ => pts_nil) (fun _ _ _ _ _ => (pe_lc (own := [("_law_slot", 6)]) (g := (gName 6)) (tt := tYes) rfl sc_law_wide.nd (pi_range1 (by rfl) X.b_range (pa_cons (pe_op op_mod (pe_callTy call_int1 (by rfl) X.b_int (by decide +kernel) (pa_cons (pe_op op_add (pv 2) (pe_op op_mul pe_int (pv 7))) pa_nil)) pe_int) pa_nil)) (blkOk_by (own := [("_law_slot", 6)]) (N := ["_law_feed_here", "_law_many", "_law_most", "_law_a", "_law_b", "_law_shapes_here", "_law_slot", "_law_k", "_law_nursery", "_law_sizes_here", "_law_shape"]) (sc := { kind := .function, names := [(".0", .local), ("_law_k", .cell), ("range", .globalImplicit), ("int", .globalImplicit), ("_law_a", .cell), ("_law_b", .cell), ("_law_most", .cell)], isGenerator := false, isCoroutine := false }) (by decide +kernel)) (fun _ _ _ _ _ => (pg_name (i := 6) sc_law_wide.nd rfl (Or.inl rfl))) (fun _ _ _ _ _ => pts_nil) (fun _ _ _ _ _ => (pe_cmpR op_lt (pe_op op_mod (pe_callTy call_int1 (by rfl) X.b_int (by decide +kernel) (pa_cons (pe_op op_add (pe_op op_add (pe_op op_mul (pe_op op_mul (pv 3) (pv 6)) (pv 6)) (pe_op op_mul (pv 4) (pv 6))) (pv 7)) pa_nil)) pe_int) pe_int (nomark _))))))
      (pss_cons (ps_set (i := 8) sc_law_wide.nd rfl (Or.inl rfl) (pe_op op_add pe_int (pe_call H__law_draw (hr.mono (by decide)) (by rfl) G__law_draw.g G__law_draw.F.kp G__law_draw.b .nil pass0 (pa_cons (pv 0) (pa_cons pe_int pa_nil)))))
      (pss_cons (ps_set (i := 9) sc_law_wide.nd rfl (Or.inl rfl) (pe_tup (pa_cons (pv 8) (pa_cons (pe_call H__law_draw (hr.mono (by decide)) (by rfl) G__law_draw.g G__law_draw.F.kp G__law_draw.b .nil pass0 (pa_cons (pv 0) (pa_cons pe_int pa_nil))) (pa_cons (pe_op op_add pe_int (pe_call H__law_draw (hr.mono (by decide)) (by rfl) G__law_draw.g G__law_draw.F.kp G__law_draw.b .nil pass0 (pa_cons (pv 0) (pa_cons (pe_op op_sub (pv 8) pe_int) pa_nil)))) (pa_cons (pe_op op_add pe_int (pe_call H__law_draw (hr.mono (by decide)) (by rfl) G__law_draw.g G__law_draw.F.kp G__law_draw.b .nil pass0 (pa_cons (pv 0) (pa_cons pe_int pa_nil)))) pa_nil))))))
      (pss_one (ps_ret (pe_tup (pa_cons (pe_callTy call_tuple_of (by rfl) X.b_tuple (by decide +kernel) (pa_cons (pe_lc (own := [("_law_shape", 10)]) (g := (gName 10)) (te := tCB (rTupOf K) (tCons (tVar 10) tNil)) (tt := tYes) rfl sc_law_wide.nd (pi_list (pv 5)) (blkOk_by (own := [("_law_shape", 10)]) (N := ["_law_feed_here", "_law_many", "_law_most", "_law_a", "_law_b", "_law_shapes_here", "_law_slot", "_law_k", "_law_nursery", "_law_sizes_here", "_law_shape"]) (sc := defScope s_law_wide) (by decide +kernel)) (fun _ _ _ _ _ => (pg_name (i := 10) sc_law_wide.nd rfl (Or.inl rfl))) (fun _ _ _ _ _ => pts_nil) (fun _ _ _ _ _ => (pe_callTy call_tuple_of (by rfl) X.b_tuple (by decide +kernel) (pa_cons (pv 10) pa_nil)))) pa_nil)) (pa_cons (pv 9) pa_nil))))))))), ?_⟩
    refine ⟨_, rfl, p, 61, n, rfl, hF, by omega, by decide, by decide, fun mn H1 m0 m1 k1 F1 => ?_⟩
    refine ⟨_, rfl, p, 101, n + 1, rfl, F1, by omega, by decide, by decide, fun ms H2 s0 s1 k2 F2 => ?_⟩
    refine ⟨_, rfl, p, 97, n + 2, rfl, F2, by omega, by decide, by decide, fun ka H3 a0 a1 k3 F3 => ?_⟩
    refine ⟨_, rfl, p, 89, n + 3, rfl, F3, by omega, by decide, by decide, fun kb H4 b0 b1 k4 F4 => ?_⟩
    refine ⟨by show 4 ≤ sizeLine; decide, fun T nT => ⟨T, _, rfl, SqT.of upd_same, rfl, _, _, rfl, _, _, rfl, _, _, rfl, _, _, rfl, rfl, ?_⟩⟩
    obtain ⟨H5, g5⟩ : ∃ G : Hp, G = upd H4 T (.tup [.int mn, .int ms, .int ka, .int kb]) := ⟨_, rfl⟩
    refine at_nx g5 ?_
    have k5 : KeptL [p] H H5 := by rw [g5]; exact (((k1.trans k2).trans k3).trans k4).trans (KeptL.of_same (same_new nT))
    have F5 : FeedAt H5 p (n + 4) := by rw [g5]; exact feed_new F4 nT
    obtain ⟨mn, rfl⟩ := Int.eq_ofNat_of_zero_le m0
    obtain ⟨ms, rfl⟩ := Int.eq_ofNat_of_zero_le s0
    obtain ⟨ka, rfl⟩ := Int.eq_ofNat_of_zero_le a0
    obtain ⟨kb, rfl⟩ := Int.eq_ofNat_of_zero_le b0
    refine ⟨_, rfl, _, rfl, by omega, by omega, fun D nD => ?_⟩
    refine lc_range (n := ((mn : Nat) : Int).toNat) (lo := 0) (fun i H6 => ∃ (ls : List Addr) (rows : List (List Bool)), H6 D = some (.lst (ls.map V.ref)) ∧ rows.length = i ∧ RowsAt H6 ls rows ∧ (∀ r ∈ rows, r.length ≤ 100) ∧ Same H5 H6 ∧ D ∉ ls ∧ p ∉ ls) ⟨[], [], upd_same, rfl, ⟨rfl, fun j r b e => by simp at e⟩, fun r h => by simp at h, same_new nD, by simp, by simp⟩ ?_ ?_
    · rintro i H6 hi ⟨ls, rows, hD, hrl, hrows, hr100, S6, nDl, npl⟩
      refine ⟨rfl, _, rfl, _, rfl, _, _, rfl, rfl, .inl ⟨by decide, by decide⟩, _, _, rfl, rfl, .inl ⟨_, rfl, _, _, rfl, rfl, (show (0 : Int) < 101 by decide), _, rfl, by omega, by omega, fun D2 nD2 => ?_⟩⟩
      refine lc_range (n := (((ms : Int) + 7 * (0 + (i : Int))) % 101).toNat) (lo := 0) (fun j H7 => ∃ bs : List Bool, H7 D2 = some (.lst (bs.map V.bl)) ∧ bs.length = j ∧ Same H6 H7) ⟨[], upd_same, rfl, same_new nD2⟩ ?_ ?_
      · rintro j H7 hj ⟨bs, hb, hbl, S7⟩
        refine ⟨rfl, _, rfl, _, rfl, _, _, rfl, rfl, .inl ⟨by omega, by omega⟩, _, rfl, _, _, rfl, rfl, .inr ⟨by omega, by omega⟩, _, rfl, _, rfl, _, _, rfl, rfl, .inl ⟨by omega, by omega⟩, _, _, rfl, rfl, _, rfl, _, _, rfl, rfl, .inl ⟨_, rfl, _, _, rfl, rfl, (show (0 : Int) < 5 by decide), _, _, rfl, rfl, bs.map V.bl, hb, ?_, ⟨bs ++ [_], by rw [upd_same, List.map_append]; rfl, by rw [List.length_append, hbl]; rfl, same_at nD2 S7⟩⟩⟩
        rw [List.length_map]
        exact small1000 (by omega)
      · rintro H7 ⟨bs, hb, hbl, S7⟩
        have nDD : D2 ≠ D := (ne_of_none hD nD2).symm
        refine ⟨ls.map V.ref, S7 _ _ hD, by rw [List.length_map, hrows.1]; exact small1000 (by omega), ls ++ [D2], rows ++ [bs], by rw [upd_same, List.map_append]; rfl, by rw [List.length_append, hrl]; rfl, ((hrows.same S7).snoc hb).atD (by simp [nDl, nDD.symm]), fun r hr => ?_, same_at nD (S6.trans S7), by simp [nDl, nDD.symm], by simp [npl, (feed_ne (feedS F5 S6) nD2).symm]⟩
        rcases List.mem_append.mp hr with z | z
        · exact hr100 r z
        · rw [List.mem_singleton.mp z, hbl]
          omega
    · rintro H6 ⟨ls, rows, hD, hrl, hrows, hr100, S6, nDl, npl⟩
      have F6 := feedS F5 S6
      have k6 := k5.trans (KeptL.of_same S6)
      refine ⟨_, rfl, p, 4081, n + 4, rfl, F6, by omega, by decide, by decide, fun nu H7 u0 u1 k7 F7 => ⟨_, _, rfl, rfl, ?_⟩⟩
      obtain ⟨nu, rfl⟩ := Int.eq_ofNat_of_zero_le u0
      refine ⟨_, rfl, _, rfl, p, 4097, n + 5, rfl, F7, by omega, by decide, by decide, fun hf H8 h0 h1 k8 F8 => ?_⟩
      obtain ⟨hf, rfl⟩ := Int.eq_ofNat_of_zero_le h0
      refine ⟨_, rfl, _, rfl, _, _, rfl, rfl, p, (16 + (nu : Int)) - 3, n + 6, rfl, F8, by omega, by omega, by omega, fun gr H9 g0 g1 k9 F9 => ⟨_, _, rfl, rfl, ?_⟩⟩
      obtain ⟨gr, rfl⟩ := Int.eq_ofNat_of_zero_le g0
      refine ⟨_, rfl, p, 7, n + 7, rfl, F9, by omega, by decide, by decide, fun ag H10 q0 q1 k10 F10 => ⟨_, _, rfl, rfl, by show 4 ≤ sizeLine; decide, fun Z nZ => ?_⟩⟩
      obtain ⟨ag, rfl⟩ := Int.eq_ofNat_of_zero_le q0
      have fZ : upd H10 Z (.tup [.int (16 + (nu : Int)), .int (hf : Int), .int (4 + (gr : Int)), .int (1 + (ag : Int))]) Z = some (.tup [.int (16 + (nu : Int)), .int (hf : Int), .int (4 + (gr : Int)), .int (1 + (ag : Int))]) := upd_same
      obtain ⟨H11, g11⟩ : ∃ G : Hp, G = upd H10 Z (.tup [.int (16 + (nu : Int)), .int (hf : Int), .int (4 + (gr : Int)), .int (1 + (ag : Int))]) := ⟨_, rfl⟩
      refine at_nx g11 ?_
      have F11 : FeedAt H11 p (n + 8) := by rw [g11]; exact feed_new F10 nZ
      have k611 : KeptL [p] H6 H11 := by rw [g11]; exact ((((k7.trans k8).trans k9).trans k10)).trans (KeptL.of_same (same_new nZ))
      rw [← g11] at fZ
      have hD11 := k611 _ _ (by rw [List.mem_singleton]; exact feed_ne F5 nD) hD
      have rows11 := hrows.kept k611 npl
      refine ⟨_, rfl, D, rfl, ⟨_, SqL.of hD11⟩, fun D3 nD3 => ?_⟩
      refine lc_list (K := K) (xs := ls.map V.ref) (fun i H12 => ∃ ts : List Addr, H12 D3 = some (.lst (ts.map V.ref)) ∧ ts.length = i ∧ (∀ (j : Nat) (r : List Bool) (b : Addr), rows[j]? = some r → ts[j]? = some b → H12 b = some (.tup (r.map V.bl))) ∧ Same H11 H12) ⟨[], upd_same, rfl, fun j r b e1 e2 => by simp at e2, same_new nD3⟩ ?_ ?_ ?_
      · rintro i H12 _ ⟨_, _, _, _, S12⟩
        exact SqL.of (S12 _ _ hD11)
      · rintro i x H12 hi ⟨ts, hts, htl, hte, S12⟩
        rw [List.getElem?_map] at hi
        obtain ⟨b, hb, rfl⟩ := Option.map_eq_some_iff.mp hi
        have hil : i < ls.length := (List.getElem?_eq_some_iff.mp hb).1
        have hir : i < rows.length := by rw [← rows11.1]; exact hil
        have hbb := S12 _ _ (rows11.2 i rows[i] b (List.getElem?_eq_getElem hir) hb)
        refine ⟨rfl, _, rfl, b, _, rfl, .inl ⟨SqL.of hbb, fun l nl => ⟨ts.map V.ref, by rw [upd_ne (ne_of_none hts nl)]; exact hts, by rw [List.length_map, htl]; exact small1000 (by omega), ts ++ [l], by rw [upd_same, List.map_append]; rfl, by rw [List.length_append, htl]; rfl, fun j r b' e1 e2 => ?_, same_at nD3 (S12.trans (same_new nl))⟩⟩⟩
        by_cases hj : j < ts.length
        · rw [List.getElem?_append_left hj] at e2
          have h1 := hte j r b' e1 e2
          rw [upd_ne (ne_of h1 hts (by intro z; cases z)), upd_ne (ne_of_none h1 nl)]
          exact h1
        · have hl := (List.getElem?_eq_some_iff.mp e2).1
          rw [List.length_append] at hl
          have ej : j = ts.length := by simp at hl; omega
          rw [ej, List.getElem?_append_right (Nat.le_refl _), Nat.sub_self] at e2
          cases e2
          rw [ej, htl, List.getElem?_eq_getElem hir] at e1
          cases e1
          rw [upd_ne (ne_of_none hts nl).symm, upd_same]
      · rintro H12 ⟨ts, hts, htl, hte, S12⟩
        refine ⟨_, _, rfl, .inl ⟨SqL.of hts, fun t1 nt1 => ⟨_, rfl, by show 2 ≤ sizeLine; decide, fun b nb => ?_⟩⟩⟩
        have S13 := S12.trans (same_new (o := .tup (ts.map V.ref)) nt1)
        have sb := same_new (o := .tup [.ref t1, .ref Z]) nb
        rw [List.length_map, rows11.1] at htl
        refine q (.ref b) rows (16 + nu, hf, 4 + gr, 1 + ag) (n + 8) (.ref t1) (.ref Z) b _ rfl upd_same ((k6.trans k611).trans (KeptL.of_same (S13.trans sb))) (feedS F11 (S13.trans sb)) (by omega) (rowsDv (sb _ _ upd_same) htl (by omega) hr100 fun j r b' e1 e2 => (sb _ _ (same_new nt1 _ _ (hte j r b' e1 e2)))) (szPy_mk ((S13.trans sb) _ _ fZ)) ?_ (by omega) hr100
        exact ⟨by show 16 ≤ 16 + nu; omega, by show 16 + nu ≤ 4096; omega, by show hf ≤ 4096; omega, by show 4 ≤ 4 + gr; omega, by show 4 + gr ≤ 16 + nu; omega, by show 1 ≤ 1 + ag; omega, by show 1 + ag ≤ 7; omega⟩
end
end PH

/-! Shapes drawn narrow. -/
namespace PH
open PySem PySem.Spec PyProof.Rows L2 KA KI KK PV T ET
theorem RowsAt.put {H : Hp} {ls : List Addr} {rows : List (List Bool)} {b : Addr} {r : List Bool} {i : Nat} (x : RowsAt H ls rows) (h : H b = some (.lst (r.map V.bl))) : RowsAt H (ls.set i b) (rows.set i r) := by
  refine ⟨by rw [List.length_set, List.length_set, x.1], fun j r' b' e1 e2 => ?_⟩
  rw [List.getElem?_set] at e1 e2
  by_cases hj : i = j
  · rw [if_pos hj] at e1 e2
    split at e1
    · split at e2
      · cases e1
        cases e2
        exact h
      · cases e2
    · cases e1
  · rw [if_neg hj] at e1 e2
    exact x.2 j r' b' e1 e2
theorem not_set {ls : List Addr} {x b : Addr} {i : Nat} (h : x ∉ ls) (hb : x ≠ b) : x ∉ ls.set i b := fun z => by
  rcases List.mem_or_eq_of_mem_set z with z | z
  · exact h z
  · exact hb z
theorem rows_set {rows : List (List Bool)} {r : List Bool} {i : Nat} (h : ∀ r ∈ rows, r.length ≤ 100) (hr : r.length ≤ 100) : ∀ x ∈ rows.set i r, x.length ≤ 100 := fun x z => by
  rcases List.mem_or_eq_of_mem_set z with z | z
  · exact h x z
  · rw [z]; exact hr
section
variable {P : Program} {w : World} {K : PySem.W.Frag} {mg : Str → Option Value} {base : Heap} {C_Moving C_Memory C_Heap : Addr}
theorem ok_shapes {f : Addr} {fd : FuncData} (G : Gd K mg "_law_shapes" s_law_shapes ["_law_feed_here"] f fd) (X : Lw K mg C_Moving C_Memory C_Heap) : FnOk P w K mg base CX0 3 f fd ["_law_feed_here"] (spShapes) := by
  obtain ⟨f__law_draw, d__law_draw, G__law_draw⟩ := X.f__law_draw
  have H__law_draw : FnOk P w K mg base CX0 1 f__law_draw d__law_draw ["_law_feed_here", "_law_many"] (spDk) := ok_drw G__law_draw X
  refine G.F.ok sc_law_shapes (fun vs H Q E h => ?_) (fun cdv A outer s H vs Q E hr h => ?_)
  · obtain ⟨p, n, rfl, _⟩ := h; rfl
  · obtain ⟨p, n, rfl, hF, hn, q⟩ := h
    refine ⟨_, (pss_cons (ps_par (i := 1) (j := 2) (by rfl) sc_law_shapes.nd rfl rfl (by decide) rfl rfl (pa_cons (pe_op op_add pe_int (pe_call H__law_draw (hr.mono (by decide)) (by rfl) G__law_draw.g G__law_draw.F.kp G__law_draw.b .nil pass0 (pa_cons (pv 0) (pa_cons pe_int pa_nil)))) (pa_cons (pe_call H__law_draw (hr.mono (by decide)) (by rfl) G__law_draw.g G__law_draw.F.kp G__law_draw.b .nil pass0 (pa_cons (pv 0) (pa_cons pe_int pa_nil))) pa_nil)) (by rfl))
      (C8.pss_cut (ps_if (pt_cmpR op_eq (pv 2) pe_int (nomark _))
        (pss_one (ps_set (i := 1) sc_law_shapes.nd rfl (Or.inl rfl) pe_int)) pss_nil)
      (pss_cons (ps_setLc (i := 3) (own := [("_law_turn", 5)]) (g := (gName 5)) (tt := tYes) rfl sc_law_shapes.nd rfl rfl (sw_true rfl rfl rfl (by decide +kernel)) (pi_range1 (by rfl) X.b_range (pa_cons (pv 1) pa_nil)) (blkOk_by (own := [("_law_turn", 5)]) (N := ["_law_feed_here", "_law_many", "_law_wide_here", "_law_found", "_law_field", "_law_turn", "_law_at", "_law_one_here", "_law_two", "_law_shape"]) (sc := defScope s_law_shapes) (by decide +kernel)) (fun _ _ _ _ _ => (pg_name (i := 5) sc_law_shapes.nd rfl (Or.inl rfl))) (fun _ _ _ _ _ => pts_nil) (fun _ _ _ _ _ => (pe_lc (own := [("_law_field", 4)]) (g := (gName 4)) (tt := tYes) rfl sc_law_shapes.nd (pi_range1 (by rfl) X.b_range (pa_cons (pe_call H__law_draw (hr.mono (by decide)) (by rfl) G__law_draw.g G__law_draw.F.kp G__law_draw.b .nil pass0 (pa_cons (pv 0) (pa_cons pe_int pa_nil))) pa_nil)) (blkOk_by (own := [("_law_field", 4)]) (N := ["_law_feed_here", "_law_many", "_law_wide_here", "_law_found", "_law_field", "_law_turn", "_law_at", "_law_one_here", "_law_two", "_law_shape"]) (sc := { kind := .function, names := [(".0", .local), ("_law_turn", .local), ("range", .globalImplicit), ("_law_draw", .globalImplicit), ("_law_feed_here", .cell)], isGenerator := false, isCoroutine := false }) (by decide +kernel)) (fun _ _ _ _ _ => (pg_name (i := 4) sc_law_shapes.nd rfl (Or.inl rfl))) (fun _ _ _ _ _ => pts_nil) (fun _ _ _ _ _ => (pe_cmpR op_eq (pe_call H__law_draw (hr.mono (by decide)) (by rfl) G__law_draw.g G__law_draw.F.kp G__law_draw.b .nil pass0 (pa_cons (pv 0) (pa_cons pe_int pa_nil))) pe_int (nomark _))))))
      (C8.pss_cut (ps_if (pt_chain op_lt op_lt pe_int (pv 2) pe_int)
        (pss_cons (ps_set (i := 6) sc_law_shapes.nd rfl (Or.inl rfl) (pe_call H__law_draw (hr.mono (by decide)) (by rfl) G__law_draw.g G__law_draw.F.kp G__law_draw.b .nil pass0 (pa_cons (pv 0) (pa_cons (pv 1) pa_nil))))
      (pss_one (ps_asg (pe_lc (own := [("_law_field", 4)]) (g := (gName 4)) (tt := tYes) rfl sc_law_shapes.nd (pi_range1 (by rfl) X.b_range (pa_cons (pe_op op_add pe_int (pe_call H__law_draw (hr.mono (by decide)) (by rfl) G__law_draw.g G__law_draw.F.kp G__law_draw.b .nil pass0 (pa_cons (pv 0) (pa_cons pe_int pa_nil)))) pa_nil)) (blkOk_by (own := [("_law_field", 4)]) (N := ["_law_feed_here", "_law_many", "_law_wide_here", "_law_found", "_law_field", "_law_turn", "_law_at", "_law_one_here", "_law_two", "_law_shape"]) (sc := defScope s_law_shapes) (by decide +kernel)) (fun _ _ _ _ _ => (pg_name (i := 4) sc_law_shapes.nd rfl (Or.inl rfl))) (fun _ _ _ _ _ => pts_nil) (fun _ _ _ _ _ => (pe_cmpR op_eq (pe_call H__law_draw (hr.mono (by decide)) (by rfl) G__law_draw.g G__law_draw.F.kp G__law_draw.b .nil pass0 (pa_cons (pv 0) (pa_cons pe_int pa_nil))) pe_int (nomark _)))) (pg_sub (pv 3) (pv 6) set_list)))) pss_nil)
      (C8.pss_cut (ps_if (pt_cmpR op_eq (pv 2) pe_int (nomark _))
        (pss_cons (ps_asg (pe_tup (pa_cons (pe_call H__law_draw (hr.mono (by decide)) (by rfl) G__law_draw.g G__law_draw.F.kp G__law_draw.b .nil pass0 (pa_cons (pv 0) (pa_cons pe_int pa_nil))) (pa_cons (pe_call H__law_draw (hr.mono (by decide)) (by rfl) G__law_draw.g G__law_draw.F.kp G__law_draw.b .nil pass0 (pa_cons (pv 0) (pa_cons pe_int pa_nil))) pa_nil))) (pg_tup rfl (pgs_cons (pg_name (i := 7) sc_law_shapes.nd rfl (Or.inr rfl)) (pgs_cons (pg_name (i := 8) sc_law_shapes.nd rfl (Or.inr rfl)) pgs_nil))))
      (pss_one (ps_asg (pe_lc (own := [("_law_field", 4)]) (g := (gName 4)) (tt := tYes) rfl sc_law_shapes.nd (pi_range1 (by rfl) X.b_range (pa_cons (pe_call H__law_draw (hr.mono (by decide)) (by rfl) G__law_draw.g G__law_draw.F.kp G__law_draw.b .nil pass0 (pa_cons (pv 0) (pa_cons pe_int pa_nil))) pa_nil)) (blkOk_by (own := [("_law_field", 4)]) (N := ["_law_feed_here", "_law_many", "_law_wide_here", "_law_found", "_law_field", "_law_turn", "_law_at", "_law_one_here", "_law_two", "_law_shape"]) (sc := defScope s_law_shapes) (by decide +kernel)) (fun _ _ _ _ _ => (pg_name (i := 4) sc_law_shapes.nd rfl (Or.inl rfl))) (fun _ _ _ _ _ => pts_nil) (fun _ _ _ _ _ => (pe_cmpR op_lt (pe_op op_mod (pe_callTy call_int1 (by rfl) X.b_int (by decide +kernel) (pa_cons (pe_op op_add (pe_op op_mul (pe_op op_mul (pv 7) (pv 4)) (pv 4)) (pe_op op_mul (pv 8) (pv 4))) pa_nil)) pe_int) pe_int (nomark _)))) (pg_sub (pv 3) pe_int set_list)))) pss_nil)
      (pss_one (ps_ret (pe_callTy call_tuple_of (by rfl) X.b_tuple (by decide +kernel) (pa_cons (pe_lc (own := [("_law_shape", 9)]) (g := (gName 9)) (te := tCB (rTupOf K) (tCons (tVar 9) tNil)) (tt := tYes) rfl sc_law_shapes.nd (pi_list (pv 3)) (blkOk_by (own := [("_law_shape", 9)]) (N := ["_law_feed_here", "_law_many", "_law_wide_here", "_law_found", "_law_field", "_law_turn", "_law_at", "_law_one_here", "_law_two", "_law_shape"]) (sc := defScope s_law_shapes) (by decide +kernel)) (fun _ _ _ _ _ => (pg_name (i := 9) sc_law_shapes.nd rfl (Or.inl rfl))) (fun _ _ _ _ _ => pts_nil) (fun _ _ _ _ _ => (pe_callTy call_tuple_of (by rfl) X.b_tuple (by decide +kernel) (pa_cons (pv 9) pa_nil)))) pa_nil))))))))), ?_⟩
    refine ⟨_, rfl, p, 3, n, rfl, hF, by omega, by decide, by decide, fun m0 H1 m1 m2 k1 F1 => ⟨_, _, rfl, rfl, ?_⟩⟩
    refine ⟨_, rfl, p, 16, n + 1, rfl, F1, by omega, by decide, by decide, fun wd H2 w0 w1 k2 F2 => ?_⟩
    have k12 := k1.trans k2
    refine ⟨_, _, rfl, fun σ' H' => ∃ mn : Nat, σ' = [some (.ref p), some (.int mn), some (.int wd), none, none, none, none, none, none, none] ∧ H2 = H' ∧ 1 ≤ mn ∧ mn ≤ 9, ?_, ?_⟩
    · obtain ⟨m0, rfl⟩ := Int.eq_ofNat_of_zero_le m1
      refine ⟨_, rfl, rfl, _, rfl, ite2 (fun _ => ?_) (fun _ => ?_)⟩
      · exact ⟨9, rfl, rfl, by omega, by omega⟩
      · exact ⟨1 + m0, rfl, rfl, by omega, by omega⟩
    rintro _ _ ⟨mn, rfl, rfl, c1, c9⟩
    refine ⟨_, rfl, _, rfl, by omega, by omega, fun D nD => ?_⟩
    refine lc_range (n := ((mn : Nat) : Int).toNat) (lo := 0) (fun i H6 => ∃ (ls : List Addr) (rows : List (List Bool)) (m : Nat), H6 D = some (.lst (ls.map V.ref)) ∧ rows.length = i ∧ RowsAt H6 ls rows ∧ (∀ r ∈ rows, r.length ≤ 100) ∧ KeptL [p] H2 H6 ∧ FeedAt H6 p m ∧ m ≤ n + 2 + 6 * i ∧ D ∉ ls ∧ p ∉ ls) ⟨[], [], n + 2, upd_same, rfl, ⟨rfl, fun j r b e => by simp at e⟩, fun r h => by simp at h, KeptL.of_same (same_new nD), feed_new F2 nD, by omega, by simp, by simp⟩ ?_ ?_
    · rintro i H6 hi ⟨ls, rows, m, hD, hrl, hrows, hr100, k6, F6, hm, nDl, npl⟩
      refine ⟨rfl, _, rfl, p, 5, m, rfl, F6, by omega, by decide, by decide, fun r H7 r0 r1 k7 F7 => ⟨_, rfl, by omega, by omega, fun D2 nD2 => ?_⟩⟩
      have hDp : D ≠ p := feed_ne F2 nD
      have hD7 := k7 _ _ (by rw [List.mem_singleton]; exact hDp) hD
      have hD2p : D2 ≠ p := feed_ne F7 nD2
      have nDD : D ≠ D2 := ne_of_none hD7 nD2
      refine lc_range (n := r.toNat) (lo := 0) (fun j H8 => ∃ (bs : List Bool) (m' : Nat), H8 D2 = some (.lst (bs.map V.bl)) ∧ bs.length = j ∧ KeptL [p] H7 H8 ∧ FeedAt H8 p m' ∧ m' ≤ m + 1 + j) ⟨[], m + 1, upd_same, rfl, KeptL.of_same (same_new nD2), feed_new F7 nD2, by omega⟩ ?_ ?_
      · rintro j H8 hj ⟨bs, m', hb, hbl, k8, F8, hm'⟩
        refine ⟨rfl, _, rfl, p, 2, m', rfl, F8, by omega, by decide, by decide, fun v H9 v0 v1 k9 F9 => ⟨rfl, bs.map V.bl, k9 _ _ (by rw [List.mem_singleton]; exact hD2p) hb, ?_, bs ++ [_], m' + 1, by rw [upd_same, List.map_append]; rfl, by rw [List.length_append, hbl]; rfl, ?_, feed_at2 F9 hD2p, by omega⟩⟩
        · rw [List.length_map]
          exact small1000 (by omega)
        · exact kept_at (k8.trans k9) nD2
      · rintro H8 ⟨bs, m', hb, hbl, k8, F8, hm'⟩
        refine ⟨ls.map V.ref, k8 _ _ (by rw [List.mem_singleton]; exact hDp) hD7, by rw [List.length_map, hrows.1]; exact small1000 (by omega), ls ++ [D2], rows ++ [bs], m', by rw [upd_same, List.map_append]; rfl, by rw [List.length_append, hrl]; rfl, ((hrows.kept (k7.trans k8) npl).snoc hb).atD (by simp [nDl, nDD]), fun r' hr => ?_, kept_at (k6.trans (k7.trans k8)) nD, feed_at2 F8 hDp, by omega, by simp [nDl, nDD], by simp [npl, hD2p.symm]⟩
        rcases List.mem_append.mp hr with z | z
        · exact hr100 r' z
        · rw [List.mem_singleton.mp z, hbl]
          omega
    rintro H6 ⟨ls, rows, m, hD, hrl, hrows, hr100, k6, F6, hm, nDl, npl⟩
    have hDp : D ≠ p := feed_ne F2 nD
    have hmn : ((mn : Nat) : Int).toNat = mn := by omega
    rw [hmn] at hrl hm
    refine ⟨fun σ' H' => ∃ (ls : List Addr) (rows : List (List Bool)) (m : Nat) (o6 : Option V), σ' = [some (.ref p), some (.int mn), some (.int wd), some (.ref D), none, none, o6, none, none, none] ∧ H' D = some (.lst (ls.map V.ref)) ∧ rows.length = mn ∧ RowsAt H' ls rows ∧ (∀ r ∈ rows, r.length ≤ 100) ∧ KeptL [p] H2 H' ∧ FeedAt H' p m ∧ m ≤ n + 200 ∧ D ∉ ls ∧ p ∉ ls, ?_, ?_⟩
    · refine ⟨_, rfl, _, _, rfl, rfl, _, rfl, ite2 (fun _ => ?_) (fun _ => ?_)⟩
      · refine ⟨_, _, rfl, rfl, _, rfl, ite2 (fun _ => ?_) (fun _ => ?_)⟩
        · refine ⟨_, rfl, _, rfl, p, mn, m, rfl, F6, by omega, by omega, by omega, fun x H7 a0 a1 k7 F7 => ?_⟩
          obtain ⟨x, rfl⟩ := Int.eq_ofNat_of_zero_le a0
          refine ⟨_, rfl, p, 10, m + 1, rfl, F7, by omega, by decide, by decide, fun r H8 r0 r1 k8 F8 => ⟨_, _, rfl, rfl, _, rfl, by omega, by omega, fun D2 nD2 => ?_⟩⟩
          have hD8 := (k7.trans k8) _ _ (by rw [List.mem_singleton]; exact hDp) hD
          have hD2p : D2 ≠ p := feed_ne F8 nD2
          have nDD : D ≠ D2 := ne_of_none hD8 nD2
          refine lc_range (n := (5 + r).toNat) (lo := 0) (fun j H9 => ∃ (bs : List Bool) (m' : Nat), H9 D2 = some (.lst (bs.map V.bl)) ∧ bs.length = j ∧ KeptL [p] H8 H9 ∧ FeedAt H9 p m' ∧ m' ≤ m + 2 + j) ⟨[], m + 2, upd_same, rfl, KeptL.of_same (same_new nD2), feed_new F8 nD2, by omega⟩ ?_ ?_
          · rintro j H9 hj ⟨bs, m', hb, hbl, k9, F9, hm'⟩
            refine ⟨rfl, _, rfl, p, 2, m', rfl, F9, by omega, by decide, by decide, fun v H10 v0 v1 k10 F10 => ⟨rfl, bs.map V.bl, k10 _ _ (by rw [List.mem_singleton]; exact hD2p) hb, ?_, bs ++ [_], m' + 1, by rw [upd_same, List.map_append]; rfl, by rw [List.length_append, hbl]; rfl, kept_at (k9.trans k10) nD2, feed_at2 F10 hD2p, by omega⟩⟩
            rw [List.length_map]
            exact small1000 (by omega)
          · rintro H9 ⟨bs, m', hb, hbl, k9, F9, hm'⟩
            have k79 := k7.trans (k8.trans k9)
            refine ⟨_, rfl, _, rfl, D, _, (x : Int), x, rfl, rfl, k79 _ _ (by rw [List.mem_singleton]; exact hDp) hD, ?_, ls.set x D2, rows.set x bs, m', some (.int x), rfl, by rw [upd_same, List.map_set], by rw [List.length_set]; exact hrl, ((hrows.kept k79 npl).put hb).atD (not_set nDl nDD), rows_set hr100 (by omega), kept_at (k6.trans k79) nD, feed_at2 F9 hDp, by omega, not_set nDl nDD, not_set npl hD2p.symm⟩
            unfold ixN
            rw [List.length_map, if_pos (by omega), if_pos (by have := hrows.1; show (x : Int) < (ls.length : Int); omega)]
            rfl
        · exact ⟨ls, rows, m, none, rfl, hD, hrl, hrows, hr100, k6, F6, by omega, nDl, npl⟩
      · exact ⟨_, rfl, iteF ⟨ls, rows, m, none, rfl, hD, hrl, hrows, hr100, k6, F6, by omega, nDl, npl⟩⟩
    rintro _ H7 ⟨ls, rows, m, o6, rfl, hD, hrl, hrows, hr100, k6, F6, hm, nDl, npl⟩
    refine ⟨fun σ' H' => ∃ (ls : List Addr) (rows : List (List Bool)) (m : Nat) (o6 o7 o8 : Option V), σ' = [some (.ref p), some (.int mn), some (.int wd), some (.ref D), none, none, o6, o7, o8, none] ∧ H' D = some (.lst (ls.map V.ref)) ∧ rows.length = mn ∧ RowsAt H' ls rows ∧ (∀ r ∈ rows, r.length ≤ 100) ∧ KeptL [p] H2 H' ∧ FeedAt H' p m ∧ m ≤ n + 300 ∧ D ∉ ls ∧ p ∉ ls, ?_, ?_⟩
    · refine ⟨_, rfl, rfl, _, rfl, ite2 (fun _ => ?_) (fun _ => ?_)⟩
      · refine ⟨_, rfl, p, 97, m, rfl, F6, by omega, by decide, by decide, fun ka H8 a0 a1 k8 F8 => ?_⟩
        refine ⟨_, rfl, p, 89, m + 1, rfl, F8, by omega, by decide, by decide, fun kb H9 b0 b1 k9 F9 => ⟨by show 2 ≤ sizeLine; decide, fun T nT => ⟨T, _, rfl, SqT.of upd_same, rfl, _, _, rfl, _, _, rfl, rfl, ?_⟩⟩⟩
        obtain ⟨H10, g10⟩ : ∃ G : Hp, G = upd H9 T (.tup [.int ka, .int kb]) := ⟨_, rfl⟩
        refine at_nx g10 ?_
        have F10 : FeedAt H10 p (m + 2) := by rw [g10]; exact feed_new F9 nT
        have k10 : KeptL [p] H7 H10 := by rw [g10]; exact (k8.trans k9).trans (KeptL.of_same (same_new nT))
        refine ⟨_, rfl, p, 101, m + 2, rfl, F10, by omega, by decide, by decide, fun r H11 r0 r1 k11 F11 => ⟨_, rfl, by omega, by omega, fun D2 nD2 => ?_⟩⟩
        have hD11 := (k10.trans k11) _ _ (by rw [List.mem_singleton]; exact hDp) hD
        have hD2p : D2 ≠ p := feed_ne F11 nD2
        have nDD : D ≠ D2 := ne_of_none hD11 nD2
        refine lc_range (n := r.toNat) (lo := 0) (fun j H12 => ∃ bs : List Bool, H12 D2 = some (.lst (bs.map V.bl)) ∧ bs.length = j ∧ Same H11 H12) ⟨[], upd_same, rfl, same_new nD2⟩ ?_ ?_
        · rintro j H12 hj ⟨bs, hb, hbl, S12⟩
          refine ⟨rfl, _, rfl, _, rfl, _, _, rfl, rfl, .inl ⟨by omega, by omega⟩, _, rfl, _, _, rfl, rfl, .inr ⟨by omega, by omega⟩, _, rfl, _, rfl, _, _, rfl, rfl, .inl ⟨by omega, by omega⟩, _, _, rfl, rfl, .inl ⟨_, rfl, _, _, rfl, rfl, (show (0 : Int) < 5 by decide), _, _, rfl, rfl, bs.map V.bl, hb, ?_, ⟨bs ++ [_], by rw [upd_same, List.map_append]; rfl, by rw [List.length_append, hbl]; rfl, same_at nD2 S12⟩⟩⟩
          rw [List.length_map]
          exact small1000 (by omega)
        · rintro H12 ⟨bs, hb, hbl, S12⟩
          have k12' := k10.trans (k11.trans (KeptL.of_same S12))
          refine ⟨_, rfl, D, _, (0 : Int), 0, rfl, rfl, k12' _ _ (by rw [List.mem_singleton]; exact hDp) hD, ?_, ls.set 0 D2, rows.set 0 bs, m + 3, o6, _, _, rfl, by rw [upd_same, List.map_set], by rw [List.length_set]; exact hrl, ((hrows.kept k12' npl).put hb).atD (not_set nDl nDD), rows_set hr100 (by omega), kept_at (k6.trans k12') nD, feed_at2 (feedS F11 S12) hDp, by omega, not_set nDl nDD, not_set npl hD2p.symm⟩
          unfold ixN
          rw [List.length_map, if_pos (by omega), if_pos (by have := hrows.1; show (0 : Int) < (ls.length : Int); omega)]
          rfl
      · exact ⟨ls, rows, m, o6, none, none, rfl, hD, hrl, hrows, hr100, k6, F6, by omega, nDl, npl⟩
    rintro _ H11 ⟨ls, rows, m, o6, o7, o8, rfl, hD11, hrl, rows11, hr100, k6, F11, hm, nDl, npl⟩
    refine ⟨_, rfl, D, rfl, ⟨_, SqL.of hD11⟩, fun D3 nD3 => ?_⟩
    refine lc_list (K := K) (xs := ls.map V.ref) (fun i H12 => ∃ ts : List Addr, H12 D3 = some (.lst (ts.map V.ref)) ∧ ts.length = i ∧ (∀ (j : Nat) (r : List Bool) (b : Addr), rows[j]? = some r → ts[j]? = some b → H12 b = some (.tup (r.map V.bl))) ∧ Same H11 H12) ⟨[], upd_same, rfl, fun j r b e1 e2 => by simp at e2, same_new nD3⟩ ?_ ?_ ?_
    · rintro i H12 _ ⟨_, _, _, _, S12⟩
      exact SqL.of (S12 _ _ hD11)
    · rintro i x H12 hi ⟨ts, hts, htl, hte, S12⟩
      rw [List.getElem?_map] at hi
      obtain ⟨b, hb, rfl⟩ := Option.map_eq_some_iff.mp hi
      have hil : i < ls.length := (List.getElem?_eq_some_iff.mp hb).1
      have hir : i < rows.length := by rw [← rows11.1]; exact hil
      have hbb := S12 _ _ (rows11.2 i rows[i] b (List.getElem?_eq_getElem hir) hb)
      refine ⟨rfl, _, rfl, b, _, rfl, .inl ⟨SqL.of hbb, fun l nl => ⟨ts.map V.ref, by rw [upd_ne (ne_of_none hts nl)]; exact hts, by rw [List.length_map, htl]; exact small1000 (by omega), ts ++ [l], by rw [upd_same, List.map_append]; rfl, by rw [List.length_append, htl]; rfl, fun j r b' e1 e2 => ?_, same_at nD3 (S12.trans (same_new nl))⟩⟩⟩
      by_cases hj : j < ts.length
      · rw [List.getElem?_append_left hj] at e2
        have h1 := hte j r b' e1 e2
        rw [upd_ne (ne_of h1 hts (by intro z; cases z)), upd_ne (ne_of_none h1 nl)]
        exact h1
      · have hl := (List.getElem?_eq_some_iff.mp e2).1
        rw [List.length_append] at hl
        have ej : j = ts.length := by simp at hl; omega
        rw [ej, List.getElem?_append_right (Nat.le_refl _), Nat.sub_self] at e2
        cases e2
        rw [ej, htl, List.getElem?_eq_getElem hir] at e1
        cases e1
        rw [upd_ne (ne_of_none hts nl).symm, upd_same]
    · rintro H12 ⟨ts, hts, htl, hte, S12⟩
      refine ⟨_, _, rfl, .inl ⟨SqL.of hts, fun t1 nt1 => ?_⟩⟩
      have S13 := S12.trans (same_new (o := .tup (ts.map V.ref)) nt1)
      rw [List.length_map, rows11.1] at htl
      exact q (.ref t1) rows m _ ((k12.trans k6).trans (KeptL.of_same S13)) (feedS F11 S13) (by omega) (rowsDv upd_same htl (by omega) hr100 fun j r b' e1 e2 => same_new nt1 _ _ (hte j r b' e1 e2)) (by omega) hr100 (by omega)
end
end PH

/-! What is made, as the law keeps it. -/
namespace PH
open PySem PySem.Spec PyProof.Rows L2 KA KI KK PV T ET
structure Ent where
  i : Nat
  k : Int
  n : Nat
  g : Bool
def Ent.ad (c : Sz) (e : Ent) : Nat := if e.g = true then c.fo + e.i else 1 + e.i
def Ent.room (e : Ent) : Str := if e.g = true then "old" else "nursery"
def Ent.py (c : Sz) (e : Ent) : PyData := .tuple [.int (e.ad c), .tuple [.int e.k, .int e.n, .str e.room]]
structure MI (c : Sz) (hf : Nat) (mk : Bool) (s : Ms) (Y O : List Int) (F : List Ent) : Prop where
  half : s.half = hf
  rem : s.rem = []
  grey : s.grey = []
  done : s.done = 0
  marks : s.marks = mk
  nx : s.nexts = [1 + Y.length, c.1 + 1, c.1 + c.2.1 + 1]
  ws : ∃ z0 Z, s.words = z0 :: (Y ++ (Z ++ O)) ∧ 1 + Y.length + Z.length = c.fo
  yl : Y.length ≤ c.1
  yg : s.young = (F.filter fun e => !e.g).map (·.ad c)
  od : s.old = (F.filter fun e => e.g).map (·.ad c)
  ea : ∀ e ∈ F, if e.g = true then O[e.i]? = some (headW e.k 0 (if mk = true then 2 else 0)) ∧ O[e.i + 1]? = some (e.n : Int) else Y[e.i]? = some (headW e.k 0 0) ∧ Y[e.i + 1]? = some (e.n : Int)
theorem MI.wl {c : Sz} {hf : Nat} {mk : Bool} {s : Ms} {Y O : List Int} {F : List Ent} (h : MI c hf mk s Y O F) : s.words.length = c.fo + O.length := by
  obtain ⟨z0, Z, e, l⟩ := h.ws
  rw [e]
  simp
  omega
theorem MI.told {c : Sz} {hf : Nat} {mk : Bool} {s : Ms} {Y O : List Int} {F : List Ent} (h : MI c hf mk s Y O F) {e : Ent} (he : e ∈ F) :
    isOb s (e.ad c) = true ∧ 0 < e.ad c ∧ (∃ col, col < 64 ∧ s.words[e.ad c]? = some (headW e.k 0 col)) ∧ s.words[e.ad c + 1]? = some (e.n : Int) ∧ whereOf c (e.ad c) = e.room := by
  obtain ⟨z0, Z, ew, l⟩ := h.ws
  have ea := h.ea e he
  have fo : c.fo = c.1 + 2 * c.2.1 + 1 := rfl
  cases hg : e.g with
  | true =>
    rw [if_pos hg] at ea
    have hl := (List.getElem?_eq_some_iff.mp ea.2).1
    have ead : e.ad c = c.fo + e.i := by unfold Ent.ad; rw [if_pos hg]
    have wo : ∀ j, s.words[c.fo + j]? = O[j]? := fun j => by
      rw [ew, show c.fo + j = (Y.length + (Z.length + j)) + 1 by omega, List.getElem?_cons_succ, List.getElem?_append_right (by omega), Nat.add_sub_cancel_left, List.getElem?_append_right (by omega), Nat.add_sub_cancel_left]
    refine ⟨?_, by omega, ⟨if mk = true then 2 else 0, by split <;> omega, by rw [ead, wo]; exact ea.1⟩, by rw [ead, Nat.add_assoc, wo]; exact ea.2, ?_⟩
    · unfold isOb inL
      rw [Bool.or_eq_true]
      refine .inl (decide_eq_true (List.mem_map.mpr ⟨e.ad c, ?_, rfl⟩))
      rw [h.od]
      exact List.mem_map.mpr ⟨e, List.mem_filter.mpr ⟨he, hg⟩, rfl⟩
    · unfold whereOf Ent.room
      rw [if_pos hg, if_neg (by omega)]
  | false =>
    have hg' : ¬ e.g = true := by rw [hg]; decide
    rw [if_neg hg'] at ea
    have hl := (List.getElem?_eq_some_iff.mp ea.2).1
    have yl := h.yl
    have ead : e.ad c = 1 + e.i := by unfold Ent.ad; rw [if_neg hg']
    have wo : ∀ j, j < Y.length → s.words[1 + j]? = Y[j]? := fun j hj => by
      rw [ew, Nat.add_comm, List.getElem?_cons_succ, List.getElem?_append_left hj]
    refine ⟨?_, by omega, ⟨0, by decide, by rw [ead, wo _ (by omega)]; exact ea.1⟩, by rw [ead, Nat.add_assoc, wo _ (by omega)]; exact ea.2, ?_⟩
    · unfold isOb inL
      rw [Bool.or_eq_true]
      refine .inr (decide_eq_true (List.mem_map.mpr ⟨e.ad c, ?_, rfl⟩))
      rw [h.yg]
      exact List.mem_map.mpr ⟨e, List.mem_filter.mpr ⟨he, by rw [hg]; rfl⟩, rfl⟩
    · unfold whereOf Ent.room
      rw [if_neg hg', if_pos (by omega), if_pos (by omega)]
theorem MI.fresh {c : Sz} {hf : Nat} {mk : Bool} {s : Ms} {Y O : List Int} {F : List Ent} (h : MI c hf mk s Y O F) : s.words.length ∉ s.old ∧ 1 + Y.length ∉ s.young := by
  refine ⟨fun z => ?_, fun z => ?_⟩
  · rw [h.od] at z
    obtain ⟨e, he, e2⟩ := List.mem_map.mp z
    obtain ⟨he, hg⟩ := List.mem_filter.mp he
    have ea := h.ea e he
    rw [if_pos hg] at ea
    have hl := (List.getElem?_eq_some_iff.mp ea.2).1
    unfold Ent.ad at e2
    rw [if_pos hg, h.wl] at e2
    omega
  · rw [h.yg] at z
    obtain ⟨e, he, e2⟩ := List.mem_map.mp z
    obtain ⟨he, hg⟩ := List.mem_filter.mp he
    have hg : ¬ e.g = true := by simpa using hg
    have ea := h.ea e he
    rw [if_neg hg] at ea
    have hl := (List.getElem?_eq_some_iff.mp ea.2).1
    unfold Ent.ad at e2
    rw [if_neg hg] at e2
    omega
theorem objW_0 (k : Int) (col n : Nat) : (objW k col n)[0]? = some (headW k 0 col) := rfl
theorem objW_1 (k : Int) (col n : Nat) : (objW k col n)[1]? = some (n : Int) := rfl
theorem MI.make {c : Sz} {hf : Nat} {mk : Bool} {s : Ms} {Y O : List Int} {F : List Ent} (h : MI c hf mk s Y O F) (k : Int) (n : Nat) (hw : c.2.2.1 < 2 + n ∨ Y.length + 2 + n ≤ c.1) :
    (c.2.2.1 < 2 + n → MI c hf mk (mkS c s k n (1 + Y.length)).2 Y (O ++ objW k (if mk = true then 2 else 0) n) (F ++ [⟨O.length, k, n, true⟩]) ∧ (mkS c s k n (1 + Y.length)).1 = c.fo + O.length) ∧
    (¬ c.2.2.1 < 2 + n → MI c hf mk (mkS c s k n (1 + Y.length)).2 (Y ++ objW k 0 n) O (F ++ [⟨Y.length, k, n, false⟩]) ∧ (mkS c s k n (1 + Y.length)).1 = 1 + Y.length) := by
  obtain ⟨z0, Z, ew, l⟩ := h.ws
  have fo : c.fo = c.1 + 2 * c.2.1 + 1 := rfl
  have grow : ∀ (L R : List Int) (j : Nat) (x : Int), L[j]? = some x → (L ++ R)[j]? = some x := fun L R j x e => by
    rw [List.getElem?_append_left (List.getElem?_eq_some_iff.mp e).1]
    exact e
  refine ⟨fun hg => ?_, fun hg => ?_⟩
  · unfold mkS
    rw [if_pos hg]
    refine ⟨⟨h.half, h.rem, h.grey, h.done, h.marks, h.nx, ⟨z0, Z, ?_, l⟩, h.yl, ?_, ?_, ?_⟩, h.wl⟩
    · show s.words ++ objW k (if s.marks = true then 2 else 0) n = _
      rw [ew, h.marks]
      simp
    · show s.young = _
      rw [h.yg, List.filter_append]
      simp
    · show s.old ++ [s.words.length] = _
      rw [h.od, List.filter_append, h.wl]
      simp [Ent.ad]
    · intro e he
      rcases List.mem_append.mp he with he | he
      · have ea := h.ea e he
        split
        · rename_i g
          rw [if_pos g] at ea
          exact ⟨grow _ _ _ _ ea.1, grow _ _ _ _ ea.2⟩
        · rename_i g
          rw [if_neg g] at ea
          exact ea
      · rw [List.mem_singleton.mp he, if_pos rfl]
        exact ⟨by rw [List.getElem?_append_right (Nat.le_refl _), Nat.sub_self]; rfl, by rw [List.getElem?_append_right (Nat.le_succ _), show O.length + 1 - O.length = 1 by omega]; rfl⟩
  · rcases hw with hw | hw
    · exact absurd hw hg
    · unfold mkS
      rw [if_neg hg]
      have hz : n + 2 ≤ Z.length := by omega
      refine ⟨⟨h.half, h.rem, h.grey, h.done, h.marks, ?_, ⟨z0, Z.drop (n + 2), ?_, ?_⟩, ?_, ?_, ?_, ?_⟩, rfl⟩
      · show s.nexts.set 0 (1 + Y.length + (objW k 0 n).length) = _
        rw [h.nx, objW_len, List.length_append, objW_len]
        simp
        omega
      · show s.words.take (1 + Y.length) ++ objW k 0 n ++ s.words.drop (1 + Y.length + (objW k 0 n).length) = _
        rw [objW_len, ew]
        have e1 : (z0 :: (Y ++ (Z ++ O))).take (1 + Y.length) = z0 :: Y := by
          rw [Nat.add_comm, List.take_succ_cons, List.take_left']
          rfl
        have e2 : (z0 :: (Y ++ (Z ++ O))).drop (1 + Y.length + (n + 2)) = Z.drop (n + 2) ++ O := by
          rw [show 1 + Y.length + (n + 2) = (Y.length + (n + 2)) + 1 by omega, List.drop_succ_cons, List.drop_append, List.drop_of_length_le (by omega), Nat.add_sub_cancel_left, List.drop_append_of_le_length hz]
          rfl
        rw [e1, e2]
        simp
      · rw [List.length_append, objW_len, List.length_drop]
        omega
      · rw [List.length_append, objW_len]
        omega
      · show s.young ++ [1 + Y.length] = _
        rw [h.yg, List.filter_append]
        simp [Ent.ad]
      · show s.old = _
        rw [h.od, List.filter_append]
        simp
      · intro e he
        rcases List.mem_append.mp he with he | he
        · have ea := h.ea e he
          split
          · rename_i g
            rw [if_pos g] at ea
            exact ea
          · rename_i g
            rw [if_neg g] at ea
            exact ⟨grow _ _ _ _ ea.1, grow _ _ _ _ ea.2⟩
        · rw [List.mem_singleton.mp he, if_neg (show ¬ (false = true) by decide)]
          exact ⟨by rw [List.getElem?_append_right (Nat.le_refl _), Nat.sub_self]; rfl, by rw [List.getElem?_append_right (Nat.le_succ _), show Y.length + 1 - Y.length = 1 by omega]; rfl⟩
end PH

/-! What is made. -/
namespace PH
open PySem PySem.Spec PyProof.Rows L2 KA KI KK PV T ET
theorem HpAt.kept {CH CM : Addr} {H H' : Hp} {h : Addr} {a : Ma} {c : Sz} {sh : List (List Bool)} {s : Ms} {l : List Addr} (x : HpAt CH CM H h a c sh s) (k : KeptL l H H') (t : TupSame H H') (n1 : h ∉ l) (n2 : ∀ b ∈ a.own, b ∉ l) : HpAt CH CM H' h a c sh s := ⟨x.at_.imp fun _ e => k _ _ n1 e, x.mem.kept k t n2⟩
def bgI (c : Sz) : Int := 1 + (c.1 : Int) + 2 * (c.2.1 : Int)
theorem KeptL.seq {K : PySem.W.Frag} {l : List Addr} {H H' : Hp} {q : Addr} {xs : List V} (k : KeptL l H H') (hq : q ∉ l) (h : SqL K H q xs) : SqL K H' q xs := by
  rcases h with (h | ⟨o, h⟩) | h
  · exact .inl (.inl (k _ _ hq h))
  · exact .inl (.inr ⟨o, k _ _ hq h⟩)
  · exact .inr h
structure MkS (CH CM : Addr) (H0 H : Hp) (hp : Addr) (a : Ma) (c : Sz) (sh : List (List Bool)) (hf : Nat) (mk : Bool) (a5 a6 a7 : Addr) (s : Ms) (Y O : List Int) (F G : List Ent) (fs : List V) : Prop where
  mi : MI c hf mk s Y O G
  hp_ : HpAt CH CM H hp a c sh s
  h5 : H a5 = some (.lst (Y.map V.int))
  h6 : H a6 = some (.lst (O.map V.int))
  h7 : H a7 = some (.lst fs)
  dv : DvAll H fs (F.map (Ent.py c))
  yo : Y.length + O.length ≤ 3002
  fl : 2 * G.length ≤ Y.length + O.length
  kp : KeptL a.own H0 H
  n5 : a5 ∉ a.own
  n6 : a6 ∉ a.own
  n7 : a7 ∉ a.own
  f7 : H0 a7 = none
  d57 : a5 ≠ a7
  d67 : a6 ≠ a7
theorem MkS.fsl {CH CM : Addr} {H0 H : Hp} {hp : Addr} {a : Ma} {c : Sz} {sh : List (List Bool)} {hf : Nat} {mk : Bool} {a5 a6 a7 : Addr} {s : Ms} {Y O : List Int} {F G : List Ent} {fs : List V} (x : MkS CH CM H0 H hp a c sh hf mk a5 a6 a7 s Y O F G fs) : fs.length = F.length := by
  have := x.dv.len
  rwa [List.length_map] at this
theorem MkS.kept {CH CM : Addr} {H0 H H' : Hp} {hp : Addr} {a : Ma} {c : Sz} {sh : List (List Bool)} {hf : Nat} {mk : Bool} {a5 a6 a7 : Addr} {s : Ms} {Y O : List Int} {F G : List Ent} {fs : List V} {l : List Addr} (x : MkS CH CM H0 H hp a c sh hf mk a5 a6 a7 s Y O F G fs)
    (k : KeptL l H H') (t : TupSame H H') (n1 : ∀ b ∈ hp :: a5 :: a6 :: a7 :: a.own, b ∉ l) (n2 : ∀ b ∈ l, H0 b = none) : MkS CH CM H0 H' hp a c sh hf mk a5 a6 a7 s Y O F G fs :=
  ⟨x.mi, x.hp_.kept k t (n1 _ (by simp)) (fun b hb => n1 b (by simp [hb])), k _ _ (n1 _ (by simp)) x.h5, k _ _ (n1 _ (by simp)) x.h6, k _ _ (n1 _ (by simp)) x.h7, x.dv.same t, x.yo, x.fl, fun b o nb e => k _ _ (fun z => by rw [n2 b z] at e; cases e) (x.kp b o nb e), x.n5, x.n6, x.n7, x.f7, x.d57, x.d67⟩
theorem MkS.same {CH CM : Addr} {H0 H H' : Hp} {hp : Addr} {a : Ma} {c : Sz} {sh : List (List Bool)} {hf : Nat} {mk : Bool} {a5 a6 a7 : Addr} {s : Ms} {Y O : List Int} {F G : List Ent} {fs : List V} (x : MkS CH CM H0 H hp a c sh hf mk a5 a6 a7 s Y O F G fs) (k : Same H H') : MkS CH CM H0 H' hp a c sh hf mk a5 a6 a7 s Y O F G fs :=
  x.kept (l := []) (KeptL.of_same k) (TupSame.of k) (fun _ _ z => nomatch z) (fun _ z => nomatch z)
def stM (ps hp aS aZ a5 a6 a7 : Addr) (mk : Bool) (c : Sz) (r : List (Option V)) : L2.St := some (.ref ps) :: some (.ref hp) :: some (.ref aS) :: some (.ref aZ) :: some (.bl mk) :: some (.ref a5) :: some (.ref a6) :: some (.ref a7) :: some (.int (bgI c)) :: r
theorem or_lem {g : Bool} {S T U b : Prop} (hT : (g = true ∨ b) → T) (hS : (b → T) → S) : if g = true then (if true = true then T else U) else S := by
  cases g with
  | true => exact iteT (iteT (hT (.inl rfl)))
  | false => exact iteF (hS fun z => hT (.inr z))
theorem itev {g : Bool} {x y : V} {Q : VK} {σ : L2.St} {H : Hp} (h : Q (if g = true then x else y) H) : if g = true then tC x σ H Q else tC y σ H Q := by cases g <;> exact h
theorem _root_.PV.DvAll.memE {H : Hp} : ∀ {vs : List V} {ds : List PyData} {x : V}, DvAll H vs ds → x ∈ vs → ∃ d, d ∈ ds ∧ Dv H x d
  | _, _, _, .nil, e => nomatch e
  | _, _, _, .cons h r, e => by
    rcases List.mem_cons.mp e with rfl | e
    · exact ⟨_, List.mem_cons_self, h⟩
    · obtain ⟨d, h1, h2⟩ := r.memE e
      exact ⟨d, List.mem_cons_of_mem _ h1, h2⟩
theorem MkS.new {CH CM : Addr} {H0 H : Hp} {hp : Addr} {a : Ma} {c : Sz} {sh : List (List Bool)} {hf : Nat} {mk : Bool} {a5 a6 a7 : Addr} {s : Ms} {Y O : List Int} {F G : List Ent} {fs : List V} {p : Addr} (m : MkS CH CM H0 H hp a c sh hf mk a5 a6 a7 s Y O F G fs) (np : H p = none) : H0 p = none ∧ p ∉ hp :: a5 :: a6 :: a7 :: a.own := by
  refine ⟨?_, fun z => ?_⟩
  · cases e : H0 p with
    | none => rfl
    | some o =>
      by_cases z : p ∈ a.own
      · obtain ⟨o, ho, _⟩ := m.hp_.mem.ownAt _ z
        rw [np] at ho; cases ho
      · rw [m.kp _ _ z e] at np; cases np
  · obtain ⟨dx, hd⟩ := m.hp_.at_
    have h5 := m.h5
    have h6 := m.h6
    have h7 := m.h7
    rcases (by simpa using z : p = hp ∨ p = a5 ∨ p = a6 ∨ p = a7 ∨ p ∈ a.own) with e | e | e | e | e
    · rw [← e, np] at hd; cases hd
    · rw [← e, np] at h5; cases h5
    · rw [← e, np] at h6; cases h6
    · rw [← e, np] at h7; cases h7
    · obtain ⟨o, ho, _⟩ := m.hp_.mem.ownAt _ e
      rw [np] at ho; cases ho
theorem MkS.put {CH CM : Addr} {H0 H : Hp} {hp : Addr} {a : Ma} {c : Sz} {sh : List (List Bool)} {hf : Nat} {mk : Bool} {a5 a6 a7 : Addr} {s : Ms} {Y O : List Int} {F G : List Ent} {fs : List V} {D : Addr} {xs ys : List V} (m : MkS CH CM H0 H hp a c sh hf mk a5 a6 a7 s Y O F G fs) (h : H D = some (.lst xs)) (n0 : H0 D = none) (nn : D ∉ hp :: a5 :: a6 :: a7 :: a.own) : MkS CH CM H0 (upd H D (.lst ys)) hp a c sh hf mk a5 a6 a7 s Y O F G fs :=
  m.kept (l := [D]) (kept_upd (by simp)) (fun b xs e => by rw [upd_ne (ne_of e h (by intro z; cases z))]; exact e) (fun b hb z => nn (by rw [← List.mem_singleton.mp z]; exact hb)) (fun b z => by rw [List.mem_singleton.mp z]; exact n0)
theorem ents_shaped (c : Sz) (F : List Ent) : SeqAt.shaped (.list (F.map (Ent.py c))) = true := by
  have e1 : PyData.canLayAll0 (F.map (Ent.py c)) = true := by
    induction F with
    | nil => rfl
    | cons x xs ih =>
      rw [List.map_cons]
      simp only [PyData.canLayAll0, ih, Bool.and_true]
      simp [Ent.py, PyData.canLay0, PyData.canLayAll0]
      unfold Ent.room
      split <;> decide +kernel
  have e2 : PyData.depthAll (F.map (Ent.py c)) ≤ 2 := by
    clear e1
    induction F with
    | nil => simp [PyData.depthAll]
    | cons x xs ih =>
      rw [List.map_cons]
      have : PyData.depth (x.py c) = 2 := by simp [Ent.py, PyData.depth, PyData.depthAll]
      simp only [PyData.depthAll, this]
      omega
  unfold SeqAt.shaped
  simp [PyData.canLay0, PyData.depth, e1]
  omega
theorem entPy_at {H : Hp} {x : V} {c : Sz} {e : Ent} (h : Dv H x (e.py c)) : ∃ q u, x = .ref q ∧ H q = some (.tup [.int (e.ad c), u]) ∧ Dv H u (.tuple [.int e.k, .int e.n, .str e.room]) := by
  obtain ⟨q, xs, rfl, hq, _, r⟩ := h.tupE
  obtain ⟨u0, us, rfl, h0, r⟩ := r.consE
  obtain ⟨u1, us, rfl, h1, r⟩ := r.consE
  obtain rfl := r.nilE
  cases h0
  exact ⟨q, u1, rfl, hq, h1⟩
theorem MkS.app {CH CM : Addr} {H0 H : Hp} {hp : Addr} {a : Ma} {c : Sz} {sh : List (List Bool)} {hf : Nat} {mk : Bool} {a5 a6 a7 : Addr} {s : Ms} {Y O : List Int} {F : List Ent} {e : Ent} {fs : List V} {v : V} (m : MkS CH CM H0 H hp a c sh hf mk a5 a6 a7 s Y O F (F ++ [e]) fs) (h : Dv H v (e.py c)) : MkS CH CM H0 (upd H a7 (.lst (fs ++ [v]))) hp a c sh hf mk a5 a6 a7 s Y O (F ++ [e]) (F ++ [e]) (fs ++ [v]) := by
  have t : TupSame H (upd H a7 (.lst (fs ++ [v]))) := fun b xs e => by rw [upd_ne (ne_of e m.h7 (by intro z; cases z))]; exact e
  refine ⟨m.mi, m.hp_.kept (l := [a7]) (kept_upd (by simp)) t (fun z => ?_) (fun b hb z => m.n7 (by rw [← List.mem_singleton.mp z]; exact hb)), ?_, ?_, upd_same, ?_, m.yo, m.fl, fun b o nb e => ?_, m.n5, m.n6, m.n7, m.f7, m.d57, m.d67⟩
  · obtain ⟨dx, hd⟩ := m.hp_.at_
    have h7 := m.h7
    rw [← List.mem_singleton.mp z, hd] at h7
    cases h7
  · rw [upd_ne m.d57]; exact m.h5
  · rw [upd_ne m.d67]; exact m.h6
  · rw [List.map_append]
    exact (m.dv.same t).app (.cons (h.same t) .nil)
  · have : b ≠ a7 := fun z => by rw [z, m.f7] at e; cases e
    rw [upd_ne this]
    exact m.kp b o nb e
/-- the feed is no part of it -/
def FdN (H0 H : Hp) (p : Addr) (n : Nat) (l : List Addr) : Prop := FeedAt H p n ∧ H0 p = none ∧ p ∉ l
theorem MkS.feed {CH CM : Addr} {H0 H H' : Hp} {hp : Addr} {a : Ma} {c : Sz} {sh : List (List Bool)} {hf : Nat} {mk : Bool} {a5 a6 a7 : Addr} {s : Ms} {Y O : List Int} {F G : List Ent} {fs : List V} {p : Addr} {n : Nat} (x : MkS CH CM H0 H hp a c sh hf mk a5 a6 a7 s Y O F G fs) (f : FeedAt H p n) (f0 : H0 p = none) (fn : p ∉ hp :: a5 :: a6 :: a7 :: a.own) (k : KeptL [p] H H') : MkS CH CM H0 H' hp a c sh hf mk a5 a6 a7 s Y O F G fs :=
  x.kept k (feed_tups k f) (fun b hb z => fn (by rw [← List.mem_singleton.mp z]; exact hb)) (fun b z => by rw [List.mem_singleton.mp z]; exact f0)
section
variable {P : Program} {w : World} {K : PySem.W.Frag} {mg : Str → Option Value} {base : Heap} {C_Moving C_Memory C_Heap : Addr}
def spMakes (K : PySem.W.Frag) (CH CM : Addr) : Sp := fun vs H Q _ => ∃ (ps hp : Addr) (ns : List Int) (vS vZ : V) (a : Ma) (c : Sz) (sh : List (List Bool)) (s : Ms) (hf : Nat) (mk : Bool), vs = [.ref ps, .ref hp, vS, vZ, .bl mk] ∧ (∀ H', KeptL a.own H H' → SqL K H' ps (ns.map V.int)) ∧ ns.length ≤ 63 ∧ HpAt CH CM H hp a c sh s ∧ Dv H vS (shPy sh) ∧ Dv H vZ (szPy c) ∧ szOk c ∧ sh.length ≤ 60 ∧ (∀ r ∈ sh, r.length ≤ 100) ∧ MI c hf mk s [] [] [] ∧
  ∀ (b : Addr) (Y O : List Int) (F : List Ent) (s' : Ms) (H' : Hp), MI c hf mk s' Y O F → HpAt CH CM H' hp a c sh s' → KeptL a.own H H' → Dv H' (.ref b) (.tuple [inPy Y, inPy O, .int (F.filter fun e => !e.g).length, .int F.length]) → Y.length + O.length ≤ 3002 → 2 * F.length ≤ Y.length + O.length → Q (.ref b) H'
theorem ok_makes {f : Addr} {fd : FuncData} (G : Gd K mg "_law_makes" s_law_makes ["_law_script", "_law_heap", "_law_shapes_here", "_law_sizes_here", "_law_marking"] f fd) (X : Lw K mg C_Moving C_Memory C_Heap) : FnOk P w K mg base CX0 6 f fd ["_law_script", "_law_heap", "_law_shapes_here", "_law_sizes_here", "_law_marking"] (spMakes K C_Heap C_Memory) := by
  obtain ⟨f__law_told, d__law_told, G__law_told⟩ := X.f__law_told
  have H__law_told : FnOk P w K mg base CX0 5 f__law_told d__law_told ["_law_heap", "_law_address", "_law_due"] (spTold C_Heap C_Memory) := ok_told G__law_told X
  obtain ⟨f__law_draw, d__law_draw, G__law_draw⟩ := X.f__law_draw
  have H__law_draw : FnOk P w K mg base CX0 1 f__law_draw d__law_draw ["_law_feed_here", "_law_many"] (spDk) := ok_drw G__law_draw X
  obtain ⟨f__law_head, d__law_head, G__law_head⟩ := X.f__law_head
  have H__law_head : FnOk P w K mg base CX0 1 f__law_head d__law_head ["_law_kind", "_law_colour", "_law_many"] (spLhead) := ok_lhead G__law_head X
  obtain ⟨f__law_same, d__law_same, G__law_same⟩ := X.f__law_same
  have H__law_same : FnOk P w K mg base CX0 4 f__law_same d__law_same ["_law_told_here", "_law_due"] (spSm 3) := ok_same3 G__law_same X
  obtain ⟨f_Heap_make, d_Heap_make, M_Heap_make⟩ := X.m_Heap_make
  have H_Heap_make : FnOk P w K mg base CX0 5 f_Heap_make d_Heap_make ["self", "kind", "slots", "roots"] (spHmake C_Heap C_Memory) := ok_hmake M_Heap_make X
  obtain ⟨f__law_one, d__law_one, G__law_one⟩ := X.f__law_one
  have H__law_one : FnOk P w K mg base CX0 2 f__law_one d__law_one ["_law_feed_here", "_law_things"] (spOl) := ok_oneL G__law_one X
  obtain ⟨f__law_number, d__law_number, G__law_number⟩ := X.f__law_number
  have H__law_number : FnOk P w K mg base CX0 3 f__law_number d__law_number ["_law_feed_here", "_law_sizes_here"] (spNum) := ok_num G__law_number X
  obtain ⟨f__law_feed, d__law_feed, G__law_feed⟩ := X.f__law_feed
  have H__law_feed : FnOk P w K mg base CX0 1 f__law_feed d__law_feed ["_law_script", "_law_k"] (spFeed K) := ok_fee G__law_feed X
  refine G.F.ok sc_law_makes (fun vs H Q E h => ?_) (fun cdv A outer s H vs Q E hr h => ?_)
  · obtain ⟨ps, hp, ns, vS, vZ, a, c, sh, s, hf, mk, rfl, _⟩ := h; rfl
  · obtain ⟨ps, hp, ns, vS, vZ, a, c, sh, s, hf, mk, rfl, hps, hns, hh, hvS, hvZ, hcz, hsl, hs100, hMI, q⟩ := h
    obtain ⟨aZ, rfl, hZ⟩ := szPy_at hvZ
    obtain ⟨aS, rows, rfl, hS, hrl, hre⟩ := shPy_at hvS
    refine ⟨_, (pss_cons (ps_asg (pe_tup (pa_cons (pe_lst pa_nil) (pa_cons (pe_lst pa_nil) (pa_cons (pe_lst pa_nil) pa_nil)))) (pg_tup rfl (pgs_cons (pg_name (i := 5) sc_law_makes.nd rfl (Or.inl rfl)) (pgs_cons (pg_name (i := 6) sc_law_makes.nd rfl (Or.inl rfl)) (pgs_cons (pg_name (i := 7) sc_law_makes.nd rfl (Or.inr rfl)) pgs_nil)))))
      (pss_cons (ps_set (i := 8) sc_law_makes.nd rfl (Or.inl rfl) (pe_op op_add (pe_op op_add pe_int (pe_ix ix_tup (pv 3) pe_int (fun _ _ => rfl))) (pe_op op_mul pe_int (pe_ix ix_tup (pv 3) pe_int (fun _ _ => rfl)))))
      (pss_cons (ps_for PassesOwn.never rfl (pi_range2 (by rfl) X.b_range (pa_cons pe_int (pa_cons (pe_callB (call_max2 rfl) (by rfl) X.b_max (by decide +kernel) (pa_cons pe_int (pa_cons (pe_callB (call_min2 rfl) (by rfl) X.b_min (by decide +kernel) (pa_cons pe_int (pa_cons (pe_callB call_len (by rfl) X.b_len PySem.boot_len (pa_cons (pv 0) pa_nil)) pa_nil))) pa_nil))) pa_nil))) (pg_name (i := 9) sc_law_makes.nd rfl (Or.inl rfl))
        (pss_cons (ps_set (i := 10) sc_law_makes.nd rfl (Or.inr rfl) (pe_call H__law_feed (hr.mono (by decide)) (by rfl) G__law_feed.g G__law_feed.F.kp G__law_feed.b .nil pass0 (pa_cons (pv 0) (pa_cons (pv 9) pa_nil))))
      (pss_one (ps_for PassesOwn.never rfl (pi_range1 (by rfl) X.b_range (pa_cons (pe_op op_add pe_int (pe_call H__law_draw (hr.mono (by decide)) (by rfl) G__law_draw.g G__law_draw.F.kp G__law_draw.b .nil pass0 (pa_cons (pv 10) (pa_cons pe_int pa_nil)))) pa_nil)) (pg_name (i := 11) sc_law_makes.nd rfl (Or.inl rfl))
        (pss_cons (ps_set (i := 12) sc_law_makes.nd rfl (Or.inl rfl) (pe_op op_sub (pe_call H__law_draw (hr.mono (by decide)) (by rfl) G__law_draw.g G__law_draw.F.kp G__law_draw.b .nil pass0 (pa_cons (pv 10) (pa_cons (pe_op op_add (pe_callB call_len (by rfl) X.b_len PySem.boot_len (pa_cons (pv 2) pa_nil)) pe_int) pa_nil))) pe_int))
      (C8.pss_cut (ps_set (i := 13) sc_law_makes.nd rfl (Or.inl rfl) (pe_ifExp (pt_cmpR op_lt (pv 12) pe_int (nomark _)) (pe_call H__law_number (hr.mono (by decide)) (by rfl) G__law_number.g G__law_number.F.kp G__law_number.b .nil pass0 (pa_cons (pv 10) (pa_cons (pv 3) pa_nil))) (pe_callB call_len (by rfl) X.b_len PySem.boot_len (pa_cons (pe_ix ix_tup (pv 2) (pv 12) (fun _ _ => rfl)) pa_nil))))
      (C8.pss_cut (ps_set (i := 14) sc_law_makes.nd rfl (Or.inl rfl) (pe_cmpR op_gt (pe_op op_add pe_int (pv 13)) (pe_ix ix_tup (pv 3) pe_int (fun _ _ => rfl)) (nomark _)))
      (pss_one (ps_if (PW.pt (pw_and (pt_cmpR op_lt (pe_op op_add (pe_op op_add (pe_callB call_len (by rfl) X.b_len PySem.boot_len (pa_cons (pv 5) pa_nil)) (pe_callB call_len (by rfl) X.b_len PySem.boot_len (pa_cons (pv 6) pa_nil))) (pv 13)) pe_int (nomark _)) (pw_and1 (PW.pt (pw_or (pt_val (pv 14)) (pw_or1 (pt_cmpR op_le (pe_op op_add (pe_op op_add (pe_callB call_len (by rfl) X.b_len PySem.boot_len (pa_cons (pv 5) pa_nil)) pe_int) (pv 13)) (pe_ix ix_tup (pv 3) pe_int (fun _ _ => rfl)) (nomark _))))))))
        (C8.pss_cut (ps_set (i := 15) sc_law_makes.nd rfl (Or.inl rfl) (pe_callTy call_tuple_of (by rfl) X.b_tuple (by decide +kernel) (pa_cons (pe_op op_cat (pe_lc (own := [("_law_one_here", 16)]) (g := (gName 16)) (te := tIf (tTest (tOp (rNeD K) (tVar 7) (tLst tNil))) (tOp (rIxT K) (tCall spOl [] E0 (tCons (tVar 10) (tCons (tVar 7) tNil))) (tC (.int 0))) (tC (.int 0))) (tt := tYes) rfl sc_law_makes.nd (pi_range1 (by rfl) X.b_range (pa_cons (pe_call H__law_draw (hr.mono (by decide)) (by rfl) G__law_draw.g G__law_draw.F.kp G__law_draw.b .nil pass0 (pa_cons (pv 10) (pa_cons pe_int pa_nil))) pa_nil)) (blkOk_by (own := [("_law_one_here", 16)]) (N := ["_law_script", "_law_heap", "_law_shapes_here", "_law_sizes_here", "_law_marking", "_law_young", "_law_old", "_law_found", "_law_begin", "_law_k", "_law_feed_here", "_law_turn", "_law_kind", "_law_many", "_law_great", "_law_roots", "_law_one_here", "_law_due", "_law_address"]) (sc := defScope s_law_makes) (by decide +kernel)) (fun _ _ _ _ _ => (pg_name (i := 16) sc_law_makes.nd rfl (Or.inl rfl))) (fun _ _ _ _ _ => pts_nil) (fun _ _ _ _ _ => (pe_ifExp (pt_cmpR (op_neD hr.units) (pv 7) (pe_lst pa_nil) (nomark _)) (pe_ix ix_tup (pe_call H__law_one (hr.mono (by decide)) (by rfl) G__law_one.g G__law_one.F.kp G__law_one.b .nil pass0 (pa_cons (pv 10) (pa_cons (pv 7) pa_nil))) pe_int (fun _ _ => rfl)) pe_int))) (pe_lst (pa_cons pe_int pa_nil))) pa_nil)))
      (C8.pss_cut (ps_set (i := 17) sc_law_makes.nd rfl (Or.inl rfl) (pe_ifExp (pt_val (pv 14)) (pe_tup (pa_cons (pe_op op_add (pv 8) (pe_callB call_len (by rfl) X.b_len PySem.boot_len (pa_cons (pv 6) pa_nil))) (pa_cons (pv 15) pa_nil))) (pe_tup (pa_cons (pe_op op_add pe_int (pe_callB call_len (by rfl) X.b_len PySem.boot_len (pa_cons (pv 5) pa_nil))) (pa_cons (pv 15) pa_nil)))))
      (pss_cons (ps_if (pt_not (pt_val (pe_call H__law_same (hr.mono (by decide)) (by rfl) G__law_same.g G__law_same.F.kp G__law_same.b .nil pass0 (pa_cons (pe_meth (pv 1) X.cl_Heap M_Heap_make.m H_Heap_make hr M_Heap_make.b .nil pass0 (pa_cons (pv 12) (pa_cons (pv 13) (pa_cons (pv 15) pa_nil)))) (pa_cons (pv 17) pa_nil)))))
        (pss_one (ps_ret pe_non)) pss_nil)
      (C8.pss_cut (ps_if (pt_val (pv 14))
        (pss_one (ps_set (i := 6) sc_law_makes.nd rfl (Or.inl rfl) (pe_op op_cat (pv 6) (pe_call H__law_head (hr.mono (by decide)) (by rfl) G__law_head.g G__law_head.F.kp G__law_head.b .nil pass0 (pa_cons (pv 12) (pa_cons (pe_ifExp (pt_val (pv 4)) pe_int pe_int) (pa_cons (pv 13) pa_nil))))))) (pss_one (ps_set (i := 5) sc_law_makes.nd rfl (Or.inl rfl) (pe_op op_cat (pv 5) (pe_call H__law_head (hr.mono (by decide)) (by rfl) G__law_head.g G__law_head.F.kp G__law_head.b .nil pass0 (pa_cons (pv 12) (pa_cons pe_int (pa_cons (pv 13) pa_nil))))))))
      (pss_cons (ps_expr (pe_bm PySem.F.plainAttrs_list PySem.F.slot_list_append PySem.F.type_list_append mt_append (pv 7) (pa_cons (pe_tup (pa_cons (pe_ix ix_tup (pv 17) pe_int (fun _ _ => rfl)) (pa_cons (pe_tup (pa_cons (pv 12) (pa_cons (pv 13) (pa_cons (pe_ifExp (pt_val (pv 14)) pe_str pe_str) pa_nil)))) pa_nil))) pa_nil)))
      (pss_one (ps_if (pt_not (pt_val (pe_call H__law_told hr (by rfl) G__law_told.g G__law_told.F.kp G__law_told.b .nil pass0 (pa_cons (pv 1) (pa_cons (pe_ix ix_tup (pv 17) pe_int (fun _ _ => rfl)) (pa_cons (pe_ix ix_tup (pe_ix ix_list (pv 7) (pe_un un_neg pe_int) (fun _ _ => rfl)) pe_int (fun _ _ => rfl)) pa_nil))))))
        (pss_one (ps_ret pe_non)) pss_nil))))))) pss_nil)))))))))
      (pss_cons (ps_for PassesOwn.never rfl (pi_list (pv 7)) (pg_tup rfl (pgs_cons (pg_name (i := 18) sc_law_makes.nd rfl (Or.inl rfl)) (pgs_cons (pg_name (i := 17) sc_law_makes.nd rfl (Or.inl rfl)) pgs_nil)))
        (pss_one (ps_if (pt_not (pt_val (pe_call H__law_told hr (by rfl) G__law_told.g G__law_told.F.kp G__law_told.b .nil pass0 (pa_cons (pv 1) (pa_cons (pv 18) (pa_cons (pv 17) pa_nil))))))
        (pss_one (ps_ret pe_non)) pss_nil)))
      (pss_one (ps_ret (pe_tup (pa_cons (pe_callTy call_tuple_of (by rfl) X.b_tuple (by decide +kernel) (pa_cons (pv 5) pa_nil)) (pa_cons (pe_callTy call_tuple_of (by rfl) X.b_tuple (by decide +kernel) (pa_cons (pv 6) pa_nil)) (pa_cons (pe_callB call_len (by rfl) X.b_len PySem.boot_len (pa_cons (pe_lc (own := [("_law_one_here", 16)]) (g := (gName 16)) (tt := tTest (tOp _ (tOp (rIxT K) (tOp (rIxT K) (tVar 16) (tC (.int 1))) (tC (.int 2))) (tC (.str "nursery")))) rfl sc_law_makes.nd (pi_list (pv 7)) (blkOk_by (own := [("_law_one_here", 16)]) (N := ["_law_script", "_law_heap", "_law_shapes_here", "_law_sizes_here", "_law_marking", "_law_young", "_law_old", "_law_found", "_law_begin", "_law_k", "_law_feed_here", "_law_turn", "_law_kind", "_law_many", "_law_great", "_law_roots", "_law_one_here", "_law_due", "_law_address"]) (sc := defScope s_law_makes) (by decide +kernel)) (fun _ _ _ _ _ => (pg_name (i := 16) sc_law_makes.nd rfl (Or.inl rfl))) (fun _ _ _ _ _ => (pts_one (pt_cmpR op_eq (pe_ix ix_tup (pe_ix ix_tup (pv 16) pe_int (fun _ _ => rfl)) pe_int (fun _ _ => rfl)) pe_str (nomark _)))) (fun _ _ _ _ _ => pe_int)) pa_nil)) (pa_cons (pe_callB call_len (by rfl) X.b_len PySem.boot_len (pa_cons (pv 7) pa_nil)) pa_nil))))))))))), ?_⟩
    refine ⟨by show 0 ≤ sizeLine; decide, fun a5 n5 => ⟨by show 0 ≤ sizeLine; decide, fun a6 n6 => ⟨by show 0 ≤ sizeLine; decide, fun a7 n7 => ⟨by show 3 ≤ sizeLine; decide, fun t nt => ⟨t, _, rfl, SqT.of upd_same, rfl, _, _, rfl, _, _, rfl, _, _, rfl, rfl, ?_⟩⟩⟩⟩⟩
    obtain ⟨H1, g1⟩ : ∃ G : Hp, G = upd (upd (upd (upd H a5 (.lst [])) a6 (.lst [])) a7 (.lst [])) t (.tup [.ref a5, .ref a6, .ref a7]) := ⟨_, rfl⟩
    refine at_nx g1 ?_
    have S5 := same_new (o := .lst []) n5
    have S6 := same_new (o := .lst []) n6
    have S7 := same_new (o := .lst []) n7
    have St := same_new (o := .tup [.ref a5, .ref a6, .ref a7]) nt
    have S1 : Same H H1 := by rw [g1]; exact ((S5.trans S6).trans S7).trans St
    have z1 := S1 _ _ hZ
    refine ⟨_, rfl, aZ, _, 0, _, rfl, rfl, SqT.of z1, rfl, ?_⟩
    refine ⟨_, _, rfl, rfl, _, rfl, aZ, _, 1, _, rfl, rfl, SqT.of z1, rfl, ?_⟩
    refine ⟨_, _, rfl, rfl, .inl ⟨by decide, by decide⟩, _, _, rfl, rfl, ?_⟩
    refine ⟨_, rfl, .ref ps, ns.length, rfl, .inl ⟨_, hps _ (KeptL.of_same S1), by simp⟩, _, _, rfl, _, _, rfl, ?_⟩
    obtain ⟨N, eN, hN⟩ : ∃ N : Nat, (if (if (ns.length : Int) < 64 then (ns.length : Int) else 64) > 4 then (if (ns.length : Int) < 64 then (ns.length : Int) else 64) else 4) = (N : Int) ∧ N ≤ 64 := by
      refine ⟨if ns.length > 4 then ns.length else 4, ?_, ?_⟩
      · split <;> split <;> split <;> omega
      · split <;> omega
    refine ⟨1, N, congrArg (fun z => [V.int 1, V.int z]) eN, ⟨by decide, by decide, by omega, by omega⟩, ?_⟩
    have n67 : a6 ≠ a7 := ne_of_none upd_same n7
    have n57 : a5 ≠ a7 := ne_of_none (S6 _ _ upd_same) n7
    have nown : ∀ {b : Addr}, H b = none → b ∉ a.own := fun e z => by
      obtain ⟨o, ho, _⟩ := hh.mem.ownAt _ z
      rw [e] at ho; cases ho
    have m0 : MkS C_Heap C_Memory H H1 hp a c sh hf mk a5 a6 a7 s [] [] [] [] [] := ⟨hMI, hh.same S1, by rw [g1]; exact St _ _ (S7 _ _ (S6 _ _ upd_same)), by rw [g1]; exact St _ _ (S7 _ _ upd_same), by rw [g1]; exact St _ _ upd_same, .nil, by simp, by simp, KeptL.of_same S1, nown n5, nown (S5.free n6), nown (S5.free (S6.free n7)), S5.free (S6.free n7), n57, n67⟩
    refine for_range (lo := 1) (n := ((N : Int) - 1).toNat) (fun i σ H' => ∃ (a5 a6 a7 : Addr) (s : Ms) (Y O : List Int) (F : List Ent) (fs : List V) (o9 o10 o11 o12 o13 o14 o15 o16 o17 o18 : Option V), σ = stM ps hp aS aZ a5 a6 a7 mk c [o9, o10, o11, o12, o13, o14, o15, o16, o17, o18] ∧ MkS C_Heap C_Memory H H' hp a c sh hf mk a5 a6 a7 s Y O F F fs)
      ⟨a5, a6, a7, s, [], [], [], [], _, _, _, _, _, _, _, _, _, _, rfl, m0⟩ ?_ ?_
    · rintro i σ H2 hi ⟨a5, a6, a7, s, Y, O, F, fs, o9, o10, o11, o12, o13, o14, o15, o16, o17, o18, rfl, m⟩
      have e1i : (1 + (i : Int)) = ((1 + i : Nat) : Int) := by omega
      refine ⟨_, rfl, _, rfl, ps, ns, 1 + i, congrArg (fun z => [V.ref ps, V.int z]) e1i, hps _ m.kp, by omega, fun p H3 np S3 F3 => ?_⟩
      obtain ⟨pH, pn⟩ := m.new np
      have m3 := m.same S3
      refine ⟨_, rfl, p, 6, 0, rfl, F3, by decide, by decide, by decide, fun r H4 r0 r1 k4 F4 => ⟨_, _, rfl, rfl, 1 + r, rfl, by omega, by omega, ?_⟩⟩
      have m4 := m3.feed F3 pH pn k4
      refine for_range (lo := 0) (n := (1 + r).toNat) (fun j σ H' => ∃ (a5 a6 : Addr) (s : Ms) (Y O : List Int) (F : List Ent) (fs : List V) (n : Nat) (o11 o12 o13 o14 o15 o16 o17 : Option V), σ = stM ps hp aS aZ a5 a6 a7 mk c [some (.int (1 + (i : Int))), some (.ref p), o11, o12, o13, o14, o15, o16, o17, o18] ∧ MkS C_Heap C_Memory H H' hp a c sh hf mk a5 a6 a7 s Y O F F fs ∧ FeedAt H' p n ∧ n ≤ 1 + 200 * j ∧ p ∉ hp :: a5 :: a6 :: a7 :: a.own)
        ⟨a5, a6, s, Y, O, F, fs, 1, _, _, _, _, _, _, _, rfl, m4, F4, by omega, pn⟩ ?_ ?_
      · rintro j σ H5 hj ⟨a5, a6, s, Y, O, F, fs, n, o11, o12, o13, o14, o15, o16, o17, rfl, m, F5, hn, pn⟩
        have tt : TupSame H H5 := m.kp.tups2 hh.mem.ownAt
        have S5 := tt _ _ hS
        refine ⟨_, rfl, _, rfl, .ref aS, rows.length, rfl, .inr ⟨_, SqT.of S5, rfl⟩, _, _, rfl, rfl, p, (rows.length : Int) + 3, n, rfl, F5, by omega, by omega, by omega, fun kd H6 d0 d1 k6 F6 => ⟨_, _, rfl, rfl, ?_⟩⟩
        have m6 := m.feed F5 pH pn k6
        obtain ⟨kk, ekk⟩ : ∃ z : Int, kd - 3 = z := ⟨_, rfl⟩
        refine ⟨fun σ' H' => ∃ (n0 n' : Nat), σ' = stM ps hp aS aZ a5 a6 a7 mk c [some (.int (1 + (i : Int))), some (.ref p), some (.int (0 + (j : Int))), some (.int kk), some (.int n0), o14, o15, o16, o17, o18] ∧ MkS C_Heap C_Memory H H' hp a c sh hf mk a5 a6 a7 s Y O F F fs ∧ FeedAt H' p n' ∧ n' ≤ n + 120 ∧ sizeOk sh kk n0 ∧ n0 ≤ 1000, ?_, ?_⟩
        · refine ⟨_, rfl, _, _, rfl, rfl, _, rfl, ite2 (fun hk => ?_) (fun hk => ?_)⟩
          · have hk : kd - 3 < 0 := of_decide_eq_true hk
            refine ⟨_, rfl, _, rfl, p, .ref aZ, c, n + 1, rfl, F6, by omega, hvZ.same (m6.kp.tups2 hh.mem.ownAt), hcz, fun n0 n' H7 k7 F7 hn' h1000 => ?_⟩
            refine ⟨n0, n', ?_, m6.feed F6 pH pn k7, F7, by omega, ⟨h1000, fun z => by omega⟩, h1000⟩
            rw [← ekk]; rfl
          · have hk : ¬ kd - 3 < 0 := fun z => hk (decide_eq_true z)
            obtain ⟨kn, ekn⟩ : ∃ kn : Nat, kd - 3 = kn := ⟨(kd - 3).toNat, by omega⟩
            have hkn : kn < sh.length := by omega
            obtain ⟨b, e1, hb⟩ := hre kn sh[kn] (List.getElem?_eq_getElem hkn)
            have t6 : TupSame H H6 := m6.kp.tups2 hh.mem.ownAt
            refine ⟨.ref aS, rfl, _, rfl, aS, rows, kd - 3, .ref b, rfl, rfl, SqT.of (t6 _ _ hS), by rw [ekn]; exact atI_nat e1, .ref b, _, rfl, .inr ⟨_, SqT.of (t6 _ _ hb), rfl⟩, ?_⟩
            have h100 := hs100 sh[kn] (List.getElem_mem hkn)
            refine ⟨sh[kn].length, n + 1, ?_, m6, F6, by omega, ⟨by omega, fun _ => ⟨sh[kn], ?_, rfl⟩⟩, by omega⟩
            · rw [← ekk, List.length_map]; rfl
            · rw [← ekk, ekn]; exact List.getElem?_eq_getElem hkn
        rintro _ H7 ⟨n0, n', rfl, m7, F7, hn', hsz, h1000⟩
        have t7 : TupSame H H7 := m7.kp.tups2 hh.mem.ownAt
        have z7 := t7 _ _ hZ
        obtain ⟨g, eg⟩ : ∃ g : Bool, g = decide (c.2.2.1 < 2 + n0) := ⟨_, rfl⟩
        have eg2 : decide ((2 : Int) + (n0 : Int) > (c.2.2.1 : Int)) = g := by
          rw [eg]
          by_cases h : c.2.2.1 < 2 + n0
          · rw [decide_eq_true h, decide_eq_true (by omega)]
          · rw [decide_eq_false h, decide_eq_false (by omega)]
        refine ⟨fun σ' H' => σ' = stM ps hp aS aZ a5 a6 a7 mk c [some (.int (1 + (i : Int))), some (.ref p), some (.int (0 + (j : Int))), some (.int kk), some (.int n0), some (.bl g), o15, o16, o17, o18] ∧ H7 = H', ?_, ?_⟩
        · exact ⟨_, rfl, _, _, rfl, rfl, _, rfl, aZ, _, 2, _, rfl, rfl, SqT.of z7, rfl, _, _, rfl, rfl, congrArg (fun z => stM ps hp aS aZ a5 a6 a7 mk c [some (.int (1 + (i : Int))), some (.ref p), some (.int (0 + (j : Int))), some (.int kk), some (.int n0), some (.bl z), o15, o16, o17, o18]) eg2, rfl⟩
        rintro _ _ ⟨rfl, rfl⟩
        refine ⟨_, rfl, .ref a5, Y.length, rfl, .inl ⟨_, SqL.of m7.h5, by simp⟩, _, rfl, .ref a6, O.length, rfl, .inl ⟨_, SqL.of m7.h6, by simp⟩, _, _, rfl, rfl, _, rfl, _, _, rfl, rfl, _, _, rfl, rfl, _, rfl, ite2 (fun h3 => ?_) (fun _ => iteF ⟨a5, a6, s, Y, O, F, fs, n', _, _, _, _, _, _, _, rfl, m7, F7, by omega, pn⟩)⟩
        refine ⟨_, rfl, g, rfl, or_lem (b := Y.length + 2 + n0 ≤ c.1) (fun hw => ?_) (fun hT => ?_)⟩
        case refine_2 =>
          refine ⟨_, rfl, .ref a5, Y.length, rfl, .inl ⟨_, SqL.of m7.h5, by simp⟩, _, _, rfl, rfl, _, rfl, _, _, rfl, rfl, _, rfl, aZ, _, 0, _, rfl, rfl, SqT.of z7, rfl, _, _, rfl, rfl, _, rfl, ite2 (fun e => ?_) (fun e => ?_)⟩
          · exact hT (by have := of_decide_eq_true e; omega)
          · exact ⟨a5, a6, s, Y, O, F, fs, n', _, _, _, _, _, _, _, rfl, m7, F7, by omega, pn⟩
        have fl7 := m7.fsl
        refine ⟨fun σ' H' => ∃ (t : Addr) (rs : List Int) (n'' : Nat), σ' = stM ps hp aS aZ a5 a6 a7 mk c [some (.int (1 + (i : Int))), some (.ref p), some (.int (0 + (j : Int))), some (.int kk), some (.int n0), some (.bl g), some (.ref t), o16, o17, o18] ∧ MkS C_Heap C_Memory H H' hp a c sh hf mk a5 a6 a7 s Y O F F fs ∧ FeedAt H' p n'' ∧ n'' ≤ n + 150 ∧ H' t = some (.tup (rs.map V.int)) ∧ rs.length ≤ 40000 ∧ rootsIn s rs, ?_, ?_⟩
        · refine ⟨_, rfl, p, 6, n', rfl, F7, by omega, by decide, by decide, fun r2 H8 s0 s1 k8 F8 => ⟨_, rfl, by omega, by omega, fun D nD => ?_⟩⟩
          have m8 := m7.feed F7 pH pn k8
          obtain ⟨DH, Dn⟩ := m8.new nD
          have Dp : D ≠ p := feed_ne F8 nD
          refine lc_range (n := r2.toNat) (lo := 0) (fun i H9 => ∃ (rs : List Int) (m' : Nat), H9 D = some (.lst (rs.map V.int)) ∧ rs.length = i ∧ rootsIn s rs ∧ MkS C_Heap C_Memory H H9 hp a c sh hf mk a5 a6 a7 s Y O F F fs ∧ FeedAt H9 p m' ∧ m' ≤ n' + 1 + i) ⟨[], n' + 1, upd_same, rfl, (fun _ z => nomatch z), m8.same (same_new nD), feed_new F8 nD, by omega⟩ ?_ ?_
          · rintro i9 H9 hi9 ⟨rs, m', hD, hrs, hri, m9, F9, hm'⟩
            refine ⟨rfl, _, rfl, by show 0 ≤ sizeLine; decide, fun e ne => ?_⟩
            have S9 := same_new (o := .lst []) ne
            have m10 := m9.same S9
            refine ⟨.list (F.map (Ent.py c)), .list [], .lst (SqL.of m10.h7) (m10.dv.dp K), .lst (SqL.of upd_same) .nil, ents_shaped c F, by decide +kernel, _, rfl, ?_⟩
            have D9 := S9 _ _ hD
            have F10 := feed_new (o := .lst []) F9 ne
            by_cases hF : F = []
            · subst hF
              refine iteF ⟨rs.map V.int, D9, by rw [List.length_map]; exact small1000 (by omega), rs ++ [0], m', by rw [upd_same, List.map_append]; rfl, by rw [List.length_append, hrs]; rfl, fun r hr => ?_, m10.put D9 DH Dn, feed_at2 F10 Dp, by omega⟩
              rcases List.mem_append.mp hr with z | z
              · exact hri r z
              · exact .inl (List.mem_singleton.mp z)
            · have en : PyData.eqv (.list (F.map (Ent.py c))) (.list []) = false := by
                cases F with
                | nil => exact absurd rfl hF
                | cons x r => simp [PyData.eqv, PyData.eqvAll]
              rw [en]
              have hpos : 0 < fs.length := by rw [fl7]; exact List.length_pos_iff.mpr hF
              have hfl := m10.fl
              have hyo := m10.yo
              refine iteT ⟨_, rfl, _, rfl, p, a7, fs, m', rfl, F10, by omega, m10.h7, fun z => pn (by rw [← z]; simp), hpos, by omega, fun x H11 hx k11 F11 => ?_⟩
              have m11 := m10.feed F10 pH pn k11
              obtain ⟨d, hd, hdv⟩ := m11.dv.memE hx
              obtain ⟨e', he', rfl⟩ := List.mem_map.mp hd
              obtain ⟨qq, u, rfl, hq, _⟩ := entPy_at hdv
              have D11 := k11 _ _ (by rw [List.mem_singleton]; exact Dp) D9
              refine ⟨qq, _, 0, _, rfl, rfl, SqT.of hq, rfl, rs.map V.int, D11, by rw [List.length_map]; exact small1000 (by omega), rs ++ [((e'.ad c : Nat) : Int)], m' + 1, by rw [upd_same, List.map_append]; rfl, by rw [List.length_append, hrs]; rfl, fun r hr => ?_, m11.put D11 DH Dn, feed_at2 F11 Dp, by omega⟩
              rcases List.mem_append.mp hr with z | z
              · exact hri r z
              · rw [List.mem_singleton.mp z]
                exact .inr (m11.mi.told he').1
          · rintro H9 ⟨rs, m', hD, hrs, hri, m9, F9, hm'⟩
            refine ⟨by show 1 ≤ sizeLine; decide, fun z nz => ⟨D, z, rs.map V.int, [V.int 0], rfl, rfl, same_new nz _ _ hD, upd_same, by rw [List.length_map]; exact Nat.le_of_lt (big (by show rs.length + 1 ≤ _; omega)), fun l nl => ⟨_, _, rfl, .inl ⟨SqL.of upd_same, fun t nt => ?_⟩⟩⟩⟩
            have ST := ((same_new (o := .lst [V.int 0]) nz).trans (same_new (o := .lst (rs.map V.int ++ [V.int 0])) nl)).trans (same_new (o := .tup (rs.map V.int ++ [V.int 0])) nt)
            refine ⟨t, rs ++ [0], m', rfl, m9.same ST, feedS F9 ST, by omega, by rw [upd_same, List.map_append]; rfl, by rw [List.length_append, hrs]; show r2.toNat + 1 ≤ _; omega, fun r hr => ?_⟩
            rcases List.mem_append.mp hr with z | z
            · exact hri r z
            · exact .inl (List.mem_singleton.mp z)
        rintro _ H8 ⟨t, rs, n2, rfl, m8, F8, hn2, ht, hrl, hri⟩
        refine ⟨fun σ' H' => ∃ du : Addr, σ' = stM ps hp aS aZ a5 a6 a7 mk c [some (.int (1 + (i : Int))), some (.ref p), some (.int (0 + (j : Int))), some (.int kk), some (.int n0), some (.bl g), some (.ref t), o16, some (.ref du), o18] ∧ Same H8 H' ∧ H' du = some (.tup [.int ((if g = true then c.fo + O.length else 1 + Y.length : Nat) : Int), .ref t]), ?_, ?_⟩
        · refine ⟨_, rfl, _, rfl, ite2 (fun hg => ?_) (fun hg => ?_)⟩
          · refine ⟨_, rfl, _, rfl, .ref a6, _, rfl, .inl ⟨_, SqL.of m8.h6, rfl⟩, _, _, rfl, rfl, _, rfl, by show 2 ≤ sizeLine; decide, fun du ndu => ⟨du, rfl, same_new ndu, ?_⟩⟩
            rw [if_pos hg, upd_same]
            have : bgI c + ((O.map V.int).length : Int) = ((c.fo + O.length : Nat) : Int) := by
              have : c.fo = c.1 + 2 * c.2.1 + 1 := rfl
              rw [List.length_map]
              unfold bgI
              omega
            rw [← this]
          · refine ⟨_, rfl, .ref a5, _, rfl, .inl ⟨_, SqL.of m8.h5, rfl⟩, _, _, rfl, rfl, _, rfl, by show 2 ≤ sizeLine; decide, fun du ndu => ⟨du, rfl, same_new ndu, ?_⟩⟩
            rw [if_neg hg, upd_same, List.length_map]
            have : 1 + (Y.length : Int) = ((1 + Y.length : Nat) : Int) := by omega
            rw [← this]
        rintro _ H9 ⟨du, rfl, S9, hdu⟩
        have m9 := m8.same S9
        have F9 := feedS F8 S9
        obtain ⟨dx, hd⟩ := m9.hp_.at_
        obtain ⟨fr1, fr2⟩ := m9.mi.fresh
        have hyo := m9.yo
        have hfl := m9.fl
        have hwl := m9.mi.wl
        have fo : c.fo = c.1 + 2 * c.2.1 + 1 := rfl
        obtain ⟨cz1, cz2, cz3, cz4, cz5, cz6, cz7⟩ := hcz
        have h3 := of_decide_eq_true h3
        have lo : s.old.length ≤ 900000 := by
          rw [m9.mi.od, List.length_map]
          exact Nat.le_trans (List.length_filter_le _ _) (by omega)
        have ly : s.young.length ≤ 900000 := by
          rw [m9.mi.yg, List.length_map]
          exact Nat.le_trans (List.length_filter_le _ _) (by omega)
        have hw2 : c.2.2.1 < 2 + n0 ∨ Y.length + 2 + n0 ≤ c.1 := hw.imp (fun z => by rw [eg] at z; exact of_decide_eq_true z) id
        refine ⟨_, rfl, hp, dx, HpF a, rfl, hd, hpF_no (by decide), _, rfl, _, rfl, _, rfl, hp, t, kk, n0, 1 + Y.length, rs, a, c, sh, s, rfl, m9.hp_, S9 _ _ ht, hrl, hri, by omega, by omega, hsl, hsz, h1000, by omega, lo, ly, fr1, by rw [m9.mi.nx]; rfl, fr2, by omega, hw2.imp id (fun z => by omega), fun b H10 hh10 k10 nb fb => ?_⟩
        obtain ⟨mg1, mg2⟩ := m9.mi.make kk n0 hw2
        have T10 : TupSame H9 H10 := k10.tups2 m9.hp_.mem.ownAt
        have ead : (mkS c s kk n0 (1 + Y.length)).1 = (if g = true then c.fo + O.length else 1 + Y.length) := by
          by_cases hg : c.2.2.1 < 2 + n0
          · rw [(mg1 hg).2, if_pos (by rw [eg]; exact decide_eq_true hg)]
          · rw [(mg2 hg).2, if_neg (by rw [eg]; simpa using hg)]
        rw [ead] at fb
        have hdu10 := T10 _ _ hdu
        have ht10 := T10 _ _ (S9 _ _ ht)
        have dvt : Dv H10 (.ref t) (inPy rs) := .tup ht10 (by rw [List.length_map]; omega) ints_dv
        refine ⟨_, rfl, .ref b, .ref du, .tuple [.int ((if g = true then c.fo + O.length else 1 + Y.length : Nat) : Int), inPy rs], rfl, .tup fb (by show 2 ≤ 50000; decide) (.cons (.int _) (.cons dvt .nil)), .tup hdu10 (by show 2 ≤ 50000; decide) (.cons (.int _) (.cons dvt .nil)), .inr ⟨_, rfl, ?_⟩, _, rfl, iteF ?_⟩
        · intro e he
          rcases (by simpa using he : e = _ ∨ e = _) with rfl | rfl
          · exact .inl (.inl ⟨_, rfl⟩)
          · refine .inr ⟨_, rfl, fun e he => ?_⟩
            obtain ⟨z, _, rfl⟩ := List.mem_map.mp he
            exact .inl (.inl ⟨_, rfl⟩)
        have F10 : FeedAt H10 p n2 := by
          obtain ⟨x, y, z, e, r⟩ := F9
          exact ⟨x, y, z, k10 _ _ (fun z => pn (by simp [z])) e, r⟩
        have kp10 := m9.kp.trans k10
        refine ⟨fun σ' H' => ∃ (a5' a6' : Addr) (Y' O' : List Int) (s' : Ms), σ' = stM ps hp aS aZ a5' a6' a7 mk c [some (.int (1 + (i : Int))), some (.ref p), some (.int (0 + (j : Int))), some (.int kk), some (.int n0), some (.bl g), some (.ref t), o16, some (.ref du), o18] ∧ MkS C_Heap C_Memory H H' hp a c sh hf mk a5' a6' a7 s' Y' O' F (F ++ [⟨if g = true then O.length else Y.length, kk, n0, g⟩]) fs ∧ FeedAt H' p n2 ∧ p ∉ hp :: a5' :: a6' :: a7 :: a.own ∧ Same H10 H', ?_, ?_⟩
        · refine ⟨_, rfl, g, rfl, ite2 (fun hg => ?_) (fun hg => ?_)⟩
          · have hgt : c.2.2.1 < 2 + n0 := by rw [eg] at hg; exact of_decide_eq_true hg
            refine ⟨_, rfl, _, rfl, _, rfl, mk, rfl, itev ?_⟩
            refine ⟨_, rfl, kk, (if mk = true then 2 else 0), n0, by cases mk <;> rfl, by omega, h1000, fun b2 H11 nb2 S11 e2 => ?_⟩
            have hh11 := hh10.same S11
            have h6 := S11 _ _ (k10 _ _ m9.n6 m9.h6)
            refine ⟨a6, b2, _, _, rfl, rfl, h6, e2, by rw [List.length_map, List.length_map, objW_len]; exact Nat.le_of_lt (big (by omega)), fun l nl => ?_⟩
            have SL := same_new (o := .lst (O.map V.int ++ (objW kk (if mk = true then 2 else 0) n0).map V.int)) nl
            have S2 := S11.trans SL
            have hh12 := hh11.same SL
            subst hg
            refine ⟨a5, l, Y, O ++ objW kk (if mk = true then 2 else 0) n0, _, rfl, ⟨(mg1 hgt).1, hh12, S2 _ _ (k10 _ _ m9.n5 m9.h5), by rw [upd_same, List.map_append], S2 _ _ (k10 _ _ m9.n7 m9.h7), (m9.dv.same T10).same (TupSame.of S2), by rw [List.length_append, objW_len]; omega, by rw [List.length_append, List.length_append, objW_len]; show 2 * (F.length + 1) ≤ _; omega, kp10.trans (KeptL.of_same S2), m9.n5, fun z => ?_, m9.n7, m9.f7, m9.d57, fun z => ?_⟩, feedS F10 S2, fun z => ?_, S2⟩
            · obtain ⟨o, ho, _⟩ := hh11.mem.ownAt _ z
              rw [nl] at ho; cases ho
            · have := S11 _ _ (k10 _ _ m9.n7 m9.h7)
              rw [z, this] at nl; cases nl
            · have hpl : p ≠ l := fun z => (feed_ne (feedS F10 S11) nl) z.symm
              simp only [List.mem_cons, not_or] at pn z
              rcases z with z | z | z | z | z
              · exact pn.1 z
              · exact pn.2.1 z
              · exact hpl z
              · exact pn.2.2.2.1 z
              · exact pn.2.2.2.2 z
          · have hgt : ¬ c.2.2.1 < 2 + n0 := by rw [eg] at hg; simpa using hg
            refine ⟨_, rfl, _, rfl, _, rfl, kk, 0, n0, rfl, by omega, h1000, fun b2 H11 nb2 S11 e2 => ?_⟩
            have hh11 := hh10.same S11
            have h5 := S11 _ _ (k10 _ _ m9.n5 m9.h5)
            refine ⟨a5, b2, _, _, rfl, rfl, h5, e2, by rw [List.length_map, List.length_map, objW_len]; exact Nat.le_of_lt (big (by omega)), fun l nl => ?_⟩
            have SL := same_new (o := .lst (Y.map V.int ++ (objW kk 0 n0).map V.int)) nl
            have S2 := S11.trans SL
            have hh12 := hh11.same SL
            have hg : g = false := by simpa using hg
            subst hg
            refine ⟨l, a6, Y ++ objW kk 0 n0, O, _, rfl, ⟨(mg2 hgt).1, hh12, by rw [upd_same, List.map_append], S2 _ _ (k10 _ _ m9.n6 m9.h6), S2 _ _ (k10 _ _ m9.n7 m9.h7), (m9.dv.same T10).same (TupSame.of S2), by rw [List.length_append, objW_len]; omega, by rw [List.length_append, List.length_append, objW_len]; show 2 * (F.length + 1) ≤ _; omega, kp10.trans (KeptL.of_same S2), fun z => ?_, m9.n6, m9.n7, m9.f7, fun z => ?_, m9.d67⟩, feedS F10 S2, fun z => ?_, S2⟩
            · obtain ⟨o, ho, _⟩ := hh11.mem.ownAt _ z
              rw [nl] at ho; cases ho
            · have := S11 _ _ (k10 _ _ m9.n7 m9.h7)
              rw [z, this] at nl; cases nl
            · have hpl : p ≠ l := fun z => (feed_ne (feedS F10 S11) nl) z.symm
              simp only [List.mem_cons, not_or] at pn z
              rcases z with z | z | z | z | z
              · exact pn.1 z
              · exact hpl z
              · exact pn.2.2.1 z
              · exact pn.2.2.2.1 z
              · exact pn.2.2.2.2 z
        rintro _ H11 ⟨a5', a6', Y', O', s', rfl, m11, F11, pn11, S11⟩
        have hdu11 := S11 _ _ hdu10
        obtain ⟨dx', hd'⟩ := m11.hp_.at_
        have eada : (⟨if g = true then O.length else Y.length, kk, n0, g⟩ : Ent).ad c = (if g = true then c.fo + O.length else 1 + Y.length) := by
          unfold Ent.ad
          cases g <;> rfl
        obtain ⟨e', ee⟩ : ∃ e' : Ent, e' = ⟨if g = true then O.length else Y.length, kk, n0, g⟩ := ⟨_, rfl⟩
        rw [← ee] at m11 eada
        rw [← eada] at hdu11
        refine ⟨_, rfl, .inl ⟨rfl, _, SqL.of m11.h7⟩, _, rfl, du, _, 0, _, rfl, rfl, SqT.of hdu11, rfl, _, rfl, _, rfl, _, rfl, g, rfl, itev ?_⟩
        refine ⟨by show 3 ≤ sizeLine; decide, fun ti nti => ⟨by show 2 ≤ sizeLine; decide, fun to nto => ?_⟩⟩
        have SI := same_new (o := .tup [.int kk, .int n0, if g = true then .str "old" else .str "nursery"]) nti
        have SO := same_new (o := .tup [.int (e'.ad c : Nat), .ref ti]) nto
        obtain ⟨H13, g13⟩ : ∃ G : Hp, G = upd (upd H11 ti (.tup [.int kk, .int n0, if g = true then .str "old" else .str "nursery"])) to (.tup [.int (e'.ad c : Nat), .ref ti]) := ⟨_, rfl⟩
        have S13 : Same H11 H13 := by rw [g13]; exact SI.trans SO
        have fto : H13 to = some (.tup [.int (e'.ad c : Nat), .ref ti]) := by rw [g13]; exact upd_same
        have fti : H13 ti = some (.tup [.int kk, .int n0, if g = true then .str "old" else .str "nursery"]) := by rw [g13]; exact SO _ _ upd_same
        have m13 := m11.same S13
        have F13 := feedS F11 S13
        have dvi : Dv H13 (.ref ti) (.tuple [.int e'.k, .int e'.n, .str e'.room]) := by
          refine .tup fti (by show 3 ≤ 50000; decide) ?_
          rw [ee]
          unfold Ent.room
          cases g
          · exact .cons (.int _) (.cons (.int _) (.cons (.str _ (by decide)) .nil))
          · exact .cons (.int _) (.cons (.int _) (.cons (.str _ (by decide)) .nil))
        have dvo : Dv H13 (.ref to) (e'.py c) := .tup fto (by show 2 ≤ 50000; decide) (.cons (.int _) (.cons dvi .nil))
        have m14 := m13.app dvo
        have fl13 := m13.fsl
        have fl13' := m13.fl
        have yo13 := m13.yo
        rw [List.length_append] at fl13'
        have t14 : TupSame H13 (upd H13 a7 (.lst (fs ++ [.ref to]))) := fun b xs e => by rw [upd_ne (ne_of e m13.h7 (by intro z; cases z))]; exact e
        refine ⟨a7, fs, .ref to, rfl, rfl, by rw [← g13]; exact m13.h7, big (by omega), ?_⟩
        refine at_nx (congrArg (fun z => upd z a7 (.lst (fs ++ [.ref to]))) g13) ?_
        have S1411 := S13
        have hdu14 := t14 _ _ (S13 _ _ hdu11)
        obtain ⟨q1, q2, ⟨col, q3, q4⟩, q5, q6⟩ := m14.mi.told (e := e') (by simp)
        have fto14 := t14 _ _ fto
        refine ⟨_, rfl, _, rfl, du, _, 0, _, rfl, rfl, SqT.of hdu14, rfl, _, rfl, 1, rfl, a7, _, -1, _, rfl, rfl, SqL.of m14.h7, atI_last _ _, to, _, 1, _, rfl, rfl, SqT.of fto14, rfl, ?_⟩
        refine ⟨hp, e'.ad c, col, e'.n, e'.k, .ref ti, a, c, sh, s', rfl, m14.hp_, q1, q2, q3, q4, q5, by rw [q6]; exact dvi.same t14, fun H15 S15 => ⟨_, rfl, iteF ?_⟩⟩
        refine ⟨a5', a6', s', Y', O', F ++ [e'], fs ++ [.ref to], n2, _, _, _, _, _, _, _, rfl, m14.same S15, feedS (feed_at2 F13 (fun z => pn11 (by rw [← z]; simp))) S15, by omega, pn11⟩
      · rintro σ H5 ⟨a5, a6, s, Y, O, F, fs, n, o11, o12, o13, o14, o15, o16, o17, rfl, m, _⟩
        exact ⟨a5, a6, a7, s, Y, O, F, fs, _, _, _, _, _, _, _, _, _, _, rfl, m⟩
    · rintro σ H2 ⟨a5, a6, a7, s, Y, O, F, fs, o9, o10, o11, o12, o13, o14, o15, o16, o17, o18, rfl, m⟩
      refine ⟨_, rfl, a7, rfl, ⟨_, SqL.of m.h7⟩, for_list (xs := fs) (fun i σ H' => Same H2 H' ∧ ∃ o17 o18, σ = stM ps hp aS aZ a5 a6 a7 mk c [o9, o10, o11, o12, o13, o14, o15, o16, o17, o18]) ⟨fun _ _ e => e, _, _, rfl⟩ ?_ ?_ ?_⟩
      · rintro i σ H' _ ⟨S, _⟩
        exact SqL.of (S _ _ m.h7)
      · rintro i x σ H' hx ⟨S, o17, o18, rfl⟩
        have m' := m.same S
        obtain ⟨d, hd, hdv⟩ := m'.dv.memE (List.mem_of_getElem? hx)
        obtain ⟨e', he', rfl⟩ := List.mem_map.mp hd
        obtain ⟨qq, u, rfl, hq, hu⟩ := entPy_at hdv
        obtain ⟨q1, q2, ⟨col, q3, q4⟩, q5, q6⟩ := m'.mi.told he'
        refine ⟨qq, _, rfl, SqT.of hq, rfl, _, _, rfl, _, _, rfl, rfl, ?_⟩
        refine ⟨_, rfl, _, rfl, _, rfl, hp, e'.ad c, col, e'.n, e'.k, u, a, c, sh, s, rfl, m'.hp_, q1, q2, q3, q4, q5, by rw [q6]; exact hu, fun H15 S15 => ⟨_, rfl, iteF ?_⟩⟩
        exact ⟨S.trans S15, _, _, rfl⟩
      · rintro σ H' ⟨S, o17, o18, rfl⟩
        have m' := m.same S
        refine ⟨_, rfl, _, _, rfl, .inl ⟨SqL.of m'.h5, fun t1 nt1 => ⟨_, rfl, _, _, rfl, .inl ⟨SqL.of (same_new nt1 _ _ m'.h6), fun t2 nt2 => ?_⟩⟩⟩⟩
        obtain ⟨G2, g2⟩ : ∃ G : Hp, G = upd (upd H' t1 (.tup (Y.map V.int))) t2 (.tup (O.map V.int)) := ⟨_, rfl⟩
        have S2 : Same H' G2 := by rw [g2]; exact (same_new nt1).trans (same_new nt2)
        have f1 : G2 t1 = some (.tup (Y.map V.int)) := by rw [g2]; exact same_new nt2 _ _ upd_same
        have f2 : G2 t2 = some (.tup (O.map V.int)) := by rw [g2]; exact upd_same
        have m2 := m'.same S2
        have fl2 := m2.fsl
        have fl2' := m2.fl
        have yo2 := m2.yo
        rw [← g2]
        refine ⟨_, rfl, a7, rfl, ⟨_, SqL.of m2.h7⟩, fun D nD => ?_⟩
        refine lc_list (K := K) (a := a7) (xs := fs) (fun i H3 => H3 D = some (.lst (List.replicate ((F.take i).filter fun e => !e.g).length (V.int 1))) ∧ Same G2 H3) ⟨upd_same, same_new nD⟩ ?_ ?_ ?_
        · rintro i H3 _ ⟨_, S3⟩
          exact SqL.of (S3 _ _ m2.h7)
        · rintro i x H3 hx ⟨hD, S3⟩
          have hi : i < F.length := by rw [← fl2]; exact (List.getElem?_eq_some_iff.mp hx).1
          obtain ⟨x', ex, hdv⟩ := m2.dv.get (i := i) (d := F[i].py c) (by rw [List.getElem?_map, List.getElem?_eq_getElem hi]; rfl)
          rw [hx] at ex
          cases ex
          obtain ⟨qq, u, rfl, hq, hu⟩ := entPy_at hdv
          obtain ⟨uu, xs, rfl, huu, _, r⟩ := hu.tupE
          obtain ⟨u0, us, rfl, _, r⟩ := r.consE
          obtain ⟨u1, us, rfl, _, r⟩ := r.consE
          obtain ⟨u2, us, rfl, h2, r⟩ := r.consE
          obtain rfl := r.nilE
          obtain ⟨rfl, _⟩ := h2.strE
          refine ⟨rfl, _, rfl, qq, _, 1, _, rfl, rfl, SqT.of (S3 _ _ hq), rfl, uu, _, 2, _, rfl, rfl, SqT.of (S3 _ _ huu), rfl, rfl, _, rfl, ?_⟩
          have et : F.take (i + 1) = F.take i ++ [F[i]] := by rw [List.take_succ_eq_append_getElem hi]
          cases hg : F[i].g with
          | true =>
            have e0 : decide (V.str F[i].room = V.str "nursery") = false := by
              unfold Ent.room
              rw [hg]
              decide
            rw [e0]
            refine iteF ⟨?_, S3⟩
            rw [hD, et, List.filter_append]
            simp [hg]
          | false =>
            have e0 : decide (V.str F[i].room = V.str "nursery") = true := by
              unfold Ent.room
              rw [hg]
              decide
            rw [e0]
            refine iteT ⟨_, hD, ?_, ?_, same_at nD S3⟩
            · rw [List.length_replicate]
              refine big (Nat.le_trans (List.length_filter_le _ _) ?_)
              rw [List.length_take]
              omega
            · rw [upd_same, et, List.filter_append, List.length_append]
              simp [hg, List.replicate_succ']
        · rintro H3 ⟨hD, S3⟩
          rw [fl2, List.take_length] at hD
          refine ⟨_, _, rfl, .inl ⟨_, SqL.of hD, rfl⟩, ?_⟩
          refine ⟨_, rfl, _, _, rfl, .inl ⟨_, SqL.of (S3 _ _ m2.h7), rfl⟩, by show 4 ≤ sizeLine; decide, fun b nb => ?_⟩
          have S4 := S3.trans (same_new (o := .tup [.ref t1, .ref t2, .int ((List.replicate ((F.filter fun e => !e.g).length) (V.int 1)).length : Nat), .int (fs.length : Nat)]) nb)
          have m4 := m2.same S4
          refine q b Y O F s _ m4.mi m4.hp_ m4.kp (.tup upd_same (by show 4 ≤ 50000; decide) (.cons (.tup (S4 _ _ f1) (by rw [List.length_map]; omega) ints_dv) (.cons (.tup (S4 _ _ f2) (by rw [List.length_map]; omega) ints_dv) ?_))) m4.yo m4.fl
          rw [List.length_replicate, fl2]
          exact .cons (.int _) (.cons (.int _) .nil)
end
end PH

/-! The law. -/
namespace PH
open PySem PySem.Spec PyProof.Rows L2 KA KI KK PV T ET
theorem MI.start (c : Sz) : MI c 0 false (s0 c) [] [] [] := by
  refine ⟨rfl, rfl, rfl, rfl, rfl, rfl, ⟨0, List.replicate (c.fo - 1) 0, ?_, ?_⟩, Nat.zero_le _, rfl, rfl, fun _ z => nomatch z⟩
  · show List.replicate c.fo 0 = _
    have : c.fo = (c.fo - 1) + 1 := by unfold Sz.fo; omega
    rw [this, List.replicate_succ]
    simp
  · rw [List.length_replicate]
    unfold Sz.fo
    simp
    omega
theorem MI.begun (c : Sz) : MI c 1 true (begunS c (s0 c)) [] [] [] := by
  obtain ⟨z0, Z, e, l⟩ := (MI.start c).ws
  exact ⟨rfl, rfl, rfl, rfl, rfl, rfl, ⟨z0, Z, e, l⟩, Nat.zero_le _, rfl, rfl, fun _ z => nomatch z⟩
theorem MI.rooms {c : Sz} {hf : Nat} {mk : Bool} {s : Ms} {Y O : List Int} {F : List Ent} (h : MI c hf mk s Y O F) (h2 : hf < 2) : roomW c s 0 = Y ∧ roomW c s (1 + s.half) = [] ∧ s.words.drop c.fo = O ∧ s.nexts[0]? = some (1 + Y.length) ∧ s.nexts[1 + s.half]? = some (c.firsts.getD (1 + s.half) 0) := by
  obtain ⟨z0, Z, ew, l⟩ := h.ws
  have e1 : s.nexts[1 + s.half]? = some (c.firsts.getD (1 + s.half) 0) := by
    rw [h.nx, h.half]
    rcases (by omega : hf = 0 ∨ hf = 1) with rfl | rfl <;> rfl
  refine ⟨?_, ?_, ?_, by rw [h.nx]; rfl, e1⟩
  · unfold roomW
    rw [ew, h.nx]
    show ((z0 :: (Y ++ (Z ++ O))).drop 1).take (1 + Y.length - 1) = Y
    rw [List.drop_succ_cons, List.drop_zero, Nat.add_sub_cancel_left, List.take_left']
    rfl
  · unfold roomW
    have : s.nexts.getD (1 + s.half) 0 = c.firsts.getD (1 + s.half) 0 := by
      rw [List.getD_eq_getElem?_getD, e1]
      rfl
    rw [this, Nat.sub_self, List.take_zero]
  · rw [ew, ← l]
    rw [show 1 + Y.length + Z.length = (Y.length + Z.length) + 1 by omega, List.drop_succ_cons, List.drop_append, List.drop_of_length_le (by omega), Nat.add_sub_cancel_left, List.drop_append, List.drop_of_length_le (Nat.le_refl _), Nat.sub_self]
    rfl
theorem MI.counts {c : Sz} {hf : Nat} {mk : Bool} {s : Ms} {Y O : List Int} {F : List Ent} (h : MI c hf mk s Y O F) : (s.young.filter (· < c.1 + 1)).length = (F.filter fun e => !e.g).length ∧ s.young.length = (F.filter fun e => !e.g).length ∧ s.old.length = F.length - (F.filter fun e => !e.g).length ∧ (F.filter fun e => !e.g).length ≤ F.length := by
  have e1 : s.young.filter (· < c.1 + 1) = s.young := by
    rw [List.filter_eq_self]
    intro x hx
    rw [h.yg] at hx
    obtain ⟨e, he, rfl⟩ := List.mem_map.mp hx
    obtain ⟨he, hg⟩ := List.mem_filter.mp he
    have hg : ¬ e.g = true := by simpa using hg
    have ea := h.ea e he
    rw [if_neg hg] at ea
    have hl := (List.getElem?_eq_some_iff.mp ea.2).1
    have yl := h.yl
    unfold Ent.ad
    rw [if_neg hg]
    exact decide_eq_true (by omega)
  have e2 : s.young.length = (F.filter fun e => !e.g).length := by rw [h.yg, List.length_map]
  refine ⟨by rw [e1, e2], e2, ?_, List.length_filter_le _ _⟩
  rw [h.od, List.length_map]
  have : ∀ G : List Ent, (G.filter fun e => e.g).length + (G.filter fun e => !e.g).length = G.length := fun G => by
    induction G with
    | nil => rfl
    | cons x G ih => cases hx : x.g <;> simp [hx] <;> omega
  have := this F
  omega
theorem sm_ints {n : Nat} (xs : List Int) : smOk (n + 1) (inPy xs) := .inr ⟨_, rfl, fun e he => by
  obtain ⟨z, _, rfl⟩ := List.mem_map.mp he
  cases n
  · exact .inl ⟨_, rfl⟩
  · exact .inl (.inl ⟨_, rfl⟩)⟩
theorem sm_leaf {n : Nat} {d : PyData} (h : leafD d) : smOk n d := by
  cases n
  · exact h
  · exact .inl h
def picPy (Y O : List Int) (hf : Nat) (mk : Bool) : PyData := .tuple [inPy Y, .int hf, inPy [], inPy O, inPy [], inPy [], .bool mk]
theorem pic_ok (Y O : List Int) (hf : Nat) (mk : Bool) : smOk 3 (picPy Y O hf mk) := .inr ⟨_, rfl, fun e he => by
  simp only [List.mem_cons, List.not_mem_nil, or_false] at he
  rcases he with rfl | rfl | rfl | rfl | rfl | rfl | rfl
  · exact sm_ints _
  · exact sm_leaf (.inl ⟨_, rfl⟩)
  · exact sm_ints _
  · exact sm_ints _
  · exact sm_ints _
  · exact sm_ints _
  · exact sm_leaf (.inr (.inl ⟨_, rfl⟩))⟩
theorem eqv_tt : PyData.eqv (.tuple []) (.tuple []) = true := by simp [PyData.eqv, PyData.eqvAll]
section
variable {P : Program} {w : World} {K : PySem.W.Frag} {mg : Str → Option Value} {base : Heap} {C_Moving C_Memory C_Heap : Addr}
def spLaw (K : PySem.W.Frag) : Sp := fun vs H Q _ => ∃ (a : Addr) (ns : List Int), vs = [.ref a] ∧ SqL K H a (ns.map V.int) ∧ ns.length ≤ 63 ∧ ∀ H', Q (.bl true) H'
theorem ok_law {f : Addr} {fd : FuncData} (G : Gd K mg "law" s_law ["_law_script"] f fd) (X : Lw K mg C_Moving C_Memory C_Heap) : FnOk P w K mg base CX0 7 f fd ["_law_script"] (spLaw K) := by
  obtain ⟨f__law_same, d__law_same, G__law_same⟩ := X.f__law_same
  have H__law_same : FnOk P w K mg base CX0 4 f__law_same d__law_same ["_law_told_here", "_law_due"] (spSm 3) := ok_same3 G__law_same X
  obtain ⟨f_Heap_picture, d_Heap_picture, M_Heap_picture⟩ := X.m_Heap_picture
  have H_Heap_picture : FnOk P w K mg base CX0 2 f_Heap_picture d_Heap_picture ["self"] (spHpic C_Heap C_Memory) := ok_hpic M_Heap_picture X
  obtain ⟨f_Heap_is_marking, d_Heap_is_marking, M_Heap_is_marking⟩ := X.m_Heap_is_marking
  have H_Heap_is_marking : FnOk P w K mg base CX0 1 f_Heap_is_marking d_Heap_is_marking ["self"] (spHmark C_Heap C_Memory) := ok_hmark M_Heap_is_marking X
  obtain ⟨f_Heap_remembered, d_Heap_remembered, M_Heap_remembered⟩ := X.m_Heap_remembered
  have H_Heap_remembered : FnOk P w K mg base CX0 1 f_Heap_remembered d_Heap_remembered ["self"] (spHrem C_Heap C_Memory) := ok_hrem M_Heap_remembered X
  obtain ⟨f_Heap_counts, d_Heap_counts, M_Heap_counts⟩ := X.m_Heap_counts
  have H_Heap_counts : FnOk P w K mg base CX0 2 f_Heap_counts d_Heap_counts ["self"] (spHcnt C_Heap C_Memory) := ok_hcnt M_Heap_counts X
  obtain ⟨f__law_makes, d__law_makes, G__law_makes⟩ := X.f__law_makes
  have H__law_makes : FnOk P w K mg base CX0 6 f__law_makes d__law_makes ["_law_script", "_law_heap", "_law_shapes_here", "_law_sizes_here", "_law_marking"] (spMakes K C_Heap C_Memory) := ok_makes G__law_makes X
  obtain ⟨f_Heap_begin, d_Heap_begin, M_Heap_begin⟩ := X.m_Heap_begin
  have H_Heap_begin : FnOk P w K mg base CX0 5 f_Heap_begin d_Heap_begin ["self", "roots"] (spHbeg C_Heap C_Memory) := ok_hbeg M_Heap_begin X
  obtain ⟨f_Heap___init__, d_Heap___init__, K_Heap, F_Heap___init__, b_Heap___init__⟩ := X.i_Heap
  have H_Heap___init__ : FnOk P w K mg base CX0 4 f_Heap___init__ d_Heap___init__ ["self", "shapes", "sizes"] (spHinit C_Heap C_Memory) := ok_hinit F_Heap___init__ X
  obtain ⟨f__law_wide, d__law_wide, G__law_wide⟩ := X.f__law_wide
  have H__law_wide : FnOk P w K mg base CX0 3 f__law_wide d__law_wide ["_law_feed_here"] (spWide) := ok_wide G__law_wide X
  obtain ⟨f__law_sizes, d__law_sizes, G__law_sizes⟩ := X.f__law_sizes
  have H__law_sizes : FnOk P w K mg base CX0 3 f__law_sizes d__law_sizes ["_law_feed_here"] (spSizes) := ok_sizes G__law_sizes X
  obtain ⟨f__law_shapes, d__law_shapes, G__law_shapes⟩ := X.f__law_shapes
  have H__law_shapes : FnOk P w K mg base CX0 3 f__law_shapes d__law_shapes ["_law_feed_here"] (spShapes) := ok_shapes G__law_shapes X
  obtain ⟨f__law_draw, d__law_draw, G__law_draw⟩ := X.f__law_draw
  have H__law_draw : FnOk P w K mg base CX0 1 f__law_draw d__law_draw ["_law_feed_here", "_law_many"] (spDk) := ok_drw G__law_draw X
  obtain ⟨f__law_feed, d__law_feed, G__law_feed⟩ := X.f__law_feed
  have H__law_feed : FnOk P w K mg base CX0 1 f__law_feed d__law_feed ["_law_script", "_law_k"] (spFeed K) := ok_fee G__law_feed X
  refine G.F.ok sc_law (fun vs H Q E h => ?_) (fun cdv A outer s H vs Q E hr h => ?_)
  · obtain ⟨a, ns, rfl, _⟩ := h; rfl
  · obtain ⟨sa, ns, rfl, hS, hl, q⟩ := h
    refine ⟨_, (pss_cons (ps_set (i := 1) sc_law.nd rfl (Or.inl rfl) (pe_call H__law_feed (hr.mono (by decide)) (by rfl) G__law_feed.g G__law_feed.F.kp G__law_feed.b .nil pass0 (pa_cons (pv 0) (pa_cons pe_int pa_nil))))
      (C8.pss_cut (ps_par (i := 2) (j := 3) (by rfl) sc_law.nd rfl rfl (by decide) rfl rfl (pa_cons (pe_cmpR op_eq (pe_call H__law_draw (hr.mono (by decide)) (by rfl) G__law_draw.g G__law_draw.F.kp G__law_draw.b .nil pass0 (pa_cons (pv 1) (pa_cons pe_int pa_nil))) pe_int (nomark _)) (pa_cons (pe_cmpR op_eq (pe_call H__law_draw (hr.mono (by decide)) (by rfl) G__law_draw.g G__law_draw.F.kp G__law_draw.b .nil pass0 (pa_cons (pv 1) (pa_cons pe_int pa_nil))) pe_int (nomark _)) pa_nil)) (by rfl))
      (C8.pss_cut (ps_asg (pe_ifExp (pt_val (pv 3)) (pe_call H__law_wide (hr.mono (by decide)) (by rfl) G__law_wide.g G__law_wide.F.kp G__law_wide.b .nil pass0 (pa_cons (pv 1) pa_nil)) (pe_tup (pa_cons (pe_call H__law_shapes (hr.mono (by decide)) (by rfl) G__law_shapes.g G__law_shapes.F.kp G__law_shapes.b .nil pass0 (pa_cons (pv 1) pa_nil)) (pa_cons (pe_call H__law_sizes (hr.mono (by decide)) (by rfl) G__law_sizes.g G__law_sizes.F.kp G__law_sizes.b .nil pass0 (pa_cons (pv 1) pa_nil)) pa_nil)))) (pg_tup rfl (pgs_cons (pg_name (i := 4) sc_law.nd rfl (Or.inl rfl)) (pgs_cons (pg_name (i := 5) sc_law.nd rfl (Or.inl rfl)) pgs_nil))))
      (pss_cons (ps_par (i := 6) (j := 7) (by rfl) sc_law.nd rfl rfl (by decide) rfl rfl (pa_cons (pe_make K_Heap H_Heap___init__ (hr.mono (by decide)) (by rfl) X.g_Heap b_Heap___init__ .nil pass0 (pa_cons (pv 4) (pa_cons (pv 5) pa_nil))) (pa_cons (pe_make K_Heap H_Heap___init__ (hr.mono (by decide)) (by rfl) X.g_Heap b_Heap___init__ .nil pass0 (pa_cons (pv 4) (pa_cons (pv 5) pa_nil))) pa_nil)) (by rfl))
      (C8.pss_cut (ps_if (PW.pt (pw_and (pt_val (pv 2)) (pw_and1 (pt_cmpR (op_neD hr.units) (pe_meth (pv 6) X.cl_Heap M_Heap_begin.m H_Heap_begin (hr.mono (by decide)) M_Heap_begin.b .nil pass0 (pa_cons (pe_tup pa_nil) pa_nil)) (pe_tup pa_nil) (nomark _)))))
        (pss_one (ps_ret pe_bl)) pss_nil)
      (pss_cons (ps_set (i := 8) sc_law.nd rfl (Or.inl rfl) (pe_call H__law_makes hr (by rfl) G__law_makes.g G__law_makes.F.kp G__law_makes.b .nil pass0 (pa_cons (pv 0) (pa_cons (pv 6) (pa_cons (pv 4) (pa_cons (pv 5) (pa_cons (pv 2) pa_nil)))))))
      (pss_cons (ps_if (pt_cmpR op_isN (pv 8) pe_non (nomark _))
        (pss_one (ps_ret pe_bl)) pss_nil)
      (pss_cons (ps_asg (pv 8) (pg_tup rfl (pgs_cons (pg_name (i := 9) sc_law.nd rfl (Or.inl rfl)) (pgs_cons (pg_name (i := 10) sc_law.nd rfl (Or.inl rfl)) (pgs_cons (pg_name (i := 11) sc_law.nd rfl (Or.inl rfl)) (pgs_cons (pg_name (i := 12) sc_law.nd rfl (Or.inl rfl)) pgs_nil))))))
      (C8.pss_cut (ps_set (i := 13) sc_law.nd rfl (Or.inl rfl) (pe_ifExp (pt_val (pv 2)) pe_int pe_int))
      (pss_cons (ps_if (pt_not (pt_val (pe_call H__law_same (hr.mono (by decide)) (by rfl) G__law_same.g G__law_same.F.kp G__law_same.b .nil pass0 (pa_cons (pe_meth0 (pv 6) X.cl_Heap M_Heap_picture.m H_Heap_picture (hr.mono (by decide)) M_Heap_picture.b .nil pass0) (pa_cons (pe_tup (pa_cons (pv 9) (pa_cons (pv 13) (pa_cons (pe_tup pa_nil) (pa_cons (pv 10) (pa_cons (pe_tup pa_nil) (pa_cons (pe_tup pa_nil) (pa_cons (pv 2) pa_nil)))))))) pa_nil)))))
        (pss_one (ps_ret pe_bl)) pss_nil)
      (pss_cons (ps_if (pt_not (pt_val (pe_call H__law_same (hr.mono (by decide)) (by rfl) G__law_same.g G__law_same.F.kp G__law_same.b .nil pass0 (pa_cons (pe_meth0 (pv 6) X.cl_Heap M_Heap_counts.m H_Heap_counts (hr.mono (by decide)) M_Heap_counts.b .nil pass0) (pa_cons (pe_tup (pa_cons (pe_callB call_len (by rfl) X.b_len PySem.boot_len (pa_cons (pv 9) pa_nil)) (pa_cons pe_int (pa_cons (pe_callB call_len (by rfl) X.b_len PySem.boot_len (pa_cons (pv 10) pa_nil)) (pa_cons (pv 11) (pa_cons pe_int (pa_cons (pe_op op_sub (pv 12) (pv 11)) pa_nil))))))) pa_nil)))))
        (pss_one (ps_ret pe_bl)) pss_nil)
      (pss_cons (ps_if (pt_not (pt_val (pe_call H__law_same (hr.mono (by decide)) (by rfl) G__law_same.g G__law_same.F.kp G__law_same.b .nil pass0 (pa_cons (pe_tup (pa_cons (pe_meth0 (pv 6) X.cl_Heap M_Heap_remembered.m H_Heap_remembered (hr.mono (by decide)) M_Heap_remembered.b .nil pass0) (pa_cons (pe_meth0 (pv 6) X.cl_Heap M_Heap_is_marking.m H_Heap_is_marking (hr.mono (by decide)) M_Heap_is_marking.b .nil pass0) (pa_cons (pe_meth0 (pv 7) X.cl_Heap M_Heap_is_marking.m H_Heap_is_marking (hr.mono (by decide)) M_Heap_is_marking.b .nil pass0) pa_nil)))) (pa_cons (pe_tup (pa_cons (pe_tup pa_nil) (pa_cons (pv 2) (pa_cons pe_bl pa_nil)))) pa_nil)))))
        (pss_one (ps_ret pe_bl)) pss_nil)
      (pss_one (ps_ret (pe_call H__law_same (hr.mono (by decide)) (by rfl) G__law_same.g G__law_same.F.kp G__law_same.b .nil pass0 (pa_cons (pe_meth0 (pv 7) X.cl_Heap M_Heap_picture.m H_Heap_picture (hr.mono (by decide)) M_Heap_picture.b .nil pass0) (pa_cons (pe_tup (pa_cons (pe_tup pa_nil) (pa_cons pe_int (pa_cons (pe_tup pa_nil) (pa_cons (pe_tup pa_nil) (pa_cons (pe_tup pa_nil) (pa_cons (pe_tup pa_nil) (pa_cons pe_bl pa_nil)))))))) pa_nil))))))))))))))))), ?_⟩
    refine ⟨_, rfl, sa, ns, 0, rfl, hS, by decide, fun p H1 np S1 F1 => ?_⟩
    refine ⟨fun σ' H' => ∃ (mk wd : Bool), σ' = [some (.ref sa), some (.ref p), some (.bl mk), some (.bl wd), none, none, none, none, none, none, none, none, none, none] ∧ FeedAt H' p 2 ∧ KeptL [p] H1 H', ?_, ?_⟩
    · exact ⟨_, rfl, p, 3, 0, rfl, F1, by decide, by decide, by decide, fun r H2 r0 r1 k2 F2 => ⟨rfl, _, rfl, p, 2, 1, rfl, F2, by decide, by decide, by decide, fun r' H3 r0' r1' k3 F3 => ⟨rfl, _, _, rfl, _, _, rfl, F3, k2.trans k3⟩⟩⟩
    rintro _ H2 ⟨mk, wd, rfl, F2, k2⟩
    have S2 : ∀ {H3 : Hp}, KeptL [p] H2 H3 → Same H H3 := fun k b o e => (k2.trans k) _ _ (by rw [List.mem_singleton]; exact ne_of_none e np) (S1 _ _ e)
    refine ⟨fun σ' H' => ∃ (aS aZ : Addr) (sh : List (List Bool)) (c : Sz), σ' = [some (.ref sa), some (.ref p), some (.bl mk), some (.bl wd), some (.ref aS), some (.ref aZ), none, none, none, none, none, none, none, none] ∧ Dv H' (.ref aS) (shPy sh) ∧ Dv H' (.ref aZ) (szPy c) ∧ szOk c ∧ sh.length ≤ 60 ∧ (∀ r ∈ sh, r.length ≤ 100) ∧ Same H H', ?_, ?_⟩
    · refine ⟨_, rfl, wd, rfl, ite2 (fun _ => ?_) (fun _ => ?_)⟩
      · refine ⟨_, rfl, p, 2, rfl, F2, by decide, fun v sh c m t u b H4 ev hb k4 F4 hm dt du hc h60 h100 => ?_⟩
        subst ev
        obtain ⟨aS, _, rfl, _⟩ := shPy_at dt
        obtain ⟨aZ, rfl, _⟩ := szPy_at du
        exact ⟨b, _, rfl, SqT.of hb, rfl, _, _, rfl, _, _, rfl, rfl, aS, aZ, sh, c, rfl, dt, du, hc, h60, h100, S2 k4⟩
      · refine ⟨_, rfl, p, 2, rfl, F2, by decide, fun v sh m H4 k4 F4 hm dt h60 h100 h1 => ⟨_, rfl, p, m, rfl, F4, by omega, fun u c m' H5 k5 F5 hm' du hc => ⟨by show 2 ≤ sizeLine; decide, fun b nb => ?_⟩⟩⟩
        obtain ⟨aS, _, rfl, _⟩ := shPy_at dt
        obtain ⟨aZ, rfl, _⟩ := szPy_at du
        have Sb := same_new (o := .tup [.ref aS, .ref aZ]) nb
        exact ⟨b, _, rfl, SqT.of upd_same, rfl, _, _, rfl, _, _, rfl, rfl, aS, aZ, sh, c, rfl, (dt.same (feed_tups k5 F4)).same (TupSame.of Sb), du.same (TupSame.of Sb), hc, h60, h100, (S2 (k4.trans k5)).trans Sb⟩
    rintro _ H3 ⟨aS, aZ, sh, c, rfl, dS, dZ, hc, h60, h100, S3⟩
    refine ⟨_, rfl, _, rfl, fun h1 d1 nh1 nd1 ne1 => ?_⟩
    have SA : Same H3 (upd (upd H3 d1 (.own h1)) h1 (.ins C_Heap d1 [])) := same_at nh1 (same_new nd1)
    refine ⟨h1, d1, aS, aZ, c, sh, rfl, upd_same, dS.same (TupSame.of SA), dZ.same (TupSame.of SA), hc, h60, h100, fun a1 H5 hp1 own1 k5 => ⟨rfl, ?_⟩⟩
    have S5 : Same H3 H5 := fun b o e => k5 _ _ (by rw [List.mem_singleton]; exact ne_of_none e nh1) (SA _ _ e)
    refine ⟨_, rfl, _, rfl, fun h2 d2 nh2 nd2 ne2 => ?_⟩
    have SB : Same H5 (upd (upd H5 d2 (.own h2)) h2 (.ins C_Heap d2 [])) := same_at nh2 (same_new nd2)
    have dS5 := dS.same (TupSame.of S5)
    have dZ5 := dZ.same (TupSame.of S5)
    refine ⟨h2, d2, aS, aZ, c, sh, rfl, upd_same, dS5.same (TupSame.of SB), dZ5.same (TupSame.of SB), hc, h60, h100, fun a2 H6 hp2 own2 k6 => ⟨rfl, ?_⟩⟩
    have S6 : Same H5 H6 := fun b o e => k6 _ _ (by rw [List.mem_singleton]; exact ne_of_none e nh2) (SB _ _ e)
    have hp1' := hp1.same S6
    have dS6 := dS5.same (TupSame.of S6)
    have dZ6 := dZ5.same (TupSame.of S6)
    have SH6 := S3.trans (S5.trans S6)
    have dis : ∀ b ∈ a2.own, b ∉ a1.own := fun b hb z => by
      obtain ⟨o, ho, _⟩ := hp1.mem.ownAt b z
      have := own2 b hb
      rw [SB _ _ ho] at this
      cases this
    have h2n : h2 ∉ a1.own := fun z => by
      obtain ⟨o, ho, _⟩ := hp1.mem.ownAt _ z
      rw [nh2] at ho; cases ho
    refine ⟨_, _, rfl, ?_⟩
    refine ⟨fun σ' H' => ∃ (a : Ma) (s : Ms) (hf : Nat), σ' = [some (.ref sa), some (.ref p), some (.bl mk), some (.bl wd), some (.ref aS), some (.ref aZ), some (.ref h1), some (.ref h2), none, none, none, none, none, none] ∧ hf = (if mk = true then 1 else 0) ∧ MI c hf mk s [] [] [] ∧ HpAt C_Heap C_Memory H' h1 a c sh s ∧ HpAt C_Heap C_Memory H' h2 a2 c sh (s0 c) ∧ (∀ b ∈ a2.own, b ∉ a.own) ∧ h2 ∉ a.own ∧ (∀ b ∈ a.own, H b = none) ∧ Same H H' ∧ Dv H' (.ref aS) (shPy sh) ∧ Dv H' (.ref aZ) (szPy c), ?_, ?_⟩
    · have n1 : ∀ b ∈ a1.own, H b = none := fun b hb => S3.free (SA.free (own1 b hb))
      refine ⟨_, rfl, mk, rfl, ?_⟩
      cases mk with
      | false => exact iteF (iteF ⟨a1, s0 c, 0, rfl, rfl, MI.start c, hp1', hp2, dis, h2n, n1, SH6, dS6, dZ6⟩)
      | true =>
        obtain ⟨dx1, hd1⟩ := hp1'.at_
        refine iteT ⟨_, rfl, h1, dx1, HpF a1, rfl, hd1, hpF_no (by decide), by show 0 ≤ sizeLine; decide, fun e ne => ?_⟩
        have Se := same_new (o := .tup []) ne
        refine ⟨h1, e, a1, c, sh, s0 c, rfl, hp1'.same Se, upd_same, by show 0 < 2; decide, rfl, rfl, rfl, fun a' b H8 hp8 k8 ow8 fb => ⟨by show 0 ≤ sizeLine; decide, fun e2 ne2 => ?_⟩⟩
        have Se2 := same_new (o := .tup []) ne2
        refine ⟨.tuple [], .tuple [], .tup (SqT.of (Se2 _ _ fb)) .nil, .tup (SqT.of upd_same) .nil, by decide +kernel, by decide +kernel, _, rfl, ?_⟩
        rw [eqv_tt]
        have hm1 := hp1'.mem.ownAt
        have t8 : TupSame H6 H8 := fun b xs e => (k8.tups2 fun b hb => by
          obtain ⟨o, ho, h⟩ := hm1 b hb
          exact ⟨o, Se _ _ ho, h⟩) _ _ (Se _ _ e)
        have k68 : KeptL a1.own H6 H8 := (KeptL.of_same Se).trans k8
        have own8 : ∀ b ∈ a'.own, b ∈ a1.own ∨ H6 b = none := fun b hb => (ow8 b hb).imp id fun z => Se.free z
        have S8 : Same H H8 := fun b o e => k68 _ _ (fun z => by rw [n1 b z] at e; cases e) (SH6 _ _ e)
        refine iteF ⟨a', begunS c (s0 c), 1, rfl, rfl, MI.begun c, hp8.same Se2, ((hp2.kept k68 t8 h2n dis)).same Se2, fun b hb z => ?_, fun z => ?_, fun b hb => ?_, S8.trans Se2, (dS6.same t8).same (TupSame.of Se2), (dZ6.same t8).same (TupSame.of Se2)⟩
        · rcases own8 b z with z | z
          · exact dis b hb z
          · obtain ⟨o, ho, _⟩ := hp2.mem.ownAt b hb
            rw [z] at ho; cases ho
        · obtain ⟨dx2, hd2⟩ := hp2.at_
          rcases own8 _ z with z | z
          · exact h2n z
          · rw [z] at hd2; cases hd2
        · rcases own8 b hb with z | z
          · exact n1 b z
          · exact SH6.free z
    rintro _ H7 ⟨a, s, hf, rfl, ehf, mi, hp7, hq7, dis, h2n, n1, S7, dS7, dZ7⟩
    have hf2 : hf < 2 := by rw [ehf]; split <;> omega
    have hS7 : ∀ H', KeptL a.own H7 H' → SqL K H' sa (ns.map V.int) := fun H' k => by
      have k0 : KeptL a.own H H' := (KeptL.of_same S7).trans k
      rcases hS with (h | ⟨o, h⟩) | h
      · exact .inl (.inl (k0 _ _ (fun z => by rw [n1 _ z] at h; cases h) h))
      · exact .inl (.inr ⟨o, k0 _ _ (fun z => by rw [n1 _ z] at h; cases h) h⟩)
      · exact .inr h
    refine ⟨_, rfl, _, rfl, _, rfl, _, rfl, _, rfl, sa, h1, ns, .ref aS, .ref aZ, a, c, sh, s, hf, mk, rfl, hS7, hl, hp7, dS7, dZ7, hc, h60, h100, mi, fun b Y O F s' H8 mi8 hp8 k8 dv8 yo fl8 => ?_⟩
    have hq8 : HpAt C_Heap C_Memory H8 h2 a2 c sh (s0 c) := hq7.kept k8 (k8.tups2 hp7.mem.ownAt) h2n dis
    obtain ⟨bb, us, eb, hb, _, r⟩ := dv8.tupE
    cases eb
    obtain ⟨u0, us, rfl, v0, r⟩ := r.consE
    obtain ⟨u1, us, rfl, v1, r⟩ := r.consE
    obtain ⟨u2, us, rfl, v2, r⟩ := r.consE
    obtain ⟨u3, us, rfl, v3, r⟩ := r.consE
    obtain rfl := r.nilE
    cases v2
    cases v3
    obtain ⟨t0, rfl, ht0, _⟩ := inPy_at v0
    obtain ⟨t1, rfl, ht1, _⟩ := inPy_at v1
    refine ⟨_, rfl, rfl, _, rfl, iteF ?_⟩
    refine ⟨_, rfl, b, _, rfl, SqT.of hb, rfl, _, _, rfl, _, _, rfl, _, _, rfl, _, _, rfl, rfl, ?_⟩
    refine ⟨fun σ' H' => σ' = [some (.ref sa), some (.ref p), some (.bl mk), some (.bl wd), some (.ref aS), some (.ref aZ), some (.ref h1), some (.ref h2), some (.ref b), some (.ref t0), some (.ref t1), some (.int (F.filter fun e => !e.g).length), some (.int F.length), some (.int hf)] ∧ H8 = H', ?_, ?_⟩
    · refine ⟨_, rfl, mk, rfl, itev ⟨?_, rfl⟩⟩
      rw [ehf]
      cases mk <;> rfl
    rintro _ _ ⟨rfl, rfl⟩
    obtain ⟨R1, R2, R3, R4, R5⟩ := mi8.rooms hf2
    obtain ⟨C1, C2, C3, C4⟩ := mi8.counts
    have wl := mi8.wl
    have fo : c.fo = c.1 + 2 * c.2.1 + 1 := rfl
    obtain ⟨cz1, cz2, cz3, cz4, cz5, cz6, cz7⟩ := hc
    have yl := mi8.yl
    have hh8 : s'.half < 2 := by rw [mi8.half]; exact hf2
    have hfs : c.firsts.getD (1 + s'.half) 0 ≤ c.fo := by
      rcases (by omega : s'.half = 0 ∨ s'.half = 1) with e | e
      · rw [e]; show c.1 + 1 ≤ _; omega
      · rw [e]; show c.1 + c.2.1 + 1 ≤ _; omega
    obtain ⟨dx1, hd1⟩ := hp8.at_
    have gl : s'.grey.drop s'.done = [] := by rw [mi8.grey, List.drop_nil]
    have gd : s'.done ≤ s'.grey.length := by rw [mi8.grey, mi8.done]; exact Nat.le_refl _
    refine ⟨_, rfl, h1, dx1, HpF a, rfl, hd1, hpF_no (by decide), h1, 1 + Y.length, c.firsts.getD (1 + s'.half) 0, a, c, sh, s', rfl, hp8, hh8, R4, by omega, by omega, R5, Nat.le_refl _, by omega, by omega, by omega, by rw [mi8.rem]; decide, by rw [mi8.grey]; decide, gd, fun pb ns2 H9 pm pw S9 dp => ?_⟩
    have ens : ns2 = [] := List.perm_nil.mp (by rw [mi8.rem] at pm; exact pm)
    subst ens
    rw [R1, R2, R3, gl, mi8.half, mi8.marks] at dp
    have dp : Dv H9 (.ref pb) (picPy Y O hf mk) := dp
    refine ⟨_, rfl, _, rfl, by show 0 ≤ sizeLine; decide, fun e1 ne1 => ⟨_, rfl, by show 0 ≤ sizeLine; decide, fun e2 ne2 => ⟨by show 0 ≤ sizeLine; decide, fun e3 ne3 => ⟨_, rfl, by show 7 ≤ sizeLine; decide, fun tp ntp => ?_⟩⟩⟩⟩
    have X1 := same_new (o := .tup []) ne1
    have X2 := same_new (o := .tup []) ne2
    have X3 := same_new (o := .tup []) ne3
    have X4 := same_new (o := .tup [.ref t0, .int hf, .ref e1, .ref t1, .ref e2, .ref e3, .bl mk]) ntp
    obtain ⟨G9, g9⟩ : ∃ G : Hp, G = upd (upd (upd (upd H9 e1 (.tup [])) e2 (.tup [])) e3 (.tup [])) tp (.tup [.ref t0, .int hf, .ref e1, .ref t1, .ref e2, .ref e3, .bl mk]) := ⟨_, rfl⟩
    have X9 : Same H9 G9 := by rw [g9]; exact ((X1.trans X2).trans X3).trans X4
    have ftp : G9 tp = some (.tup [.ref t0, .int hf, .ref e1, .ref t1, .ref e2, .ref e3, .bl mk]) := by rw [g9]; exact upd_same
    have fe1 : G9 e1 = some (.tup []) := by rw [g9]; exact X4 _ _ (X3 _ _ (X2 _ _ upd_same))
    have fe2 : G9 e2 = some (.tup []) := by rw [g9]; exact X4 _ _ (X3 _ _ upd_same)
    have fe3 : G9 e3 = some (.tup []) := by rw [g9]; exact X4 _ _ upd_same
    have S89 := S9.trans X9
    have ey : ∀ {e : Addr} {H : Hp}, H e = some (.tup []) → Dv H (.ref e) (inPy []) := fun h => .tup h (by decide) .nil
    have dd : Dv G9 (.ref tp) (picPy Y O hf mk) := .tup ftp (by show 7 ≤ 50000; decide) (.cons (v0.same (TupSame.of S89)) (.cons (.int _) (.cons (ey fe1) (.cons (v1.same (TupSame.of S89)) (.cons (ey fe2) (.cons (ey fe3) (.cons (.bl _) .nil)))))))
    refine ⟨.ref pb, .ref tp, _, rfl, ?_, ?_, pic_ok Y O hf mk, _, rfl, iteF ?_⟩
    · rw [← g9]; exact dp.same (TupSame.of X9)
    · rw [← g9]; exact dd
    refine at_nx g9 ?_
    -- counts
    have hp9 := hp8.same S89
    have hq9 := hq8.same S89
    obtain ⟨dx2, hd2⟩ := hp9.at_
    refine ⟨_, rfl, h1, dx2, HpF a, rfl, hd2, hpF_no (by decide), h1, 1 + Y.length, c.firsts.getD (1 + s'.half) 0, a, c, sh, s', rfl, hp9, hh8, R4, by omega, by omega, R5, Nat.le_refl _, by omega, by omega, by omega, fun cb H10 ncb S10 fcb => ?_⟩
    rw [R1, R2, R3, C1, C2, C3] at fcb
    have S810 := S89.trans S10
    refine ⟨_, rfl, .ref t0, _, rfl, .inr ⟨_, SqT.of (S810 _ _ ht0), rfl⟩, _, rfl, .ref t1, _, rfl, .inr ⟨_, SqT.of (S810 _ _ ht1), rfl⟩, _, rfl, _, rfl, _, rfl, _, _, rfl, rfl, by show 6 ≤ sizeLine; decide, fun tc ntc => ?_⟩
    have XC := same_new (o := .tup [.int ((Y.map V.int).length : Nat), .int 0, .int ((O.map V.int).length : Nat), .int ((F.filter fun e => !e.g).length : Nat), .int 0, .int ((F.length : Int) - ((F.filter fun e => !e.g).length : Nat))]) ntc
    have e5 : (F.length : Int) - (((F.filter fun e => !e.g).length : Nat) : Int) = ((F.length - (F.filter fun e => !e.g).length : Nat) : Int) := by omega
    refine ⟨.ref cb, .ref tc, .tuple [.int (Y.length : Nat), .int 0, .int (O.length : Nat), .int ((F.filter fun e => !e.g).length : Nat), .int 0, .int ((F.length : Int) - ((F.filter fun e => !e.g).length : Nat))], rfl, ?_, ?_, ?_, _, rfl, iteF ?_⟩
    · refine .tup (XC _ _ fcb) (by show 6 ≤ 50000; decide) ?_
      rw [e5, Nat.sub_self]
      exact .cons (.int _) (.cons (.int _) (.cons (.int _) (.cons (.int _) (.cons (.int _) (.cons (.int _) .nil)))))
    · refine .tup upd_same (by show 6 ≤ 50000; decide) ?_
      rw [List.length_map, List.length_map]
      exact .cons (.int _) (.cons (.int _) (.cons (.int _) (.cons (.int _) (.cons (.int _) (.cons (.int _) .nil)))))
    · refine .inr ⟨_, rfl, fun e he => ?_⟩
      simp only [List.mem_cons, List.not_mem_nil, or_false] at he
      rcases he with rfl | rfl | rfl | rfl | rfl | rfl <;> exact sm_leaf (.inl ⟨_, rfl⟩)
    obtain ⟨G10, g10⟩ : ∃ G : Hp, G = upd H10 tc (.tup [.int ((Y.map V.int).length : Nat), .int 0, .int ((O.map V.int).length : Nat), .int ((F.filter fun e => !e.g).length : Nat), .int 0, .int ((F.length : Int) - ((F.filter fun e => !e.g).length : Nat))]) := ⟨_, rfl⟩
    rw [← g10] at XC
    refine at_nx g10 ?_
    have hp10 := hp9.same (S10.trans XC)
    have hq10 := hq9.same (S10.trans XC)
    obtain ⟨dx3, hd3⟩ := hp10.at_
    obtain ⟨dy3, he3⟩ := hq10.at_
    -- remembered, marking
    refine ⟨_, rfl, h1, dx3, HpF a, rfl, hd3, hpF_no (by decide), h1, a, c, sh, s', rfl, hp10, by rw [mi8.rem]; decide, fun rb ns3 H11 pm3 pw3 nrb S11 frb => ?_⟩
    have ens3 : ns3 = [] := List.perm_nil.mp (by rw [mi8.rem] at pm3; exact pm3)
    subst ens3
    have hp11 := hp10.same S11
    have hq11 := hq10.same S11
    refine ⟨_, rfl, h1, dx3, HpF a, rfl, S11 _ _ hd3, hpF_no (by decide), h1, a, c, sh, s', rfl, hp11, _, rfl, h2, dy3, HpF a2, rfl, S11 _ _ he3, hpF_no (by decide), h2, a2, c, sh, s0 c, rfl, hq11, by show 3 ≤ sizeLine; decide, fun tm ntm => ⟨by show 0 ≤ sizeLine; decide, fun e4 ne4 => ⟨_, rfl, by show 3 ≤ sizeLine; decide, fun tn ntn => ?_⟩⟩⟩
    rw [mi8.marks] at ne4 ntn ⊢
    have XM := same_new (o := .tup [.ref rb, .bl mk, .bl (s0 c).marks]) ntm
    have X4' := same_new (o := .tup []) ne4
    have XN := same_new (o := .tup [.ref e4, .bl mk, .bl false]) ntn
    refine ⟨.ref tm, .ref tn, .tuple [inPy [], .bool mk, .bool false], rfl, ?_, ?_, ?_, _, rfl, iteF ?_⟩
    · exact .tup (XN _ _ (X4' _ _ upd_same)) (by show 3 ≤ 50000; decide) (.cons (.tup (XN _ _ (X4' _ _ (XM _ _ frb))) (by decide) .nil) (.cons (.bl _) (.cons (.bl _) .nil)))
    · exact .tup upd_same (by show 3 ≤ 50000; decide) (.cons (.tup (XN _ _ upd_same) (by decide) .nil) (.cons (.bl _) (.cons (.bl _) .nil)))
    · refine .inr ⟨_, rfl, fun e he => ?_⟩
      simp only [List.mem_cons, List.not_mem_nil, or_false] at he
      rcases he with rfl | rfl | rfl
      · exact sm_ints _
      · exact sm_leaf (.inr (.inl ⟨_, rfl⟩))
      · exact sm_leaf (.inr (.inl ⟨_, rfl⟩))
    have XX := (XM.trans X4').trans XN
    obtain ⟨G12, g12⟩ : ∃ G : Hp, G = upd (upd (upd H11 tm (.tup [.ref rb, .bl mk, .bl (s0 c).marks])) e4 (.tup [])) tn (.tup [.ref e4, .bl mk, .bl false]) := ⟨_, rfl⟩
    rw [← g12] at XX
    refine at_nx g12 ?_
    have hq12 := hq11.same XX
    obtain ⟨dy4, he4⟩ := hq12.at_
    obtain ⟨T1, T2, T3, T4, T5⟩ := (MI.start c).rooms (by decide)
    have wl0 := (MI.start c).wl
    have tf : c.firsts.getD (1 + (s0 c).half) 0 ≤ c.fo := by show c.1 + 1 ≤ _; omega
    refine ⟨_, rfl, h2, dy4, HpF a2, rfl, he4, hpF_no (by decide), h2, 1, c.firsts.getD (1 + (s0 c).half) 0, a2, c, sh, s0 c, rfl, hq12, by show 0 < 2; decide, T4, Nat.le_refl _, by rw [wl0]; omega, T5, Nat.le_refl _, by rw [wl0]; omega, by rw [wl0]; omega, by rw [wl0]; show c.fo + 0 ≤ _; omega, by show 0 ≤ 40000; decide, by show 0 ≤ 40000; decide, by show 0 ≤ 0; decide, fun qb ns4 H13 pm4 pw4 S13 dq => ?_⟩
    have ens4 : ns4 = [] := List.perm_nil.mp pm4
    subst ens4
    rw [T1, T2, T3] at dq
    have dq : Dv H13 (.ref qb) (picPy [] [] 0 false) := dq
    refine ⟨by show 0 ≤ sizeLine; decide, fun e1 ne1 => ⟨by show 0 ≤ sizeLine; decide, fun e2 ne2 => ⟨by show 0 ≤ sizeLine; decide, fun e3 ne3 => ⟨by show 0 ≤ sizeLine; decide, fun e4 ne4 => ⟨by show 0 ≤ sizeLine; decide, fun e5 ne5 => ⟨by show 7 ≤ sizeLine; decide, fun tz ntz => ?_⟩⟩⟩⟩⟩⟩
    have Y1 := same_new (o := .tup []) ne1
    have Y2 := same_new (o := .tup []) ne2
    have Y3 := same_new (o := .tup []) ne3
    have Y4 := same_new (o := .tup []) ne4
    have Y5 := same_new (o := .tup []) ne5
    have Y6 := same_new (o := .tup [.ref e1, .int 0, .ref e2, .ref e3, .ref e4, .ref e5, .bl false]) ntz
    refine ⟨.ref qb, .ref tz, _, rfl, dq.same (TupSame.of (((((Y1.trans Y2).trans Y3).trans Y4).trans Y5).trans Y6)), .tup upd_same (by show 7 ≤ 50000; decide) (.cons (ey (Y6 _ _ (Y5 _ _ (Y4 _ _ (Y3 _ _ (Y2 _ _ upd_same)))))) (.cons (.int _) (.cons (ey (Y6 _ _ (Y5 _ _ (Y4 _ _ (Y3 _ _ upd_same))))) (.cons (ey (Y6 _ _ (Y5 _ _ (Y4 _ _ upd_same)))) (.cons (ey (Y6 _ _ (Y5 _ _ upd_same))) (.cons (ey (Y6 _ _ upd_same)) (.cons (.bl _) .nil))))))), pic_ok [] [] 0 false, q _⟩
end
end PH

/-! The facts. -/
namespace HX
open PySem PySem.Spec PyProof.Rows L2 PV T KA KK PH
open He (Fa FnD ga ma)
theorem fun_of {K : PySem.W.Frag} (ce : He.SaysE fa fn K) (i : Nat) {p : Str × Option Str} {x q : Str} {st : Stmt} (h : fn[i]? = some ⟨p, x, q, defArgs st, defBody st, defScope st⟩) (kp : PySem.W.keepIn K (.ref (He.fAd K p)) = true) : ∃ fd, L2.Fun K x q st (He.fAd K p) fd := by
  obtain ⟨oc, od, osl, kV, doc, pm, an, cdv, ct, e1, e2⟩ := ce.def_ i h
  exact ⟨_, ⟨oc, od, kV, doc, pm, an, cdv, ct, osl, rfl, e1, e2⟩, kp⟩
theorem lw {w : World} {K : PySem.W.Frag} {h : Heap} {mg : Str → Option Value} (X : K.In h) (G : h.Ns mainGlobals mg) (c : Says w K) : KK.Lw K mg (ga K "Moving") (ga K "Memory") (ga K "Heap") := by
  have ce : He.SaysE fa fn K := c
  have g : ∀ x, (Fa.glo x).ok K = true → mg x = some (.ref (ga K x)) := fun x c => He.glo_ok X G c
  have z_bool : mg "bool" = none := He.free_ok X G (ce.fact 77 rfl)
  have z_enumerate : mg "enumerate" = none := He.free_ok X G (ce.fact 78 rfl)
  have z_int : mg "int" = none := He.free_ok X G (ce.fact 79 rfl)
  have z_isinstance : mg "isinstance" = none := He.free_ok X G (ce.fact 80 rfl)
  have z_len : mg "len" = none := He.free_ok X G (ce.fact 81 rfl)
  have z_list : mg "list" = none := He.free_ok X G (ce.fact 82 rfl)
  have z_max : mg "max" = none := He.free_ok X G (ce.fact 83 rfl)
  have z_min : mg "min" = none := He.free_ok X G (ce.fact 84 rfl)
  have z_range : mg "range" = none := He.free_ok X G (ce.fact 85 rfl)
  have z_sorted : mg "sorted" = none := He.free_ok X G (ce.fact 86 rfl)
  have z_str : mg "str" = none := He.free_ok X G (ce.fact 87 rfl)
  have z_sum : mg "sum" = none := He.free_ok X G (ce.fact 88 rfl)
  have z_tuple : mg "tuple" = none := He.free_ok X G (ce.fact 89 rfl)
  have i_MOST_ENTRIES : ∃ t, mg "MOST_ENTRIES" = some (.int (1000) t) := He.int_ok X G (ce.fact 90 rfl)
  have i_LINK_ROW : ∃ t, mg "LINK_ROW" = some (.int (-2) t) := He.int_ok X G (ce.fact 91 rfl)
  have i_SIGNS : ∃ t, mg "SIGNS" = some (.int (-3) t) := He.int_ok X G (ce.fact 92 rfl)
  have i_WHITE : ∃ t, mg "WHITE" = some (.int (0) t) := He.int_ok X G (ce.fact 93 rfl)
  have i_GREY : ∃ t, mg "GREY" = some (.int (1) t) := He.int_ok X G (ce.fact 94 rfl)
  have i_BLACK : ∃ t, mg "BLACK" = some (.int (2) t) := He.int_ok X G (ce.fact 95 rfl)
  have i_HEAD_WORDS : ∃ t, mg "HEAD_WORDS" = some (.int (2) t) := He.int_ok X G (ce.fact 96 rfl)
  have i_MOST_SHAPES : ∃ t, mg "MOST_SHAPES" = some (.int (60) t) := He.int_ok X G (ce.fact 97 rfl)
  have i_MOST_SHAPE_FIELDS : ∃ t, mg "MOST_SHAPE_FIELDS" = some (.int (100) t) := He.int_ok X G (ce.fact 98 rfl)
  have i_LEAST_NURSERY : ∃ t, mg "LEAST_NURSERY" = some (.int (16) t) := He.int_ok X G (ce.fact 99 rfl)
  have i_MOST_ROOM : ∃ t, mg "MOST_ROOM" = some (.int (4096) t) := He.int_ok X G (ce.fact 100 rfl)
  have i_LEAST_GREAT : ∃ t, mg "LEAST_GREAT" = some (.int (4) t) := He.int_ok X G (ce.fact 101 rfl)
  have i_MOST_AGE : ∃ t, mg "MOST_AGE" = some (.int (7) t) := He.int_ok X G (ce.fact 102 rfl)
  have i_MOST_ROOTS : ∃ t, mg "MOST_ROOTS" = some (.int (40000) t) := He.int_ok X G (ce.fact 103 rfl)
  have g_Moving := g "Moving" (ce.fact 74 rfl)
  have g_Memory := g "Memory" (ce.fact 75 rfl)
  have g_Heap := g "Heap" (ce.fact 76 rfl)
  have d__wall : ∃ f fd, Gd K mg "_wall" s__wall ["k"] f fd := by
    obtain ⟨fd, F⟩ := fun_of ce 0 (st := s__wall) rfl (He.keep_ok (x := "_wall") (ce.fact 1 rfl))
    exact ⟨_, fd, F, g "_wall" (ce.fact 0 rfl), F.binds (ps := ["k"]) fun _ _ _ _ _ _ us hl => match us, hl with | [_], _ => rfl⟩
  have d_is_integer : ∃ f fd, Gd K mg "is_integer" s_is_integer ["thing"] f fd := by
    obtain ⟨fd, F⟩ := fun_of ce 1 (st := s_is_integer) rfl (He.keep_ok (x := "is_integer") (ce.fact 3 rfl))
    exact ⟨_, fd, F, g "is_integer" (ce.fact 2 rfl), F.binds (ps := ["thing"]) fun _ _ _ _ _ _ us hl => match us, hl with | [_], _ => rfl⟩
  have d_is_between : ∃ f fd, Gd K mg "is_between" s_is_between ["thing", "least", "greatest"] f fd := by
    obtain ⟨fd, F⟩ := fun_of ce 2 (st := s_is_between) rfl (He.keep_ok (x := "is_between") (ce.fact 5 rfl))
    exact ⟨_, fd, F, g "is_between" (ce.fact 4 rfl), F.binds (ps := ["thing", "least", "greatest"]) fun _ _ _ _ _ _ us hl => match us, hl with | [_, _, _], _ => rfl⟩
  have d_is_tuple_to : ∃ f fd, Gd K mg "is_tuple_to" s_is_tuple_to ["thing", "most"] f fd := by
    obtain ⟨fd, F⟩ := fun_of ce 3 (st := s_is_tuple_to) rfl (He.keep_ok (x := "is_tuple_to") (ce.fact 7 rfl))
    exact ⟨_, fd, F, g "is_tuple_to" (ce.fact 6 rfl), F.binds (ps := ["thing", "most"]) fun _ _ _ _ _ _ us hl => match us, hl with | [_, _], _ => rfl⟩
  have d_is_tuple_of : ∃ f fd, Gd K mg "is_tuple_of" s_is_tuple_of ["thing", "many"] f fd := by
    obtain ⟨fd, F⟩ := fun_of ce 4 (st := s_is_tuple_of) rfl (He.keep_ok (x := "is_tuple_of") (ce.fact 9 rfl))
    exact ⟨_, fd, F, g "is_tuple_of" (ce.fact 8 rfl), F.binds (ps := ["thing", "many"]) fun _ _ _ _ _ _ us hl => match us, hl with | [_, _], _ => rfl⟩
  have d_look_at_shapes : ∃ f fd, Gd K mg "look_at_shapes" s_look_at_shapes ["shapes"] f fd := by
    obtain ⟨fd, F⟩ := fun_of ce 5 (st := s_look_at_shapes) rfl (He.keep_ok (x := "look_at_shapes") (ce.fact 11 rfl))
    exact ⟨_, fd, F, g "look_at_shapes" (ce.fact 10 rfl), F.binds (ps := ["shapes"]) fun _ _ _ _ _ _ us hl => match us, hl with | [_], _ => rfl⟩
  have d_look_at_sizes : ∃ f fd, Gd K mg "look_at_sizes" s_look_at_sizes ["sizes"] f fd := by
    obtain ⟨fd, F⟩ := fun_of ce 6 (st := s_look_at_sizes) rfl (He.keep_ok (x := "look_at_sizes") (ce.fact 13 rfl))
    exact ⟨_, fd, F, g "look_at_sizes" (ce.fact 12 rfl), F.binds (ps := ["sizes"]) fun _ _ _ _ _ _ us hl => match us, hl with | [_], _ => rfl⟩
  have d_look_at_kind : ∃ f fd, Gd K mg "look_at_kind" s_look_at_kind ["shapes", "kind"] f fd := by
    obtain ⟨fd, F⟩ := fun_of ce 7 (st := s_look_at_kind) rfl (He.keep_ok (x := "look_at_kind") (ce.fact 15 rfl))
    exact ⟨_, fd, F, g "look_at_kind" (ce.fact 14 rfl), F.binds (ps := ["shapes", "kind"]) fun _ _ _ _ _ _ us hl => match us, hl with | [_, _], _ => rfl⟩
  have d_look_at_size : ∃ f fd, Gd K mg "look_at_size" s_look_at_size ["shapes", "kind", "slots"] f fd := by
    obtain ⟨fd, F⟩ := fun_of ce 8 (st := s_look_at_size) rfl (He.keep_ok (x := "look_at_size") (ce.fact 17 rfl))
    exact ⟨_, fd, F, g "look_at_size" (ce.fact 16 rfl), F.binds (ps := ["shapes", "kind", "slots"]) fun _ _ _ _ _ _ us hl => match us, hl with | [_, _, _], _ => rfl⟩
  have d_is_size : ∃ f fd, Gd K mg "is_size" s_is_size ["shapes", "kind", "slots"] f fd := by
    obtain ⟨fd, F⟩ := fun_of ce 9 (st := s_is_size) rfl (He.keep_ok (x := "is_size") (ce.fact 19 rfl))
    exact ⟨_, fd, F, g "is_size" (ce.fact 18 rfl), F.binds (ps := ["shapes", "kind", "slots"]) fun _ _ _ _ _ _ us hl => match us, hl with | [_, _, _], _ => rfl⟩
  have d_look_at_roots : ∃ f fd, Gd K mg "look_at_roots" s_look_at_roots ["roots", "holder"] f fd := by
    obtain ⟨fd, F⟩ := fun_of ce 10 (st := s_look_at_roots) rfl (He.keep_ok (x := "look_at_roots") (ce.fact 21 rfl))
    exact ⟨_, fd, F, g "look_at_roots" (ce.fact 20 rfl), F.binds (ps := ["roots", "holder"]) fun _ _ _ _ _ _ us hl => match us, hl with | [_, _], _ => rfl⟩
  have d_are_roots : ∃ f fd, Gd K mg "are_roots" s_are_roots ["roots", "holder"] f fd := by
    obtain ⟨fd, F⟩ := fun_of ce 11 (st := s_are_roots) rfl (He.keep_ok (x := "are_roots") (ce.fact 23 rfl))
    exact ⟨_, fd, F, g "are_roots" (ce.fact 22 rfl), F.binds (ps := ["roots", "holder"]) fun _ _ _ _ _ _ us hl => match us, hl with | [_, _], _ => rfl⟩
  have d_shape_links : ∃ f fd, Gd K mg "shape_links" s_shape_links ["shape"] f fd := by
    obtain ⟨fd, F⟩ := fun_of ce 12 (st := s_shape_links) rfl (He.keep_ok (x := "shape_links") (ce.fact 25 rfl))
    exact ⟨_, fd, F, g "shape_links" (ce.fact 24 rfl), F.binds (ps := ["shape"]) fun _ _ _ _ _ _ us hl => match us, hl with | [_], _ => rfl⟩
  have d_head_word : ∃ f fd, Gd K mg "head_word" s_head_word ["kind", "age", "colour"] f fd := by
    obtain ⟨fd, F⟩ := fun_of ce 13 (st := s_head_word) rfl (He.keep_ok (x := "head_word") (ce.fact 27 rfl))
    exact ⟨_, fd, F, g "head_word" (ce.fact 26 rfl), F.binds (ps := ["kind", "age", "colour"]) fun _ _ _ _ _ _ us hl => match us, hl with | [_, _, _], _ => rfl⟩
  have d_kind_told : ∃ f fd, Gd K mg "kind_told" s_kind_told ["head"] f fd := by
    obtain ⟨fd, F⟩ := fun_of ce 14 (st := s_kind_told) rfl (He.keep_ok (x := "kind_told") (ce.fact 29 rfl))
    exact ⟨_, fd, F, g "kind_told" (ce.fact 28 rfl), F.binds (ps := ["head"]) fun _ _ _ _ _ _ us hl => match us, hl with | [_], _ => rfl⟩
  have d_age_told : ∃ f fd, Gd K mg "age_told" s_age_told ["head"] f fd := by
    obtain ⟨fd, F⟩ := fun_of ce 15 (st := s_age_told) rfl (He.keep_ok (x := "age_told") (ce.fact 31 rfl))
    exact ⟨_, fd, F, g "age_told" (ce.fact 30 rfl), F.binds (ps := ["head"]) fun _ _ _ _ _ _ us hl => match us, hl with | [_], _ => rfl⟩
  have d_colour_told : ∃ f fd, Gd K mg "colour_told" s_colour_told ["head"] f fd := by
    obtain ⟨fd, F⟩ := fun_of ce 16 (st := s_colour_told) rfl (He.keep_ok (x := "colour_told") (ce.fact 33 rfl))
    exact ⟨_, fd, F, g "colour_told" (ce.fact 32 rfl), F.binds (ps := ["head"]) fun _ _ _ _ _ _ us hl => match us, hl with | [_], _ => rfl⟩
  have d_move_young : ∃ f fd, Gd K mg "move_young" s_move_young ["memory", "roots", "is_settling"] f fd := by
    obtain ⟨fd, F⟩ := fun_of ce 17 (st := s_move_young) rfl (He.keep_ok (x := "move_young") (ce.fact 35 rfl))
    exact ⟨_, fd, F, g "move_young" (ce.fact 34 rfl), F.binds (ps := ["memory", "roots", "is_settling"]) fun _ _ _ _ _ _ us hl => match us, hl with | [_, _, _], _ => rfl⟩
  have d_begin_marking : ∃ f fd, Gd K mg "begin_marking" s_begin_marking ["memory", "roots"] f fd := by
    obtain ⟨fd, F⟩ := fun_of ce 18 (st := s_begin_marking) rfl (He.keep_ok (x := "begin_marking") (ce.fact 37 rfl))
    exact ⟨_, fd, F, g "begin_marking" (ce.fact 36 rfl), F.binds (ps := ["memory", "roots"]) fun _ _ _ _ _ _ us hl => match us, hl with | [_, _], _ => rfl⟩
  have d_is_grey_left : ∃ f fd, Gd K mg "is_grey_left" s_is_grey_left ["memory"] f fd := by
    obtain ⟨fd, F⟩ := fun_of ce 19 (st := s_is_grey_left) rfl (He.keep_ok (x := "is_grey_left") (ce.fact 39 rfl))
    exact ⟨_, fd, F, g "is_grey_left" (ce.fact 38 rfl), F.binds (ps := ["memory"]) fun _ _ _ _ _ _ us hl => match us, hl with | [_], _ => rfl⟩
  have d_blacken_first : ∃ f fd, Gd K mg "blacken_first" s_blacken_first ["memory"] f fd := by
    obtain ⟨fd, F⟩ := fun_of ce 20 (st := s_blacken_first) rfl (He.keep_ok (x := "blacken_first") (ce.fact 41 rfl))
    exact ⟨_, fd, F, g "blacken_first" (ce.fact 40 rfl), F.binds (ps := ["memory"]) fun _ _ _ _ _ _ us hl => match us, hl with | [_], _ => rfl⟩
  have d_blacken_all : ∃ f fd, Gd K mg "blacken_all" s_blacken_all ["memory"] f fd := by
    obtain ⟨fd, F⟩ := fun_of ce 21 (st := s_blacken_all) rfl (He.keep_ok (x := "blacken_all") (ce.fact 43 rfl))
    exact ⟨_, fd, F, g "blacken_all" (ce.fact 42 rfl), F.binds (ps := ["memory"]) fun _ _ _ _ _ _ us hl => match us, hl with | [_], _ => rfl⟩
  have d_end_marking : ∃ f fd, Gd K mg "end_marking" s_end_marking ["memory", "roots"] f fd := by
    obtain ⟨fd, F⟩ := fun_of ce 22 (st := s_end_marking) rfl (He.keep_ok (x := "end_marking") (ce.fact 45 rfl))
    exact ⟨_, fd, F, g "end_marking" (ce.fact 44 rfl), F.binds (ps := ["memory", "roots"]) fun _ _ _ _ _ _ us hl => match us, hl with | [_, _], _ => rfl⟩
  have d_slide : ∃ f fd, Gd K mg "slide" s_slide ["memory", "roots"] f fd := by
    obtain ⟨fd, F⟩ := fun_of ce 23 (st := s_slide) rfl (He.keep_ok (x := "slide") (ce.fact 47 rfl))
    exact ⟨_, fd, F, g "slide" (ce.fact 46 rfl), F.binds (ps := ["memory", "roots"]) fun _ _ _ _ _ _ us hl => match us, hl with | [_, _], _ => rfl⟩
  have d_new_places : ∃ f fd, Gd K mg "new_places" s_new_places ["memory"] f fd := by
    obtain ⟨fd, F⟩ := fun_of ce 24 (st := s_new_places) rfl (He.keep_ok (x := "new_places") (ce.fact 49 rfl))
    exact ⟨_, fd, F, g "new_places" (ce.fact 48 rfl), F.binds (ps := ["memory"]) fun _ _ _ _ _ _ us hl => match us, hl with | [_], _ => rfl⟩
  have d__law_feed : ∃ f fd, Gd K mg "_law_feed" s_law_feed ["_law_script", "_law_k"] f fd := by
    obtain ⟨fd, F⟩ := fun_of ce 25 (st := s_law_feed) rfl (He.keep_ok (x := "_law_feed") (ce.fact 51 rfl))
    exact ⟨_, fd, F, g "_law_feed" (ce.fact 50 rfl), F.binds (ps := ["_law_script", "_law_k"]) fun _ _ _ _ _ _ us hl => match us, hl with | [_, _], _ => rfl⟩
  have d__law_draw : ∃ f fd, Gd K mg "_law_draw" s_law_draw ["_law_feed_here", "_law_many"] f fd := by
    obtain ⟨fd, F⟩ := fun_of ce 26 (st := s_law_draw) rfl (He.keep_ok (x := "_law_draw") (ce.fact 53 rfl))
    exact ⟨_, fd, F, g "_law_draw" (ce.fact 52 rfl), F.binds (ps := ["_law_feed_here", "_law_many"]) fun _ _ _ _ _ _ us hl => match us, hl with | [_, _], _ => rfl⟩
  have d__law_one : ∃ f fd, Gd K mg "_law_one" s_law_one ["_law_feed_here", "_law_things"] f fd := by
    obtain ⟨fd, F⟩ := fun_of ce 27 (st := s_law_one) rfl (He.keep_ok (x := "_law_one") (ce.fact 55 rfl))
    exact ⟨_, fd, F, g "_law_one" (ce.fact 54 rfl), F.binds (ps := ["_law_feed_here", "_law_things"]) fun _ _ _ _ _ _ us hl => match us, hl with | [_, _], _ => rfl⟩
  have d__law_same : ∃ f fd, Gd K mg "_law_same" s_law_same ["_law_told_here", "_law_due"] f fd := by
    obtain ⟨fd, F⟩ := fun_of ce 28 (st := s_law_same) rfl (He.keep_ok (x := "_law_same") (ce.fact 57 rfl))
    exact ⟨_, fd, F, g "_law_same" (ce.fact 56 rfl), F.binds (ps := ["_law_told_here", "_law_due"]) fun _ _ _ _ _ _ us hl => match us, hl with | [_, _], _ => rfl⟩
  have d__law_wide : ∃ f fd, Gd K mg "_law_wide" s_law_wide ["_law_feed_here"] f fd := by
    obtain ⟨fd, F⟩ := fun_of ce 29 (st := s_law_wide) rfl (He.keep_ok (x := "_law_wide") (ce.fact 59 rfl))
    exact ⟨_, fd, F, g "_law_wide" (ce.fact 58 rfl), F.binds (ps := ["_law_feed_here"]) fun _ _ _ _ _ _ us hl => match us, hl with | [_], _ => rfl⟩
  have d__law_shapes : ∃ f fd, Gd K mg "_law_shapes" s_law_shapes ["_law_feed_here"] f fd := by
    obtain ⟨fd, F⟩ := fun_of ce 30 (st := s_law_shapes) rfl (He.keep_ok (x := "_law_shapes") (ce.fact 61 rfl))
    exact ⟨_, fd, F, g "_law_shapes" (ce.fact 60 rfl), F.binds (ps := ["_law_feed_here"]) fun _ _ _ _ _ _ us hl => match us, hl with | [_], _ => rfl⟩
  have d__law_sizes : ∃ f fd, Gd K mg "_law_sizes" s_law_sizes ["_law_feed_here"] f fd := by
    obtain ⟨fd, F⟩ := fun_of ce 31 (st := s_law_sizes) rfl (He.keep_ok (x := "_law_sizes") (ce.fact 63 rfl))
    exact ⟨_, fd, F, g "_law_sizes" (ce.fact 62 rfl), F.binds (ps := ["_law_feed_here"]) fun _ _ _ _ _ _ us hl => match us, hl with | [_], _ => rfl⟩
  have d__law_number : ∃ f fd, Gd K mg "_law_number" s_law_number ["_law_feed_here", "_law_sizes_here"] f fd := by
    obtain ⟨fd, F⟩ := fun_of ce 32 (st := s_law_number) rfl (He.keep_ok (x := "_law_number") (ce.fact 65 rfl))
    exact ⟨_, fd, F, g "_law_number" (ce.fact 64 rfl), F.binds (ps := ["_law_feed_here", "_law_sizes_here"]) fun _ _ _ _ _ _ us hl => match us, hl with | [_, _], _ => rfl⟩
  have d__law_head : ∃ f fd, Gd K mg "_law_head" s_law_head ["_law_kind", "_law_colour", "_law_many"] f fd := by
    obtain ⟨fd, F⟩ := fun_of ce 33 (st := s_law_head) rfl (He.keep_ok (x := "_law_head") (ce.fact 67 rfl))
    exact ⟨_, fd, F, g "_law_head" (ce.fact 66 rfl), F.binds (ps := ["_law_kind", "_law_colour", "_law_many"]) fun _ _ _ _ _ _ us hl => match us, hl with | [_, _, _], _ => rfl⟩
  have d__law_told : ∃ f fd, Gd K mg "_law_told" s_law_told ["_law_heap", "_law_address", "_law_due"] f fd := by
    obtain ⟨fd, F⟩ := fun_of ce 34 (st := s_law_told) rfl (He.keep_ok (x := "_law_told") (ce.fact 69 rfl))
    exact ⟨_, fd, F, g "_law_told" (ce.fact 68 rfl), F.binds (ps := ["_law_heap", "_law_address", "_law_due"]) fun _ _ _ _ _ _ us hl => match us, hl with | [_, _, _], _ => rfl⟩
  have d__law_makes : ∃ f fd, Gd K mg "_law_makes" s_law_makes ["_law_script", "_law_heap", "_law_shapes_here", "_law_sizes_here", "_law_marking"] f fd := by
    obtain ⟨fd, F⟩ := fun_of ce 35 (st := s_law_makes) rfl (He.keep_ok (x := "_law_makes") (ce.fact 71 rfl))
    exact ⟨_, fd, F, g "_law_makes" (ce.fact 70 rfl), F.binds (ps := ["_law_script", "_law_heap", "_law_shapes_here", "_law_sizes_here", "_law_marking"]) fun _ _ _ _ _ _ us hl => match us, hl with | [_, _, _, _, _], _ => rfl⟩
  have d_law : ∃ f fd, Gd K mg "law" s_law ["_law_script"] f fd := by
    obtain ⟨fd, F⟩ := fun_of ce 36 (st := s_law) rfl (He.keep_ok (x := "law") (ce.fact 73 rfl))
    exact ⟨_, fd, F, g "law" (ce.fact 72 rfl), F.binds (ps := ["_law_script"]) fun _ _ _ _ _ _ us hl => match us, hl with | [_], _ => rfl⟩
  have c_Moving : Cls K (ga K "Moving") := He.cls_ok (ce.fact 104 rfl)
  have k_Moving : Mk K (ga K "Moving") (ma K (ga K "Moving") "__init__") := He.mkr_ok (ce.fact 105 rfl)
  have n_Moving_memory : NoAttr K (ga K "Moving") "memory" := He.noat_ok (ce.fact 110 rfl)
  have n_Moving_is_settling : NoAttr K (ga K "Moving") "is_settling" := He.noat_ok (ce.fact 111 rfl)
  have n_Moving_half : NoAttr K (ga K "Moving") "half" := He.noat_ok (ce.fact 112 rfl)
  have n_Moving_moved : NoAttr K (ga K "Moving") "moved" := He.noat_ok (ce.fact 113 rfl)
  have n_Moving_to_half : NoAttr K (ga K "Moving") "to_half" := He.noat_ok (ce.fact 114 rfl)
  have n_Moving_to_old : NoAttr K (ga K "Moving") "to_old" := He.noat_ok (ce.fact 115 rfl)
  have c_Memory : Cls K (ga K "Memory") := He.cls_ok (ce.fact 106 rfl)
  have k_Memory : Mk K (ga K "Memory") (ma K (ga K "Memory") "__init__") := He.mkr_ok (ce.fact 107 rfl)
  have n_Memory_shapes : NoAttr K (ga K "Memory") "shapes" := He.noat_ok (ce.fact 116 rfl)
  have n_Memory_sizes : NoAttr K (ga K "Memory") "sizes" := He.noat_ok (ce.fact 117 rfl)
  have n_Memory_great : NoAttr K (ga K "Memory") "great" := He.noat_ok (ce.fact 118 rfl)
  have n_Memory_age : NoAttr K (ga K "Memory") "age" := He.noat_ok (ce.fact 119 rfl)
  have n_Memory_firsts : NoAttr K (ga K "Memory") "firsts" := He.noat_ok (ce.fact 120 rfl)
  have n_Memory_first_old : NoAttr K (ga K "Memory") "first_old" := He.noat_ok (ce.fact 121 rfl)
  have n_Memory_shapes_links : NoAttr K (ga K "Memory") "shapes_links" := He.noat_ok (ce.fact 122 rfl)
  have n_Memory_words : NoAttr K (ga K "Memory") "words" := He.noat_ok (ce.fact 123 rfl)
  have n_Memory_nexts : NoAttr K (ga K "Memory") "nexts" := He.noat_ok (ce.fact 124 rfl)
  have n_Memory_half : NoAttr K (ga K "Memory") "half" := He.noat_ok (ce.fact 125 rfl)
  have n_Memory_young : NoAttr K (ga K "Memory") "young" := He.noat_ok (ce.fact 126 rfl)
  have n_Memory_old : NoAttr K (ga K "Memory") "old" := He.noat_ok (ce.fact 127 rfl)
  have n_Memory_remembered : NoAttr K (ga K "Memory") "remembered" := He.noat_ok (ce.fact 128 rfl)
  have n_Memory_grey : NoAttr K (ga K "Memory") "grey" := He.noat_ok (ce.fact 129 rfl)
  have n_Memory_done : NoAttr K (ga K "Memory") "done" := He.noat_ok (ce.fact 130 rfl)
  have n_Memory_marks : NoAttr K (ga K "Memory") "marks" := He.noat_ok (ce.fact 131 rfl)
  have n_Memory_ended : NoAttr K (ga K "Memory") "ended" := He.noat_ok (ce.fact 132 rfl)
  have c_Heap : Cls K (ga K "Heap") := He.cls_ok (ce.fact 108 rfl)
  have k_Heap : Mk K (ga K "Heap") (ma K (ga K "Heap") "__init__") := He.mkr_ok (ce.fact 109 rfl)
  have n_Heap_memory : NoAttr K (ga K "Heap") "memory" := He.noat_ok (ce.fact 133 rfl)
  have h_m_Moving_init : Meth K (ga K "Moving") "__init__" (ma K (ga K "Moving") "__init__") := He.meth_ok (ce.fact 134 rfl)
  have m_Moving_init : ∃ f fd, Mk K (ga K "Moving") f ∧ L2.Fun K "__init__" "Moving.__init__" s_Moving_init f fd ∧ Binds K fd ["self", "memory", "is_settling"] [] := by
    obtain ⟨fd, F⟩ := fun_of ce 37 (st := s_Moving_init) rfl h_m_Moving_init.kp
    exact ⟨_, fd, k_Moving, F, F.binds (ps := ["self", "memory", "is_settling"]) fun _ _ _ _ _ _ us hl => match us, hl with | [_, _, _], _ => rfl⟩
  have h_m_Moving_led : Meth K (ga K "Moving") "led" (ma K (ga K "Moving") "led") := He.meth_ok (ce.fact 135 rfl)
  have m_Moving_led : ∃ f fd, Md K (ga K "Moving") "led" "Moving.led" s_Moving_led ["self", "reference"] f fd := by
    obtain ⟨fd, F⟩ := fun_of ce 38 (st := s_Moving_led) rfl h_m_Moving_led.kp
    exact ⟨_, fd, F, h_m_Moving_led, F.binds (ps := ["self", "reference"]) fun _ _ _ _ _ _ us hl => match us, hl with | [_, _], _ => rfl⟩
  have h_m_Moving_move : Meth K (ga K "Moving") "move" (ma K (ga K "Moving") "move") := He.meth_ok (ce.fact 136 rfl)
  have m_Moving_move : ∃ f fd, Md K (ga K "Moving") "move" "Moving.move" s_Moving_move ["self", "address"] f fd := by
    obtain ⟨fd, F⟩ := fun_of ce 39 (st := s_Moving_move) rfl h_m_Moving_move.kp
    exact ⟨_, fd, F, h_m_Moving_move, F.binds (ps := ["self", "address"]) fun _ _ _ _ _ _ us hl => match us, hl with | [_, _], _ => rfl⟩
  have h_m_Moving_lead_moved : Meth K (ga K "Moving") "lead_moved" (ma K (ga K "Moving") "lead_moved") := He.meth_ok (ce.fact 137 rfl)
  have m_Moving_lead_moved : ∃ f fd, Md K (ga K "Moving") "lead_moved" "Moving.lead_moved" s_Moving_lead_moved ["self"] f fd := by
    obtain ⟨fd, F⟩ := fun_of ce 40 (st := s_Moving_lead_moved) rfl h_m_Moving_lead_moved.kp
    exact ⟨_, fd, F, h_m_Moving_lead_moved, F.binds (ps := ["self"]) fun _ _ _ _ _ _ us hl => match us, hl with | [_], _ => rfl⟩
  have h_m_Moving_lead_slots : Meth K (ga K "Moving") "lead_slots" (ma K (ga K "Moving") "lead_slots") := He.meth_ok (ce.fact 138 rfl)
  have m_Moving_lead_slots : ∃ f fd, Md K (ga K "Moving") "lead_slots" "Moving.lead_slots" s_Moving_lead_slots ["self", "address"] f fd := by
    obtain ⟨fd, F⟩ := fun_of ce 41 (st := s_Moving_lead_slots) rfl h_m_Moving_lead_slots.kp
    exact ⟨_, fd, F, h_m_Moving_lead_slots, F.binds (ps := ["self", "address"]) fun _ _ _ _ _ _ us hl => match us, hl with | [_, _], _ => rfl⟩
  have h_m_Moving_finish : Meth K (ga K "Moving") "finish" (ma K (ga K "Moving") "finish") := He.meth_ok (ce.fact 139 rfl)
  have m_Moving_finish : ∃ f fd, Md K (ga K "Moving") "finish" "Moving.finish" s_Moving_finish ["self"] f fd := by
    obtain ⟨fd, F⟩ := fun_of ce 42 (st := s_Moving_finish) rfl h_m_Moving_finish.kp
    exact ⟨_, fd, F, h_m_Moving_finish, F.binds (ps := ["self"]) fun _ _ _ _ _ _ us hl => match us, hl with | [_], _ => rfl⟩
  have h_m_Memory_init : Meth K (ga K "Memory") "__init__" (ma K (ga K "Memory") "__init__") := He.meth_ok (ce.fact 140 rfl)
  have m_Memory_init : ∃ f fd, Mk K (ga K "Memory") f ∧ L2.Fun K "__init__" "Memory.__init__" s_Memory_init f fd ∧ Binds K fd ["self", "shapes", "sizes"] [] := by
    obtain ⟨fd, F⟩ := fun_of ce 43 (st := s_Memory_init) rfl h_m_Memory_init.kp
    exact ⟨_, fd, k_Memory, F, F.binds (ps := ["self", "shapes", "sizes"]) fun _ _ _ _ _ _ us hl => match us, hl with | [_, _, _], _ => rfl⟩
  have h_m_Memory_is_object : Meth K (ga K "Memory") "is_object" (ma K (ga K "Memory") "is_object") := He.meth_ok (ce.fact 141 rfl)
  have m_Memory_is_object : ∃ f fd, Md K (ga K "Memory") "is_object" "Memory.is_object" s_Memory_is_object ["self", "address"] f fd := by
    obtain ⟨fd, F⟩ := fun_of ce 44 (st := s_Memory_is_object) rfl h_m_Memory_is_object.kp
    exact ⟨_, fd, F, h_m_Memory_is_object, F.binds (ps := ["self", "address"]) fun _ _ _ _ _ _ us hl => match us, hl with | [_, _], _ => rfl⟩
  have h_m_Memory_is_young : Meth K (ga K "Memory") "is_young" (ma K (ga K "Memory") "is_young") := He.meth_ok (ce.fact 142 rfl)
  have m_Memory_is_young : ∃ f fd, Md K (ga K "Memory") "is_young" "Memory.is_young" s_Memory_is_young ["self", "reference"] f fd := by
    obtain ⟨fd, F⟩ := fun_of ce 45 (st := s_Memory_is_young) rfl h_m_Memory_is_young.kp
    exact ⟨_, fd, F, h_m_Memory_is_young, F.binds (ps := ["self", "reference"]) fun _ _ _ _ _ _ us hl => match us, hl with | [_, _], _ => rfl⟩
  have h_m_Memory_kind : Meth K (ga K "Memory") "kind" (ma K (ga K "Memory") "kind") := He.meth_ok (ce.fact 143 rfl)
  have m_Memory_kind : ∃ f fd, Md K (ga K "Memory") "kind" "Memory.kind" s_Memory_kind ["self", "address"] f fd := by
    obtain ⟨fd, F⟩ := fun_of ce 46 (st := s_Memory_kind) rfl h_m_Memory_kind.kp
    exact ⟨_, fd, F, h_m_Memory_kind, F.binds (ps := ["self", "address"]) fun _ _ _ _ _ _ us hl => match us, hl with | [_, _], _ => rfl⟩
  have h_m_Memory_slots : Meth K (ga K "Memory") "slots" (ma K (ga K "Memory") "slots") := He.meth_ok (ce.fact 144 rfl)
  have m_Memory_slots : ∃ f fd, Md K (ga K "Memory") "slots" "Memory.slots" s_Memory_slots ["self", "address"] f fd := by
    obtain ⟨fd, F⟩ := fun_of ce 47 (st := s_Memory_slots) rfl h_m_Memory_slots.kp
    exact ⟨_, fd, F, h_m_Memory_slots, F.binds (ps := ["self", "address"]) fun _ _ _ _ _ _ us hl => match us, hl with | [_, _], _ => rfl⟩
  have h_m_Memory_age_of : Meth K (ga K "Memory") "age_of" (ma K (ga K "Memory") "age_of") := He.meth_ok (ce.fact 145 rfl)
  have m_Memory_age_of : ∃ f fd, Md K (ga K "Memory") "age_of" "Memory.age_of" s_Memory_age_of ["self", "address"] f fd := by
    obtain ⟨fd, F⟩ := fun_of ce 48 (st := s_Memory_age_of) rfl h_m_Memory_age_of.kp
    exact ⟨_, fd, F, h_m_Memory_age_of, F.binds (ps := ["self", "address"]) fun _ _ _ _ _ _ us hl => match us, hl with | [_, _], _ => rfl⟩
  have h_m_Memory_size : Meth K (ga K "Memory") "size" (ma K (ga K "Memory") "size") := He.meth_ok (ce.fact 146 rfl)
  have m_Memory_size : ∃ f fd, Md K (ga K "Memory") "size" "Memory.size" s_Memory_size ["self", "address"] f fd := by
    obtain ⟨fd, F⟩ := fun_of ce 49 (st := s_Memory_size) rfl h_m_Memory_size.kp
    exact ⟨_, fd, F, h_m_Memory_size, F.binds (ps := ["self", "address"]) fun _ _ _ _ _ _ us hl => match us, hl with | [_, _], _ => rfl⟩
  have h_m_Memory_link_places : Meth K (ga K "Memory") "link_places" (ma K (ga K "Memory") "link_places") := He.meth_ok (ce.fact 147 rfl)
  have m_Memory_link_places : ∃ f fd, Md K (ga K "Memory") "link_places" "Memory.link_places" s_Memory_link_places ["self", "address"] f fd := by
    obtain ⟨fd, F⟩ := fun_of ce 50 (st := s_Memory_link_places) rfl h_m_Memory_link_places.kp
    exact ⟨_, fd, F, h_m_Memory_link_places, F.binds (ps := ["self", "address"]) fun _ _ _ _ _ _ us hl => match us, hl with | [_, _], _ => rfl⟩
  have h_m_Memory_is_great : Meth K (ga K "Memory") "is_great" (ma K (ga K "Memory") "is_great") := He.meth_ok (ce.fact 148 rfl)
  have m_Memory_is_great : ∃ f fd, Md K (ga K "Memory") "is_great" "Memory.is_great" s_Memory_is_great ["self", "slots"] f fd := by
    obtain ⟨fd, F⟩ := fun_of ce 51 (st := s_Memory_is_great) rfl h_m_Memory_is_great.kp
    exact ⟨_, fd, F, h_m_Memory_is_great, F.binds (ps := ["self", "slots"]) fun _ _ _ _ _ _ us hl => match us, hl with | [_, _], _ => rfl⟩
  have h_m_Memory_fits : Meth K (ga K "Memory") "fits" (ma K (ga K "Memory") "fits") := He.meth_ok (ce.fact 149 rfl)
  have m_Memory_fits : ∃ f fd, Md K (ga K "Memory") "fits" "Memory.fits" s_Memory_fits ["self", "room", "many"] f fd := by
    obtain ⟨fd, F⟩ := fun_of ce 52 (st := s_Memory_fits) rfl h_m_Memory_fits.kp
    exact ⟨_, fd, F, h_m_Memory_fits, F.binds (ps := ["self", "room", "many"]) fun _ _ _ _ _ _ us hl => match us, hl with | [_, _, _], _ => rfl⟩
  have h_m_Memory_lay_young : Meth K (ga K "Memory") "lay_young" (ma K (ga K "Memory") "lay_young") := He.meth_ok (ce.fact 150 rfl)
  have m_Memory_lay_young : ∃ f fd, Md K (ga K "Memory") "lay_young" "Memory.lay_young" s_Memory_lay_young ["self", "room", "words"] f fd := by
    obtain ⟨fd, F⟩ := fun_of ce 53 (st := s_Memory_lay_young) rfl h_m_Memory_lay_young.kp
    exact ⟨_, fd, F, h_m_Memory_lay_young, F.binds (ps := ["self", "room", "words"]) fun _ _ _ _ _ _ us hl => match us, hl with | [_, _, _], _ => rfl⟩
  have h_m_Memory_lay_old : Meth K (ga K "Memory") "lay_old" (ma K (ga K "Memory") "lay_old") := He.meth_ok (ce.fact 151 rfl)
  have m_Memory_lay_old : ∃ f fd, Md K (ga K "Memory") "lay_old" "Memory.lay_old" s_Memory_lay_old ["self", "words"] f fd := by
    obtain ⟨fd, F⟩ := fun_of ce 54 (st := s_Memory_lay_old) rfl h_m_Memory_lay_old.kp
    exact ⟨_, fd, F, h_m_Memory_lay_old, F.binds (ps := ["self", "words"]) fun _ _ _ _ _ _ us hl => match us, hl with | [_, _], _ => rfl⟩
  have h_m_Memory_make : Meth K (ga K "Memory") "make" (ma K (ga K "Memory") "make") := He.meth_ok (ce.fact 152 rfl)
  have m_Memory_make : ∃ f fd, Md K (ga K "Memory") "make" "Memory.make" s_Memory_make ["self", "kind", "slots"] f fd := by
    obtain ⟨fd, F⟩ := fun_of ce 55 (st := s_Memory_make) rfl h_m_Memory_make.kp
    exact ⟨_, fd, F, h_m_Memory_make, F.binds (ps := ["self", "kind", "slots"]) fun _ _ _ _ _ _ us hl => match us, hl with | [_, _, _], _ => rfl⟩
  have h_m_Memory_set_link : Meth K (ga K "Memory") "set_link" (ma K (ga K "Memory") "set_link") := He.meth_ok (ce.fact 153 rfl)
  have m_Memory_set_link : ∃ f fd, Md K (ga K "Memory") "set_link" "Memory.set_link" s_Memory_set_link ["self", "address", "place", "reference"] f fd := by
    obtain ⟨fd, F⟩ := fun_of ce 56 (st := s_Memory_set_link) rfl h_m_Memory_set_link.kp
    exact ⟨_, fd, F, h_m_Memory_set_link, F.binds (ps := ["self", "address", "place", "reference"]) fun _ _ _ _ _ _ us hl => match us, hl with | [_, _, _, _], _ => rfl⟩
  have h_m_Memory_is_white : Meth K (ga K "Memory") "is_white" (ma K (ga K "Memory") "is_white") := He.meth_ok (ce.fact 154 rfl)
  have m_Memory_is_white : ∃ f fd, Md K (ga K "Memory") "is_white" "Memory.is_white" s_Memory_is_white ["self", "reference"] f fd := by
    obtain ⟨fd, F⟩ := fun_of ce 57 (st := s_Memory_is_white) rfl h_m_Memory_is_white.kp
    exact ⟨_, fd, F, h_m_Memory_is_white, F.binds (ps := ["self", "reference"]) fun _ _ _ _ _ _ us hl => match us, hl with | [_, _], _ => rfl⟩
  have h_m_Memory_shade : Meth K (ga K "Memory") "shade" (ma K (ga K "Memory") "shade") := He.meth_ok (ce.fact 155 rfl)
  have m_Memory_shade : ∃ f fd, Md K (ga K "Memory") "shade" "Memory.shade" s_Memory_shade ["self", "reference"] f fd := by
    obtain ⟨fd, F⟩ := fun_of ce 58 (st := s_Memory_shade) rfl h_m_Memory_shade.kp
    exact ⟨_, fd, F, h_m_Memory_shade, F.binds (ps := ["self", "reference"]) fun _ _ _ _ _ _ us hl => match us, hl with | [_, _], _ => rfl⟩
  have h_m_Memory_grey_row : Meth K (ga K "Memory") "grey_row" (ma K (ga K "Memory") "grey_row") := He.meth_ok (ce.fact 156 rfl)
  have m_Memory_grey_row : ∃ f fd, Md K (ga K "Memory") "grey_row" "Memory.grey_row" s_Memory_grey_row ["self"] f fd := by
    obtain ⟨fd, F⟩ := fun_of ce 59 (st := s_Memory_grey_row) rfl h_m_Memory_grey_row.kp
    exact ⟨_, fd, F, h_m_Memory_grey_row, F.binds (ps := ["self"]) fun _ _ _ _ _ _ us hl => match us, hl with | [_], _ => rfl⟩
  have h_m_Memory_room : Meth K (ga K "Memory") "room" (ma K (ga K "Memory") "room") := He.meth_ok (ce.fact 157 rfl)
  have m_Memory_room : ∃ f fd, Md K (ga K "Memory") "room" "Memory.room" s_Memory_room ["self", "room"] f fd := by
    obtain ⟨fd, F⟩ := fun_of ce 60 (st := s_Memory_room) rfl h_m_Memory_room.kp
    exact ⟨_, fd, F, h_m_Memory_room, F.binds (ps := ["self", "room"]) fun _ _ _ _ _ _ us hl => match us, hl with | [_, _], _ => rfl⟩
  have h_m_Memory_old_room : Meth K (ga K "Memory") "old_room" (ma K (ga K "Memory") "old_room") := He.meth_ok (ce.fact 158 rfl)
  have m_Memory_old_room : ∃ f fd, Md K (ga K "Memory") "old_room" "Memory.old_room" s_Memory_old_room ["self"] f fd := by
    obtain ⟨fd, F⟩ := fun_of ce 61 (st := s_Memory_old_room) rfl h_m_Memory_old_room.kp
    exact ⟨_, fd, F, h_m_Memory_old_room, F.binds (ps := ["self"]) fun _ _ _ _ _ _ us hl => match us, hl with | [_], _ => rfl⟩
  have h_m_Heap_init : Meth K (ga K "Heap") "__init__" (ma K (ga K "Heap") "__init__") := He.meth_ok (ce.fact 159 rfl)
  have m_Heap_init : ∃ f fd, Mk K (ga K "Heap") f ∧ L2.Fun K "__init__" "Heap.__init__" s_Heap_init f fd ∧ Binds K fd ["self", "shapes", "sizes"] [] := by
    obtain ⟨fd, F⟩ := fun_of ce 62 (st := s_Heap_init) rfl h_m_Heap_init.kp
    exact ⟨_, fd, k_Heap, F, F.binds (ps := ["self", "shapes", "sizes"]) fun _ _ _ _ _ _ us hl => match us, hl with | [_, _, _], _ => rfl⟩
  have h_m_Heap_make : Meth K (ga K "Heap") "make" (ma K (ga K "Heap") "make") := He.meth_ok (ce.fact 160 rfl)
  have m_Heap_make : ∃ f fd, Md K (ga K "Heap") "make" "Heap.make" s_Heap_make ["self", "kind", "slots", "roots"] f fd := by
    obtain ⟨fd, F⟩ := fun_of ce 63 (st := s_Heap_make) rfl h_m_Heap_make.kp
    exact ⟨_, fd, F, h_m_Heap_make, F.binds (ps := ["self", "kind", "slots", "roots"]) fun _ _ _ _ _ _ us hl => match us, hl with | [_, _, _, _], _ => rfl⟩
  have h_m_Heap_has_room : Meth K (ga K "Heap") "has_room" (ma K (ga K "Heap") "has_room") := He.meth_ok (ce.fact 161 rfl)
  have m_Heap_has_room : ∃ f fd, Md K (ga K "Heap") "has_room" "Heap.has_room" s_Heap_has_room ["self", "slots"] f fd := by
    obtain ⟨fd, F⟩ := fun_of ce 64 (st := s_Heap_has_room) rfl h_m_Heap_has_room.kp
    exact ⟨_, fd, F, h_m_Heap_has_room, F.binds (ps := ["self", "slots"]) fun _ _ _ _ _ _ us hl => match us, hl with | [_, _], _ => rfl⟩
  have h_m_Heap_moved_young : Meth K (ga K "Heap") "moved_young" (ma K (ga K "Heap") "moved_young") := He.meth_ok (ce.fact 162 rfl)
  have m_Heap_moved_young : ∃ f fd, Md K (ga K "Heap") "moved_young" "Heap.moved_young" s_Heap_moved_young ["self", "roots"] f fd := by
    obtain ⟨fd, F⟩ := fun_of ce 65 (st := s_Heap_moved_young) rfl h_m_Heap_moved_young.kp
    exact ⟨_, fd, F, h_m_Heap_moved_young, F.binds (ps := ["self", "roots"]) fun _ _ _ _ _ _ us hl => match us, hl with | [_, _], _ => rfl⟩
  have h_m_Heap_look_at : Meth K (ga K "Heap") "look_at" (ma K (ga K "Heap") "look_at") := He.meth_ok (ce.fact 163 rfl)
  have m_Heap_look_at : ∃ f fd, Md K (ga K "Heap") "look_at" "Heap.look_at" s_Heap_look_at ["self", "roots"] f fd := by
    obtain ⟨fd, F⟩ := fun_of ce 66 (st := s_Heap_look_at) rfl h_m_Heap_look_at.kp
    exact ⟨_, fd, F, h_m_Heap_look_at, F.binds (ps := ["self", "roots"]) fun _ _ _ _ _ _ us hl => match us, hl with | [_, _], _ => rfl⟩
  have h_m_Heap_look_at_address : Meth K (ga K "Heap") "look_at_address" (ma K (ga K "Heap") "look_at_address") := He.meth_ok (ce.fact 164 rfl)
  have m_Heap_look_at_address : ∃ f fd, Md K (ga K "Heap") "look_at_address" "Heap.look_at_address" s_Heap_look_at_address ["self", "address"] f fd := by
    obtain ⟨fd, F⟩ := fun_of ce 67 (st := s_Heap_look_at_address) rfl h_m_Heap_look_at_address.kp
    exact ⟨_, fd, F, h_m_Heap_look_at_address, F.binds (ps := ["self", "address"]) fun _ _ _ _ _ _ us hl => match us, hl with | [_, _], _ => rfl⟩
  have h_m_Heap_look_at_slot : Meth K (ga K "Heap") "look_at_slot" (ma K (ga K "Heap") "look_at_slot") := He.meth_ok (ce.fact 165 rfl)
  have m_Heap_look_at_slot : ∃ f fd, Md K (ga K "Heap") "look_at_slot" "Heap.look_at_slot" s_Heap_look_at_slot ["self", "address", "slot"] f fd := by
    obtain ⟨fd, F⟩ := fun_of ce 68 (st := s_Heap_look_at_slot) rfl h_m_Heap_look_at_slot.kp
    exact ⟨_, fd, F, h_m_Heap_look_at_slot, F.binds (ps := ["self", "address", "slot"]) fun _ _ _ _ _ _ us hl => match us, hl with | [_, _, _], _ => rfl⟩
  have h_m_Heap_kind : Meth K (ga K "Heap") "kind" (ma K (ga K "Heap") "kind") := He.meth_ok (ce.fact 166 rfl)
  have m_Heap_kind : ∃ f fd, Md K (ga K "Heap") "kind" "Heap.kind" s_Heap_kind ["self", "address"] f fd := by
    obtain ⟨fd, F⟩ := fun_of ce 69 (st := s_Heap_kind) rfl h_m_Heap_kind.kp
    exact ⟨_, fd, F, h_m_Heap_kind, F.binds (ps := ["self", "address"]) fun _ _ _ _ _ _ us hl => match us, hl with | [_, _], _ => rfl⟩
  have h_m_Heap_slots : Meth K (ga K "Heap") "slots" (ma K (ga K "Heap") "slots") := He.meth_ok (ce.fact 167 rfl)
  have m_Heap_slots : ∃ f fd, Md K (ga K "Heap") "slots" "Heap.slots" s_Heap_slots ["self", "address"] f fd := by
    obtain ⟨fd, F⟩ := fun_of ce 70 (st := s_Heap_slots) rfl h_m_Heap_slots.kp
    exact ⟨_, fd, F, h_m_Heap_slots, F.binds (ps := ["self", "address"]) fun _ _ _ _ _ _ us hl => match us, hl with | [_, _], _ => rfl⟩
  have h_m_Heap_get : Meth K (ga K "Heap") "get" (ma K (ga K "Heap") "get") := He.meth_ok (ce.fact 168 rfl)
  have m_Heap_get : ∃ f fd, Md K (ga K "Heap") "get" "Heap.get" s_Heap_get ["self", "address", "slot"] f fd := by
    obtain ⟨fd, F⟩ := fun_of ce 71 (st := s_Heap_get) rfl h_m_Heap_get.kp
    exact ⟨_, fd, F, h_m_Heap_get, F.binds (ps := ["self", "address", "slot"]) fun _ _ _ _ _ _ us hl => match us, hl with | [_, _, _], _ => rfl⟩
  have h_m_Heap_put : Meth K (ga K "Heap") "put" (ma K (ga K "Heap") "put") := He.meth_ok (ce.fact 169 rfl)
  have m_Heap_put : ∃ f fd, Md K (ga K "Heap") "put" "Heap.put" s_Heap_put ["self", "address", "slot", "value"] f fd := by
    obtain ⟨fd, F⟩ := fun_of ce 72 (st := s_Heap_put) rfl h_m_Heap_put.kp
    exact ⟨_, fd, F, h_m_Heap_put, F.binds (ps := ["self", "address", "slot", "value"]) fun _ _ _ _ _ _ us hl => match us, hl with | [_, _, _, _], _ => rfl⟩
  have h_m_Heap_where : Meth K (ga K "Heap") "where" (ma K (ga K "Heap") "where") := He.meth_ok (ce.fact 170 rfl)
  have m_Heap_where : ∃ f fd, Md K (ga K "Heap") "where" "Heap.where" s_Heap_where ["self", "address"] f fd := by
    obtain ⟨fd, F⟩ := fun_of ce 73 (st := s_Heap_where) rfl h_m_Heap_where.kp
    exact ⟨_, fd, F, h_m_Heap_where, F.binds (ps := ["self", "address"]) fun _ _ _ _ _ _ us hl => match us, hl with | [_, _], _ => rfl⟩
  have h_m_Heap_remembered : Meth K (ga K "Heap") "remembered" (ma K (ga K "Heap") "remembered") := He.meth_ok (ce.fact 171 rfl)
  have m_Heap_remembered : ∃ f fd, Md K (ga K "Heap") "remembered" "Heap.remembered" s_Heap_remembered ["self"] f fd := by
    obtain ⟨fd, F⟩ := fun_of ce 74 (st := s_Heap_remembered) rfl h_m_Heap_remembered.kp
    exact ⟨_, fd, F, h_m_Heap_remembered, F.binds (ps := ["self"]) fun _ _ _ _ _ _ us hl => match us, hl with | [_], _ => rfl⟩
  have h_m_Heap_graph : Meth K (ga K "Heap") "graph" (ma K (ga K "Heap") "graph") := He.meth_ok (ce.fact 172 rfl)
  have m_Heap_graph : ∃ f fd, Md K (ga K "Heap") "graph" "Heap.graph" s_Heap_graph ["self", "roots"] f fd := by
    obtain ⟨fd, F⟩ := fun_of ce 75 (st := s_Heap_graph) rfl h_m_Heap_graph.kp
    exact ⟨_, fd, F, h_m_Heap_graph, F.binds (ps := ["self", "roots"]) fun _ _ _ _ _ _ us hl => match us, hl with | [_, _], _ => rfl⟩
  have h_m_Heap_traced : Meth K (ga K "Heap") "traced" (ma K (ga K "Heap") "traced") := He.meth_ok (ce.fact 173 rfl)
  have m_Heap_traced : ∃ f fd, Md K (ga K "Heap") "traced" "Heap.traced" s_Heap_traced ["self", "roots"] f fd := by
    obtain ⟨fd, F⟩ := fun_of ce 76 (st := s_Heap_traced) rfl h_m_Heap_traced.kp
    exact ⟨_, fd, F, h_m_Heap_traced, F.binds (ps := ["self", "roots"]) fun _ _ _ _ _ _ us hl => match us, hl with | [_, _], _ => rfl⟩
  have h_m_Heap_unreached : Meth K (ga K "Heap") "unreached" (ma K (ga K "Heap") "unreached") := He.meth_ok (ce.fact 174 rfl)
  have m_Heap_unreached : ∃ f fd, Md K (ga K "Heap") "unreached" "Heap.unreached" s_Heap_unreached ["self", "roots"] f fd := by
    obtain ⟨fd, F⟩ := fun_of ce 77 (st := s_Heap_unreached) rfl h_m_Heap_unreached.kp
    exact ⟨_, fd, F, h_m_Heap_unreached, F.binds (ps := ["self", "roots"]) fun _ _ _ _ _ _ us hl => match us, hl with | [_, _], _ => rfl⟩
  have h_m_Heap_counts : Meth K (ga K "Heap") "counts" (ma K (ga K "Heap") "counts") := He.meth_ok (ce.fact 175 rfl)
  have m_Heap_counts : ∃ f fd, Md K (ga K "Heap") "counts" "Heap.counts" s_Heap_counts ["self"] f fd := by
    obtain ⟨fd, F⟩ := fun_of ce 78 (st := s_Heap_counts) rfl h_m_Heap_counts.kp
    exact ⟨_, fd, F, h_m_Heap_counts, F.binds (ps := ["self"]) fun _ _ _ _ _ _ us hl => match us, hl with | [_], _ => rfl⟩
  have h_m_Heap_minor : Meth K (ga K "Heap") "minor" (ma K (ga K "Heap") "minor") := He.meth_ok (ce.fact 176 rfl)
  have m_Heap_minor : ∃ f fd, Md K (ga K "Heap") "minor" "Heap.minor" s_Heap_minor ["self", "roots"] f fd := by
    obtain ⟨fd, F⟩ := fun_of ce 79 (st := s_Heap_minor) rfl h_m_Heap_minor.kp
    exact ⟨_, fd, F, h_m_Heap_minor, F.binds (ps := ["self", "roots"]) fun _ _ _ _ _ _ us hl => match us, hl with | [_, _], _ => rfl⟩
  have h_m_Heap_settle : Meth K (ga K "Heap") "settle" (ma K (ga K "Heap") "settle") := He.meth_ok (ce.fact 177 rfl)
  have m_Heap_settle : ∃ f fd, Md K (ga K "Heap") "settle" "Heap.settle" s_Heap_settle ["self", "roots"] f fd := by
    obtain ⟨fd, F⟩ := fun_of ce 80 (st := s_Heap_settle) rfl h_m_Heap_settle.kp
    exact ⟨_, fd, F, h_m_Heap_settle, F.binds (ps := ["self", "roots"]) fun _ _ _ _ _ _ us hl => match us, hl with | [_, _], _ => rfl⟩
  have h_m_Heap_begin : Meth K (ga K "Heap") "begin" (ma K (ga K "Heap") "begin") := He.meth_ok (ce.fact 178 rfl)
  have m_Heap_begin : ∃ f fd, Md K (ga K "Heap") "begin" "Heap.begin" s_Heap_begin ["self", "roots"] f fd := by
    obtain ⟨fd, F⟩ := fun_of ce 81 (st := s_Heap_begin) rfl h_m_Heap_begin.kp
    exact ⟨_, fd, F, h_m_Heap_begin, F.binds (ps := ["self", "roots"]) fun _ _ _ _ _ _ us hl => match us, hl with | [_, _], _ => rfl⟩
  have h_m_Heap_slice : Meth K (ga K "Heap") "slice" (ma K (ga K "Heap") "slice") := He.meth_ok (ce.fact 179 rfl)
  have m_Heap_slice : ∃ f fd, Md K (ga K "Heap") "slice" "Heap.slice" s_Heap_slice ["self", "count", "roots"] f fd := by
    obtain ⟨fd, F⟩ := fun_of ce 82 (st := s_Heap_slice) rfl h_m_Heap_slice.kp
    exact ⟨_, fd, F, h_m_Heap_slice, F.binds (ps := ["self", "count", "roots"]) fun _ _ _ _ _ _ us hl => match us, hl with | [_, _, _], _ => rfl⟩
  have h_m_Heap_whole : Meth K (ga K "Heap") "whole" (ma K (ga K "Heap") "whole") := He.meth_ok (ce.fact 180 rfl)
  have m_Heap_whole : ∃ f fd, Md K (ga K "Heap") "whole" "Heap.whole" s_Heap_whole ["self", "roots"] f fd := by
    obtain ⟨fd, F⟩ := fun_of ce 83 (st := s_Heap_whole) rfl h_m_Heap_whole.kp
    exact ⟨_, fd, F, h_m_Heap_whole, F.binds (ps := ["self", "roots"]) fun _ _ _ _ _ _ us hl => match us, hl with | [_, _], _ => rfl⟩
  have h_m_Heap_is_marking : Meth K (ga K "Heap") "is_marking" (ma K (ga K "Heap") "is_marking") := He.meth_ok (ce.fact 181 rfl)
  have m_Heap_is_marking : ∃ f fd, Md K (ga K "Heap") "is_marking" "Heap.is_marking" s_Heap_is_marking ["self"] f fd := by
    obtain ⟨fd, F⟩ := fun_of ce 84 (st := s_Heap_is_marking) rfl h_m_Heap_is_marking.kp
    exact ⟨_, fd, F, h_m_Heap_is_marking, F.binds (ps := ["self"]) fun _ _ _ _ _ _ us hl => match us, hl with | [_], _ => rfl⟩
  have h_m_Heap_picture : Meth K (ga K "Heap") "picture" (ma K (ga K "Heap") "picture") := He.meth_ok (ce.fact 182 rfl)
  have m_Heap_picture : ∃ f fd, Md K (ga K "Heap") "picture" "Heap.picture" s_Heap_picture ["self"] f fd := by
    obtain ⟨fd, F⟩ := fun_of ce 85 (st := s_Heap_picture) rfl h_m_Heap_picture.kp
    exact ⟨_, fd, F, h_m_Heap_picture, F.binds (ps := ["self"]) fun _ _ _ _ _ _ us hl => match us, hl with | [_], _ => rfl⟩
  exact { b_bool := z_bool, b_enumerate := z_enumerate, b_int := z_int, b_isinstance := z_isinstance, b_len := z_len, b_list := z_list, b_max := z_max, b_min := z_min, b_range := z_range, b_sorted := z_sorted, b_str := z_str, b_sum := z_sum, b_tuple := z_tuple, c_MOST_ENTRIES := i_MOST_ENTRIES, c_LINK_ROW := i_LINK_ROW, c_SIGNS := i_SIGNS, c_WHITE := i_WHITE, c_GREY := i_GREY, c_BLACK := i_BLACK, c_HEAD_WORDS := i_HEAD_WORDS, c_MOST_SHAPES := i_MOST_SHAPES, c_MOST_SHAPE_FIELDS := i_MOST_SHAPE_FIELDS, c_LEAST_NURSERY := i_LEAST_NURSERY, c_MOST_ROOM := i_MOST_ROOM, c_LEAST_GREAT := i_LEAST_GREAT, c_MOST_AGE := i_MOST_AGE, c_MOST_ROOTS := i_MOST_ROOTS, g_Moving := g_Moving, g_Memory := g_Memory, g_Heap := g_Heap, f__wall := d__wall, f_is_integer := d_is_integer, f_is_between := d_is_between, f_is_tuple_to := d_is_tuple_to, f_is_tuple_of := d_is_tuple_of, f_look_at_shapes := d_look_at_shapes, f_look_at_sizes := d_look_at_sizes, f_look_at_kind := d_look_at_kind, f_look_at_size := d_look_at_size, f_is_size := d_is_size, f_look_at_roots := d_look_at_roots, f_are_roots := d_are_roots, f_shape_links := d_shape_links, f_head_word := d_head_word, f_kind_told := d_kind_told, f_age_told := d_age_told, f_colour_told := d_colour_told, f_move_young := d_move_young, f_begin_marking := d_begin_marking, f_is_grey_left := d_is_grey_left, f_blacken_first := d_blacken_first, f_blacken_all := d_blacken_all, f_end_marking := d_end_marking, f_slide := d_slide, f_new_places := d_new_places, f__law_feed := d__law_feed, f__law_draw := d__law_draw, f__law_one := d__law_one, f__law_same := d__law_same, f__law_wide := d__law_wide, f__law_shapes := d__law_shapes, f__law_sizes := d__law_sizes, f__law_number := d__law_number, f__law_head := d__law_head, f__law_told := d__law_told, f__law_makes := d__law_makes, f_law := d_law, cl_Moving := c_Moving, n_Moving_memory := n_Moving_memory, n_Moving_is_settling := n_Moving_is_settling, n_Moving_half := n_Moving_half, n_Moving_moved := n_Moving_moved, n_Moving_to_half := n_Moving_to_half, n_Moving_to_old := n_Moving_to_old, cl_Memory := c_Memory, n_Memory_shapes := n_Memory_shapes, n_Memory_sizes := n_Memory_sizes, n_Memory_great := n_Memory_great, n_Memory_age := n_Memory_age, n_Memory_firsts := n_Memory_firsts, n_Memory_first_old := n_Memory_first_old, n_Memory_shapes_links := n_Memory_shapes_links, n_Memory_words := n_Memory_words, n_Memory_nexts := n_Memory_nexts, n_Memory_half := n_Memory_half, n_Memory_young := n_Memory_young, n_Memory_old := n_Memory_old, n_Memory_remembered := n_Memory_remembered, n_Memory_grey := n_Memory_grey, n_Memory_done := n_Memory_done, n_Memory_marks := n_Memory_marks, n_Memory_ended := n_Memory_ended, cl_Heap := c_Heap, n_Heap_memory := n_Heap_memory, i_Moving := m_Moving_init, m_Moving_led := m_Moving_led, m_Moving_move := m_Moving_move, m_Moving_lead_moved := m_Moving_lead_moved, m_Moving_lead_slots := m_Moving_lead_slots, m_Moving_finish := m_Moving_finish, i_Memory := m_Memory_init, m_Memory_is_object := m_Memory_is_object, m_Memory_is_young := m_Memory_is_young, m_Memory_kind := m_Memory_kind, m_Memory_slots := m_Memory_slots, m_Memory_age_of := m_Memory_age_of, m_Memory_size := m_Memory_size, m_Memory_link_places := m_Memory_link_places, m_Memory_is_great := m_Memory_is_great, m_Memory_fits := m_Memory_fits, m_Memory_lay_young := m_Memory_lay_young, m_Memory_lay_old := m_Memory_lay_old, m_Memory_make := m_Memory_make, m_Memory_set_link := m_Memory_set_link, m_Memory_is_white := m_Memory_is_white, m_Memory_shade := m_Memory_shade, m_Memory_grey_row := m_Memory_grey_row, m_Memory_room := m_Memory_room, m_Memory_old_room := m_Memory_old_room, i_Heap := m_Heap_init, m_Heap_make := m_Heap_make, m_Heap_has_room := m_Heap_has_room, m_Heap_moved_young := m_Heap_moved_young, m_Heap_look_at := m_Heap_look_at, m_Heap_look_at_address := m_Heap_look_at_address, m_Heap_look_at_slot := m_Heap_look_at_slot, m_Heap_kind := m_Heap_kind, m_Heap_slots := m_Heap_slots, m_Heap_get := m_Heap_get, m_Heap_put := m_Heap_put, m_Heap_where := m_Heap_where, m_Heap_remembered := m_Heap_remembered, m_Heap_graph := m_Heap_graph, m_Heap_traced := m_Heap_traced, m_Heap_unreached := m_Heap_unreached, m_Heap_counts := m_Heap_counts, m_Heap_minor := m_Heap_minor, m_Heap_settle := m_Heap_settle, m_Heap_begin := m_Heap_begin, m_Heap_slice := m_Heap_slice, m_Heap_whole := m_Heap_whole, m_Heap_is_marking := m_Heap_is_marking, m_Heap_picture := m_Heap_picture }
end HX

namespace HX
open PySem PySem.Spec PyProof.Rows L2 T KA KK PH
theorem law_binds {K : PySem.W.Frag} {f : Addr} {fd : FuncData} (F : L2.Fun K "law" "law" s_law f fd) : ∀ (s : Shared) (v : Value), BindsTo s fd ⟨[v], []⟩ [("_law_script", v)] := by
  obtain ⟨oc, od, kV, doc, pm, an, cdv, ct, osl, rfl, lk, hcd⟩ := F.ex
  exact fun s v => .of_eq rfl
theorem walked {w : World} {mg : Str → Option Value} {fa : Addr} {h : Heap} (Y : hook.says w h) (G : h.Ns mainGlobals mg) (hmg : mg ("law" : PySem.Str) = some (.ref fa)) :
    ∃ (K : PySem.W.Frag) (fd : FuncData) (sp : Sp), K.In h ∧ (∀ (s : Shared) (u : Value), BindsTo s fd ⟨[u], []⟩ [("_law_script", u)]) ∧
      (∀ (H : Hp) (a : Addr) (ns : List Int), ns.length ≤ 63 → Only H → SqL K H a (ns.map V.int) → sp [.ref a] H (fun v _ => v = .bl true) fun _ _ _ => False) ∧
      ∀ base : Heap, K.In base → base.Ns mainGlobals mg → FnOk R.prog w K mg base CX0 7 fa fd ["_law_script"] sp := by
  obtain ⟨K, KX, c⟩ := Y
  have L := lw KX G c
  obtain ⟨f, fd, gl⟩ := L.f_law
  have e := hmg.symm.trans gl.g
  cases e
  exact ⟨K, fd, PH.spLaw K, KX, law_binds gl.F, fun H a ns hl _ hS => ⟨a, ns, rfl, hS, hl, fun _ => rfl⟩, fun base _ _ => PH.ok_law gl L⟩
theorem room : Room 7 callerA := ⟨rfl, by decide, by decide⟩
end HX

open PySem PySem.W PyProof.Rows
set_option maxRecDepth 100000 in
set_option maxHeartbeats 0 in
theorem PySem.Challenge.cw_movedrun_k38_objects_are_words_holds : PySem.Challenge.rw_movedrun_k38_objects_are_words.Holds := by
  w_on; o_law
  refine HandSHeadRun.head_any (r := OpenLaw.row PySem.Challenge.rw_movedrun_k38_objects_are_words) (q := HX.qv) (H := HX.hook) (ob := HX.ob) (M := 15000) (loose := HX.names) (d := HandSHeadRun.topDef (OpenLaw.row PySem.Challenge.rw_movedrun_k38_objects_are_words).prog 70) (kwd := []) HX.ob_eq
    (by kernel_rfl) (fun s => by kernel_rfl) HX.run (by kernel_rfl) (by kernel_rfl) (by kernel_rfl) (by rfl) (by first | assumption | decide +kernel) (by decide +kernel) ⟨rfl, rfl, rfl, rfl, rfl, by decide +kernel⟩ ?hw ?hc
  case hw => w_witness2
  case hc =>
    refine L2.walk_ofE (l := PySem.Challenge.rw_movedrun_k38_objects_are_words) (n := 63) (k := 7) (x := "_law_script") (CX := L2.CX0) rfl (by decide) (by kernel_rfl) HX.room ?F (fun _ _ _ _ z => z)
    intro w mg fa h Y G hmg0
    have hmg : mg ("law" : PySem.Str) = some (.ref fa) := by
      have e : (HandSHeadRun.topDef (OpenLaw.row PySem.Challenge.rw_movedrun_k38_objects_are_words).prog 70).name = ("law" : PySem.Str) := by kernel_rfl
      rw [← e]
      exact hmg0
    exact HX.walked Y G hmg
