import PyProof.Rows.All
import Wide.All
import OpenK.AllK
import Wide.FinOn
import HandS.ForExc
import HandS.Wide
import HandS.IsInst
import HandS.ExcInit
import HandS.CallLocal
import HandS.IterVal
import HandS.Codes
import HandS.Flow
import KE.KStateDown
import Lean
import HandS.Base
import HandS.Call
import HandS.Ends
import HandS.More
import HandS.Words
import HandS.WordsExc
import HandS.Defaults
import HandS.Head0
import HandS.Head1
import HandS.Head2
import HandS.HeadEnd
import HandS.HeadHook1
import HandS.HeadHook2
import HandS.HeadHook3
import HandS.HeadHook4
import HandS.ForMost
import HandS.MakeKwOnly
import HandS.Conv
import KE.GoesMore
import HandS.Walk
import HandS.SortInts
import HandS.DictComp
import HandS.Style
import HandS.NoneIn
import HandS.TupAny
import PySem.Challenge.RW_movedrun_k42_ages_and_halves
set_option Elab.async false
set_option linter.all false
set_option maxRecDepth 100000
set_option maxHeartbeats 16000000
namespace T
open PySem L2
def top (i : Nat) : Stmt := PySem.Challenge.pw_movedrun_k42_ages_and_halves.main.body.getD i (.Pass ⟨0, 0, 0, 0⟩)
abbrev s__wall : Stmt := top 0
theorem sc__wall : FnScope ["k"] ["k"] (defScope s__wall) := ⟨rfl, rfl, rfl, by decide +kernel, rfl, by decide +kernel, by decide +kernel⟩
abbrev s_is_integer : Stmt := top 14
theorem sc_is_integer : FnScope ["thing"] ["thing"] (defScope s_is_integer) := ⟨rfl, rfl, rfl, by decide +kernel, rfl, by decide +kernel, by decide +kernel⟩
abbrev s_is_between : Stmt := top 15
theorem sc_is_between : FnScope ["thing", "least", "greatest"] ["thing", "least", "greatest"] (defScope s_is_between) := ⟨rfl, rfl, rfl, by decide +kernel, rfl, by decide +kernel, by decide +kernel⟩
abbrev s_is_tuple_to : Stmt := top 16
theorem sc_is_tuple_to : FnScope ["thing", "most"] ["thing", "most"] (defScope s_is_tuple_to) := ⟨rfl, rfl, rfl, by decide +kernel, rfl, by decide +kernel, by decide +kernel⟩
abbrev s_is_tuple_of : Stmt := top 17
theorem sc_is_tuple_of : FnScope ["thing", "many"] ["thing", "many"] (defScope s_is_tuple_of) := ⟨rfl, rfl, rfl, by decide +kernel, rfl, by decide +kernel, by decide +kernel⟩
abbrev s_look_at_shapes : Stmt := top 33
theorem sc_look_at_shapes : FnScope ["shapes", "shape", "truth"] ["shapes"] (defScope s_look_at_shapes) := ⟨rfl, rfl, rfl, by decide +kernel, rfl, by decide +kernel, by decide +kernel⟩
abbrev s_look_at_sizes : Stmt := top 34
theorem sc_look_at_sizes : FnScope ["sizes", "nursery", "half", "great", "age"] ["sizes"] (defScope s_look_at_sizes) := ⟨rfl, rfl, rfl, by decide +kernel, rfl, by decide +kernel, by decide +kernel⟩
abbrev s_look_at_kind : Stmt := top 35
theorem sc_look_at_kind : FnScope ["shapes", "kind"] ["shapes", "kind"] (defScope s_look_at_kind) := ⟨rfl, rfl, rfl, by decide +kernel, rfl, by decide +kernel, by decide +kernel⟩
abbrev s_look_at_size : Stmt := top 36
theorem sc_look_at_size : FnScope ["shapes", "kind", "slots"] ["shapes", "kind", "slots"] (defScope s_look_at_size) := ⟨rfl, rfl, rfl, by decide +kernel, rfl, by decide +kernel, by decide +kernel⟩
abbrev s_is_size : Stmt := top 37
theorem sc_is_size : FnScope ["shapes", "kind", "slots"] ["shapes", "kind", "slots"] (defScope s_is_size) := ⟨rfl, rfl, rfl, by decide +kernel, rfl, by decide +kernel, by decide +kernel⟩
abbrev s_look_at_roots : Stmt := top 38
theorem sc_look_at_roots : FnScope ["roots", "holder"] ["roots", "holder"] (defScope s_look_at_roots) := ⟨rfl, rfl, rfl, by decide +kernel, rfl, by decide +kernel, by decide +kernel⟩
abbrev s_are_roots : Stmt := top 39
theorem sc_are_roots : FnScope ["roots", "holder", "root"] ["roots", "holder"] (defScope s_are_roots) := ⟨rfl, rfl, rfl, by decide +kernel, rfl, by decide +kernel, by decide +kernel⟩
abbrev s_shape_links : Stmt := top 40
theorem sc_shape_links : FnScope ["shape", "index", "truth"] ["shape"] (defScope s_shape_links) := ⟨rfl, rfl, rfl, by decide +kernel, rfl, by decide +kernel, by decide +kernel⟩
abbrev s_is_link : Stmt := top 41
theorem sc_is_link : FnScope ["shapes", "kind", "slot"] ["shapes", "kind", "slot"] (defScope s_is_link) := ⟨rfl, rfl, rfl, by decide +kernel, rfl, by decide +kernel, by decide +kernel⟩
abbrev s_head_word : Stmt := top 42
theorem sc_head_word : FnScope ["kind", "age", "colour"] ["kind", "age", "colour"] (defScope s_head_word) := ⟨rfl, rfl, rfl, by decide +kernel, rfl, by decide +kernel, by decide +kernel⟩
abbrev s_kind_told : Stmt := top 43
theorem sc_kind_told : FnScope ["head"] ["head"] (defScope s_kind_told) := ⟨rfl, rfl, rfl, by decide +kernel, rfl, by decide +kernel, by decide +kernel⟩
abbrev s_age_told : Stmt := top 44
theorem sc_age_told : FnScope ["head"] ["head"] (defScope s_age_told) := ⟨rfl, rfl, rfl, by decide +kernel, rfl, by decide +kernel, by decide +kernel⟩
abbrev s_colour_told : Stmt := top 45
theorem sc_colour_told : FnScope ["head"] ["head"] (defScope s_colour_told) := ⟨rfl, rfl, rfl, by decide +kernel, rfl, by decide +kernel, by decide +kernel⟩
abbrev s_move_young : Stmt := top 47
theorem sc_move_young : FnScope ["memory", "roots", "is_settling", "moving", "root", "place"] ["memory", "roots", "is_settling"] (defScope s_move_young) := ⟨rfl, rfl, rfl, by decide +kernel, rfl, by decide +kernel, by decide +kernel⟩
abbrev s_Moving_init : Stmt := inClass (top 48) 0
theorem sc_Moving_init : FnScope ["self", "memory", "is_settling"] ["self", "memory", "is_settling"] (defScope s_Moving_init) := ⟨rfl, rfl, rfl, by decide +kernel, rfl, by decide +kernel, by decide +kernel⟩
abbrev s_Moving_led : Stmt := inClass (top 48) 1
theorem sc_Moving_led : FnScope ["self", "reference"] ["self", "reference"] (defScope s_Moving_led) := ⟨rfl, rfl, rfl, by decide +kernel, rfl, by decide +kernel, by decide +kernel⟩
abbrev s_Moving_move : Stmt := inClass (top 48) 2
theorem sc_Moving_move : FnScope ["self", "address", "memory", "many", "age", "words", "room", "other"] ["self", "address"] (defScope s_Moving_move) := ⟨rfl, rfl, rfl, by decide +kernel, rfl, by decide +kernel, by decide +kernel⟩
abbrev s_Moving_lead_moved : Stmt := inClass (top 48) 3
theorem sc_Moving_lead_moved : FnScope ["self", "in_half", "in_old"] ["self"] (defScope s_Moving_lead_moved) := ⟨rfl, rfl, rfl, by decide +kernel, rfl, by decide +kernel, by decide +kernel⟩
abbrev s_Moving_lead_slots : Stmt := inClass (top 48) 4
theorem sc_Moving_lead_slots : FnScope ["self", "address", "place"] ["self", "address"] (defScope s_Moving_lead_slots) := ⟨rfl, rfl, rfl, by decide +kernel, rfl, by decide +kernel, by decide +kernel⟩
abbrev s_Moving_finish : Stmt := inClass (top 48) 5
theorem sc_Moving_finish : FnScope ["self", "memory", "address", "places", "place"] ["self"] (defScope s_Moving_finish) := ⟨rfl, rfl, rfl, by decide +kernel, rfl, by decide +kernel, by decide +kernel⟩
abbrev s_Memory_init : Stmt := inClass (top 50) 0
theorem sc_Memory_init : FnScope ["self", "shapes", "sizes", "nursery", "half", "great", "age", "shape"] ["self", "shapes", "sizes"] (defScope s_Memory_init) := ⟨rfl, rfl, rfl, by decide +kernel, rfl, by decide +kernel, by decide +kernel⟩
abbrev s_Memory_is_object : Stmt := inClass (top 50) 1
theorem sc_Memory_is_object : FnScope ["self", "address"] ["self", "address"] (defScope s_Memory_is_object) := ⟨rfl, rfl, rfl, by decide +kernel, rfl, by decide +kernel, by decide +kernel⟩
abbrev s_Memory_is_young : Stmt := inClass (top 50) 2
theorem sc_Memory_is_young : FnScope ["self", "reference"] ["self", "reference"] (defScope s_Memory_is_young) := ⟨rfl, rfl, rfl, by decide +kernel, rfl, by decide +kernel, by decide +kernel⟩
abbrev s_Memory_kind : Stmt := inClass (top 50) 3
theorem sc_Memory_kind : FnScope ["self", "address"] ["self", "address"] (defScope s_Memory_kind) := ⟨rfl, rfl, rfl, by decide +kernel, rfl, by decide +kernel, by decide +kernel⟩
abbrev s_Memory_slots : Stmt := inClass (top 50) 4
theorem sc_Memory_slots : FnScope ["self", "address"] ["self", "address"] (defScope s_Memory_slots) := ⟨rfl, rfl, rfl, by decide +kernel, rfl, by decide +kernel, by decide +kernel⟩
abbrev s_Memory_age_of : Stmt := inClass (top 50) 5
theorem sc_Memory_age_of : FnScope ["self", "address"] ["self", "address"] (defScope s_Memory_age_of) := ⟨rfl, rfl, rfl, by decide +kernel, rfl, by decide +kernel, by decide +kernel⟩
abbrev s_Memory_size : Stmt := inClass (top 50) 6
theorem sc_Memory_size : FnScope ["self", "address"] ["self", "address"] (defScope s_Memory_size) := ⟨rfl, rfl, rfl, by decide +kernel, rfl, by decide +kernel, by decide +kernel⟩
abbrev s_Memory_link_places : Stmt := inClass (top 50) 7
theorem sc_Memory_link_places : FnScope ["self", "address", "first", "kind", "index"] ["self", "address"] (defScope s_Memory_link_places) := ⟨rfl, rfl, rfl, by decide +kernel, rfl, by decide +kernel, by decide +kernel⟩
abbrev s_Memory_is_great : Stmt := inClass (top 50) 8
theorem sc_Memory_is_great : FnScope ["self", "slots"] ["self", "slots"] (defScope s_Memory_is_great) := ⟨rfl, rfl, rfl, by decide +kernel, rfl, by decide +kernel, by decide +kernel⟩
abbrev s_Memory_fits : Stmt := inClass (top 50) 9
theorem sc_Memory_fits : FnScope ["self", "room", "many", "end"] ["self", "room", "many"] (defScope s_Memory_fits) := ⟨rfl, rfl, rfl, by decide +kernel, rfl, by decide +kernel, by decide +kernel⟩
abbrev s_Memory_lay_young : Stmt := inClass (top 50) 10
theorem sc_Memory_lay_young : FnScope ["self", "room", "words", "address"] ["self", "room", "words"] (defScope s_Memory_lay_young) := ⟨rfl, rfl, rfl, by decide +kernel, rfl, by decide +kernel, by decide +kernel⟩
abbrev s_Memory_lay_old : Stmt := inClass (top 50) 11
theorem sc_Memory_lay_old : FnScope ["self", "words", "address"] ["self", "words"] (defScope s_Memory_lay_old) := ⟨rfl, rfl, rfl, by decide +kernel, rfl, by decide +kernel, by decide +kernel⟩
abbrev s_Memory_make : Stmt := inClass (top 50) 12
theorem sc_Memory_make : FnScope ["self", "kind", "slots", "colour", "words"] ["self", "kind", "slots"] (defScope s_Memory_make) := ⟨rfl, rfl, rfl, by decide +kernel, rfl, by decide +kernel, by decide +kernel⟩
abbrev s_Memory_set_link : Stmt := inClass (top 50) 13
theorem sc_Memory_set_link : FnScope ["self", "address", "place", "reference"] ["self", "address", "place", "reference"] (defScope s_Memory_set_link) := ⟨rfl, rfl, rfl, by decide +kernel, rfl, by decide +kernel, by decide +kernel⟩
abbrev s_Memory_is_white : Stmt := inClass (top 50) 14
theorem sc_Memory_is_white : FnScope ["self", "reference"] ["self", "reference"] (defScope s_Memory_is_white) := ⟨rfl, rfl, rfl, by decide +kernel, rfl, by decide +kernel, by decide +kernel⟩
abbrev s_Memory_shade : Stmt := inClass (top 50) 15
theorem sc_Memory_shade : FnScope ["self", "reference"] ["self", "reference"] (defScope s_Memory_shade) := ⟨rfl, rfl, rfl, by decide +kernel, rfl, by decide +kernel, by decide +kernel⟩
abbrev s_Memory_grey_row : Stmt := inClass (top 50) 16
theorem sc_Memory_grey_row : FnScope ["self"] ["self"] (defScope s_Memory_grey_row) := ⟨rfl, rfl, rfl, by decide +kernel, rfl, by decide +kernel, by decide +kernel⟩
abbrev s_Memory_room : Stmt := inClass (top 50) 17
theorem sc_Memory_room : FnScope ["self", "room"] ["self", "room"] (defScope s_Memory_room) := ⟨rfl, rfl, rfl, by decide +kernel, rfl, by decide +kernel, by decide +kernel⟩
abbrev s_Memory_old_room : Stmt := inClass (top 50) 18
theorem sc_Memory_old_room : FnScope ["self"] ["self"] (defScope s_Memory_old_room) := ⟨rfl, rfl, rfl, by decide +kernel, rfl, by decide +kernel, by decide +kernel⟩
abbrev s_Heap_init : Stmt := inClass (top 52) 0
theorem sc_Heap_init : FnScope ["self", "shapes", "sizes"] ["self", "shapes", "sizes"] (defScope s_Heap_init) := ⟨rfl, rfl, rfl, by decide +kernel, rfl, by decide +kernel, by decide +kernel⟩
abbrev s_Heap_make : Stmt := inClass (top 52) 1
theorem sc_Heap_make : FnScope ["self", "kind", "slots", "roots"] ["self", "kind", "slots", "roots"] (defScope s_Heap_make) := ⟨rfl, rfl, rfl, by decide +kernel, rfl, by decide +kernel, by decide +kernel⟩
abbrev s_Heap_has_room : Stmt := inClass (top 52) 2
theorem sc_Heap_has_room : FnScope ["self", "slots"] ["self", "slots"] (defScope s_Heap_has_room) := ⟨rfl, rfl, rfl, by decide +kernel, rfl, by decide +kernel, by decide +kernel⟩
abbrev s_Heap_moved_young : Stmt := inClass (top 52) 3
theorem sc_Heap_moved_young : FnScope ["self", "roots"] ["self", "roots"] (defScope s_Heap_moved_young) := ⟨rfl, rfl, rfl, by decide +kernel, rfl, by decide +kernel, by decide +kernel⟩
abbrev s_Heap_look_at : Stmt := inClass (top 52) 4
theorem sc_Heap_look_at : FnScope ["self", "roots"] ["self", "roots"] (defScope s_Heap_look_at) := ⟨rfl, rfl, rfl, by decide +kernel, rfl, by decide +kernel, by decide +kernel⟩
abbrev s_Heap_look_at_address : Stmt := inClass (top 52) 5
theorem sc_Heap_look_at_address : FnScope ["self", "address"] ["self", "address"] (defScope s_Heap_look_at_address) := ⟨rfl, rfl, rfl, by decide +kernel, rfl, by decide +kernel, by decide +kernel⟩
abbrev s_Heap_look_at_slot : Stmt := inClass (top 52) 6
theorem sc_Heap_look_at_slot : FnScope ["self", "address", "slot"] ["self", "address", "slot"] (defScope s_Heap_look_at_slot) := ⟨rfl, rfl, rfl, by decide +kernel, rfl, by decide +kernel, by decide +kernel⟩
abbrev s_Heap_kind : Stmt := inClass (top 52) 7
theorem sc_Heap_kind : FnScope ["self", "address"] ["self", "address"] (defScope s_Heap_kind) := ⟨rfl, rfl, rfl, by decide +kernel, rfl, by decide +kernel, by decide +kernel⟩
abbrev s_Heap_slots : Stmt := inClass (top 52) 8
theorem sc_Heap_slots : FnScope ["self", "address"] ["self", "address"] (defScope s_Heap_slots) := ⟨rfl, rfl, rfl, by decide +kernel, rfl, by decide +kernel, by decide +kernel⟩
abbrev s_Heap_get : Stmt := inClass (top 52) 9
theorem sc_Heap_get : FnScope ["self", "address", "slot"] ["self", "address", "slot"] (defScope s_Heap_get) := ⟨rfl, rfl, rfl, by decide +kernel, rfl, by decide +kernel, by decide +kernel⟩
abbrev s_Heap_put : Stmt := inClass (top 52) 10
theorem sc_Heap_put : FnScope ["self", "address", "slot", "value", "place"] ["self", "address", "slot", "value"] (defScope s_Heap_put) := ⟨rfl, rfl, rfl, by decide +kernel, rfl, by decide +kernel, by decide +kernel⟩
abbrev s_Heap_where : Stmt := inClass (top 52) 11
theorem sc_Heap_where : FnScope ["self", "address"] ["self", "address"] (defScope s_Heap_where) := ⟨rfl, rfl, rfl, by decide +kernel, rfl, by decide +kernel, by decide +kernel⟩
abbrev s_Heap_remembered : Stmt := inClass (top 52) 12
theorem sc_Heap_remembered : FnScope ["self"] ["self"] (defScope s_Heap_remembered) := ⟨rfl, rfl, rfl, by decide +kernel, rfl, by decide +kernel, by decide +kernel⟩
abbrev s_Heap_graph : Stmt := inClass (top 52) 13
theorem sc_Heap_graph : FnScope ["self", "roots"] ["self", "roots"] (defScope s_Heap_graph) := ⟨rfl, rfl, rfl, by decide +kernel, rfl, by decide +kernel, by decide +kernel⟩
abbrev s_Heap_traced : Stmt := inClass (top 52) 14
theorem sc_Heap_traced : FnScope ["self", "roots"] ["self", "roots"] (defScope s_Heap_traced) := ⟨rfl, rfl, rfl, by decide +kernel, rfl, by decide +kernel, by decide +kernel⟩
abbrev s_Heap_unreached : Stmt := inClass (top 52) 15
theorem sc_Heap_unreached : FnScope ["self", "roots"] ["self", "roots"] (defScope s_Heap_unreached) := ⟨rfl, rfl, rfl, by decide +kernel, rfl, by decide +kernel, by decide +kernel⟩
abbrev s_Heap_counts : Stmt := inClass (top 52) 16
theorem sc_Heap_counts : FnScope ["self"] ["self"] (defScope s_Heap_counts) := ⟨rfl, rfl, rfl, by decide +kernel, rfl, by decide +kernel, by decide +kernel⟩
abbrev s_Heap_minor : Stmt := inClass (top 52) 17
theorem sc_Heap_minor : FnScope ["self", "roots"] ["self", "roots"] (defScope s_Heap_minor) := ⟨rfl, rfl, rfl, by decide +kernel, rfl, by decide +kernel, by decide +kernel⟩
abbrev s_Heap_settle : Stmt := inClass (top 52) 18
theorem sc_Heap_settle : FnScope ["self", "roots"] ["self", "roots"] (defScope s_Heap_settle) := ⟨rfl, rfl, rfl, by decide +kernel, rfl, by decide +kernel, by decide +kernel⟩
abbrev s_Heap_begin : Stmt := inClass (top 52) 19
theorem sc_Heap_begin : FnScope ["self", "roots"] ["self", "roots"] (defScope s_Heap_begin) := ⟨rfl, rfl, rfl, by decide +kernel, rfl, by decide +kernel, by decide +kernel⟩
abbrev s_Heap_slice : Stmt := inClass (top 52) 20
theorem sc_Heap_slice : FnScope ["self", "count", "roots"] ["self", "count", "roots"] (defScope s_Heap_slice) := ⟨rfl, rfl, rfl, by decide +kernel, rfl, by decide +kernel, by decide +kernel⟩
abbrev s_Heap_whole : Stmt := inClass (top 52) 21
theorem sc_Heap_whole : FnScope ["self", "roots"] ["self", "roots"] (defScope s_Heap_whole) := ⟨rfl, rfl, rfl, by decide +kernel, rfl, by decide +kernel, by decide +kernel⟩
abbrev s_Heap_is_marking : Stmt := inClass (top 52) 22
theorem sc_Heap_is_marking : FnScope ["self"] ["self"] (defScope s_Heap_is_marking) := ⟨rfl, rfl, rfl, by decide +kernel, rfl, by decide +kernel, by decide +kernel⟩
abbrev s_Heap_picture : Stmt := inClass (top 52) 23
theorem sc_Heap_picture : FnScope ["self", "memory"] ["self"] (defScope s_Heap_picture) := ⟨rfl, rfl, rfl, by decide +kernel, rfl, by decide +kernel, by decide +kernel⟩
abbrev s_law_feed : Stmt := top 54
theorem sc_law_feed : FnScope ["_law_script", "_law_k", "_law_cell"] ["_law_script", "_law_k"] (defScope s_law_feed) := ⟨rfl, rfl, rfl, by decide +kernel, rfl, by decide +kernel, by decide +kernel⟩
abbrev s_law_draw : Stmt := top 55
theorem sc_law_draw : FnScope ["_law_feed_here", "_law_many", "_law_rest", "_law_got", "_law_stir"] ["_law_feed_here", "_law_many"] (defScope s_law_draw) := ⟨rfl, rfl, rfl, by decide +kernel, rfl, by decide +kernel, by decide +kernel⟩
abbrev s_law_one : Stmt := top 56
theorem sc_law_one : FnScope ["_law_feed_here", "_law_things"] ["_law_feed_here", "_law_things"] (defScope s_law_one) := ⟨rfl, rfl, rfl, by decide +kernel, rfl, by decide +kernel, by decide +kernel⟩
abbrev s_law_shapes : Stmt := top 57
theorem sc_law_shapes : FnScope ["_law_feed_here", "_law_field", "_law_turn"] ["_law_feed_here"] (defScope s_law_shapes) := ⟨rfl, rfl, rfl, by decide +kernel, rfl, by decide +kernel, by decide +kernel⟩
abbrev s_law_sizes : Stmt := top 58
theorem sc_law_sizes : FnScope ["_law_feed_here", "_law_nursery"] ["_law_feed_here"] (defScope s_law_sizes) := ⟨rfl, rfl, rfl, by decide +kernel, rfl, by decide +kernel, by decide +kernel⟩
abbrev s_law_same : Stmt := top 59
theorem sc_law_same : FnScope ["_law_told", "_law_due", "_law_k"] ["_law_told", "_law_due"] (defScope s_law_same) := ⟨rfl, rfl, rfl, by decide +kernel, rfl, by decide +kernel, by decide +kernel⟩
abbrev s_law_address : Stmt := top 60
theorem sc_law_address : FnScope ["_law_rooms", "_law_sizes_here", "_law_which", "_law_one_here", "_law_firsts", "_law_at", "_law_place", "_law_thing"] ["_law_rooms", "_law_sizes_here", "_law_which", "_law_one_here"] (defScope s_law_address) := ⟨rfl, rfl, rfl, by decide +kernel, rfl, by decide +kernel, by decide +kernel⟩
abbrev s_law_words : Stmt := top 61
theorem sc_law_words : FnScope ["_law_room", "_law_words_here", "_law_kind", "_law_age", "_law_body", "_law_name"] ["_law_room"] (defScope s_law_words) := ⟨rfl, rfl, rfl, by decide +kernel, rfl, by decide +kernel, by decide +kernel⟩
abbrev s_law_roots : Stmt := top 62
theorem sc_law_roots : FnScope ["_law_rooms", "_law_sizes_here", "_law_which", "_law_held", "_law_one_here"] ["_law_rooms", "_law_sizes_here", "_law_which", "_law_held"] (defScope s_law_roots) := ⟨rfl, rfl, rfl, by decide +kernel, rfl, by decide +kernel, by decide +kernel⟩
abbrev s_law_minor : Stmt := top 63
theorem sc_law_minor : FnScope ["_law_rooms", "_law_sizes_here", "_law_held", "_law_there", "_law_old", "_law_young", "_law_one_here", "_law_thing"] ["_law_rooms", "_law_sizes_here", "_law_held"] (defScope s_law_minor) := ⟨rfl, rfl, rfl, by decide +kernel, rfl, by decide +kernel, by decide +kernel⟩
abbrev s_law_made : Stmt := top 64
theorem sc_law_made : FnScope ["_law_feed_here", "_law_heap", "_law_state", "_law_sizes_here", "_law_rooms", "_law_held", "_law_kind", "_law_many", "_law_told", "_law_one_here", "_law_address_here", "_law_body", "_law_slot", "_law_at"] ["_law_feed_here", "_law_heap", "_law_state", "_law_sizes_here"] (defScope s_law_made) := ⟨rfl, rfl, rfl, by decide +kernel, rfl, by decide +kernel, by decide +kernel⟩
abbrev s_law_deed : Stmt := top 65
theorem sc_law_deed : FnScope ["_law_feed_here", "_law_heap", "_law_state", "_law_sizes_here", "_law_way", "_law_held", "_law_at", "_law_rest", "_law_to", "_law_told", "_law_one_here", "_law_address_here", "_law_room"] ["_law_feed_here", "_law_heap", "_law_state", "_law_sizes_here"] (defScope s_law_deed) := ⟨rfl, rfl, rfl, by decide +kernel, rfl, by decide +kernel, by decide +kernel⟩
abbrev s_law_picture : Stmt := top 66
theorem sc_law_picture : FnScope ["_law_state", "_law_rooms"] ["_law_state"] (defScope s_law_picture) := ⟨rfl, rfl, rfl, by decide +kernel, rfl, by decide +kernel, by decide +kernel⟩
abbrev s_law : Stmt := top 67
theorem sc_law : FnScope ["_law_script", "_law_feed_here", "_law_shapes_here", "_law_sizes_here", "_law_heap", "_law_state", "_law_cells", "_law_k", "_law_turn"] ["_law_script"] (defScope s_law) := ⟨rfl, rfl, rfl, by decide +kernel, rfl, by decide +kernel, by decide +kernel⟩
end T

/-! What the head tells. -/
namespace HX
open PySem PySem.Spec PyProof.Rows L2 T
open He (Fa FnD ga ma)
def fn0 : List FnD := [⟨("_wall", none), "_wall", "_wall", defArgs s__wall, defBody s__wall, defScope s__wall⟩, ⟨("is_integer", none), "is_integer", "is_integer", defArgs s_is_integer, defBody s_is_integer, defScope s_is_integer⟩, ⟨("is_between", none), "is_between", "is_between", defArgs s_is_between, defBody s_is_between, defScope s_is_between⟩, ⟨("is_tuple_to", none), "is_tuple_to", "is_tuple_to", defArgs s_is_tuple_to, defBody s_is_tuple_to, defScope s_is_tuple_to⟩, ⟨("is_tuple_of", none), "is_tuple_of", "is_tuple_of", defArgs s_is_tuple_of, defBody s_is_tuple_of, defScope s_is_tuple_of⟩, ⟨("look_at_shapes", none), "look_at_shapes", "look_at_shapes", defArgs s_look_at_shapes, defBody s_look_at_shapes, defScope s_look_at_shapes⟩, ⟨("look_at_sizes", none), "look_at_sizes", "look_at_sizes", defArgs s_look_at_sizes, defBody s_look_at_sizes, defScope s_look_at_sizes⟩, ⟨("look_at_kind", none), "look_at_kind", "look_at_kind", defArgs s_look_at_kind, defBody s_look_at_kind, defScope s_look_at_kind⟩, ⟨("look_at_size", none), "look_at_size", "look_at_size", defArgs s_look_at_size, defBody s_look_at_size, defScope s_look_at_size⟩, ⟨("is_size", none), "is_size", "is_size", defArgs s_is_size, defBody s_is_size, defScope s_is_size⟩, ⟨("look_at_roots", none), "look_at_roots", "look_at_roots", defArgs s_look_at_roots, defBody s_look_at_roots, defScope s_look_at_roots⟩, ⟨("are_roots", none), "are_roots", "are_roots", defArgs s_are_roots, defBody s_are_roots, defScope s_are_roots⟩]
def fn1 : List FnD := [⟨("shape_links", none), "shape_links", "shape_links", defArgs s_shape_links, defBody s_shape_links, defScope s_shape_links⟩, ⟨("is_link", none), "is_link", "is_link", defArgs s_is_link, defBody s_is_link, defScope s_is_link⟩, ⟨("head_word", none), "head_word", "head_word", defArgs s_head_word, defBody s_head_word, defScope s_head_word⟩, ⟨("kind_told", none), "kind_told", "kind_told", defArgs s_kind_told, defBody s_kind_told, defScope s_kind_told⟩, ⟨("age_told", none), "age_told", "age_told", defArgs s_age_told, defBody s_age_told, defScope s_age_told⟩, ⟨("colour_told", none), "colour_told", "colour_told", defArgs s_colour_told, defBody s_colour_told, defScope s_colour_told⟩, ⟨("move_young", none), "move_young", "move_young", defArgs s_move_young, defBody s_move_young, defScope s_move_young⟩, ⟨("_law_feed", none), "_law_feed", "_law_feed", defArgs s_law_feed, defBody s_law_feed, defScope s_law_feed⟩, ⟨("_law_draw", none), "_law_draw", "_law_draw", defArgs s_law_draw, defBody s_law_draw, defScope s_law_draw⟩, ⟨("_law_one", none), "_law_one", "_law_one", defArgs s_law_one, defBody s_law_one, defScope s_law_one⟩, ⟨("_law_shapes", none), "_law_shapes", "_law_shapes", defArgs s_law_shapes, defBody s_law_shapes, defScope s_law_shapes⟩, ⟨("_law_sizes", none), "_law_sizes", "_law_sizes", defArgs s_law_sizes, defBody s_law_sizes, defScope s_law_sizes⟩]
def fn2 : List FnD := [⟨("_law_same", none), "_law_same", "_law_same", defArgs s_law_same, defBody s_law_same, defScope s_law_same⟩, ⟨("_law_address", none), "_law_address", "_law_address", defArgs s_law_address, defBody s_law_address, defScope s_law_address⟩, ⟨("_law_words", none), "_law_words", "_law_words", defArgs s_law_words, defBody s_law_words, defScope s_law_words⟩, ⟨("_law_roots", none), "_law_roots", "_law_roots", defArgs s_law_roots, defBody s_law_roots, defScope s_law_roots⟩, ⟨("_law_minor", none), "_law_minor", "_law_minor", defArgs s_law_minor, defBody s_law_minor, defScope s_law_minor⟩, ⟨("_law_made", none), "_law_made", "_law_made", defArgs s_law_made, defBody s_law_made, defScope s_law_made⟩, ⟨("_law_deed", none), "_law_deed", "_law_deed", defArgs s_law_deed, defBody s_law_deed, defScope s_law_deed⟩, ⟨("_law_picture", none), "_law_picture", "_law_picture", defArgs s_law_picture, defBody s_law_picture, defScope s_law_picture⟩, ⟨("law", none), "law", "law", defArgs s_law, defBody s_law, defScope s_law⟩, ⟨("Moving", some "__init__"), "__init__", "Moving.__init__", defArgs s_Moving_init, defBody s_Moving_init, defScope s_Moving_init⟩, ⟨("Moving", some "led"), "led", "Moving.led", defArgs s_Moving_led, defBody s_Moving_led, defScope s_Moving_led⟩, ⟨("Moving", some "move"), "move", "Moving.move", defArgs s_Moving_move, defBody s_Moving_move, defScope s_Moving_move⟩]
def fn3 : List FnD := [⟨("Moving", some "lead_moved"), "lead_moved", "Moving.lead_moved", defArgs s_Moving_lead_moved, defBody s_Moving_lead_moved, defScope s_Moving_lead_moved⟩, ⟨("Moving", some "lead_slots"), "lead_slots", "Moving.lead_slots", defArgs s_Moving_lead_slots, defBody s_Moving_lead_slots, defScope s_Moving_lead_slots⟩, ⟨("Moving", some "finish"), "finish", "Moving.finish", defArgs s_Moving_finish, defBody s_Moving_finish, defScope s_Moving_finish⟩, ⟨("Memory", some "__init__"), "__init__", "Memory.__init__", defArgs s_Memory_init, defBody s_Memory_init, defScope s_Memory_init⟩, ⟨("Memory", some "is_object"), "is_object", "Memory.is_object", defArgs s_Memory_is_object, defBody s_Memory_is_object, defScope s_Memory_is_object⟩, ⟨("Memory", some "is_young"), "is_young", "Memory.is_young", defArgs s_Memory_is_young, defBody s_Memory_is_young, defScope s_Memory_is_young⟩, ⟨("Memory", some "kind"), "kind", "Memory.kind", defArgs s_Memory_kind, defBody s_Memory_kind, defScope s_Memory_kind⟩, ⟨("Memory", some "slots"), "slots", "Memory.slots", defArgs s_Memory_slots, defBody s_Memory_slots, defScope s_Memory_slots⟩, ⟨("Memory", some "age_of"), "age_of", "Memory.age_of", defArgs s_Memory_age_of, defBody s_Memory_age_of, defScope s_Memory_age_of⟩, ⟨("Memory", some "size"), "size", "Memory.size", defArgs s_Memory_size, defBody s_Memory_size, defScope s_Memory_size⟩, ⟨("Memory", some "link_places"), "link_places", "Memory.link_places", defArgs s_Memory_link_places, defBody s_Memory_link_places, defScope s_Memory_link_places⟩, ⟨("Memory", some "is_great"), "is_great", "Memory.is_great", defArgs s_Memory_is_great, defBody s_Memory_is_great, defScope s_Memory_is_great⟩]
def fn4 : List FnD := [⟨("Memory", some "fits"), "fits", "Memory.fits", defArgs s_Memory_fits, defBody s_Memory_fits, defScope s_Memory_fits⟩, ⟨("Memory", some "lay_young"), "lay_young", "Memory.lay_young", defArgs s_Memory_lay_young, defBody s_Memory_lay_young, defScope s_Memory_lay_young⟩, ⟨("Memory", some "lay_old"), "lay_old", "Memory.lay_old", defArgs s_Memory_lay_old, defBody s_Memory_lay_old, defScope s_Memory_lay_old⟩, ⟨("Memory", some "make"), "make", "Memory.make", defArgs s_Memory_make, defBody s_Memory_make, defScope s_Memory_make⟩, ⟨("Memory", some "set_link"), "set_link", "Memory.set_link", defArgs s_Memory_set_link, defBody s_Memory_set_link, defScope s_Memory_set_link⟩, ⟨("Memory", some "is_white"), "is_white", "Memory.is_white", defArgs s_Memory_is_white, defBody s_Memory_is_white, defScope s_Memory_is_white⟩, ⟨("Memory", some "shade"), "shade", "Memory.shade", defArgs s_Memory_shade, defBody s_Memory_shade, defScope s_Memory_shade⟩, ⟨("Memory", some "grey_row"), "grey_row", "Memory.grey_row", defArgs s_Memory_grey_row, defBody s_Memory_grey_row, defScope s_Memory_grey_row⟩, ⟨("Memory", some "room"), "room", "Memory.room", defArgs s_Memory_room, defBody s_Memory_room, defScope s_Memory_room⟩, ⟨("Memory", some "old_room"), "old_room", "Memory.old_room", defArgs s_Memory_old_room, defBody s_Memory_old_room, defScope s_Memory_old_room⟩, ⟨("Heap", some "__init__"), "__init__", "Heap.__init__", defArgs s_Heap_init, defBody s_Heap_init, defScope s_Heap_init⟩, ⟨("Heap", some "make"), "make", "Heap.make", defArgs s_Heap_make, defBody s_Heap_make, defScope s_Heap_make⟩]
def fn5 : List FnD := [⟨("Heap", some "has_room"), "has_room", "Heap.has_room", defArgs s_Heap_has_room, defBody s_Heap_has_room, defScope s_Heap_has_room⟩, ⟨("Heap", some "moved_young"), "moved_young", "Heap.moved_young", defArgs s_Heap_moved_young, defBody s_Heap_moved_young, defScope s_Heap_moved_young⟩, ⟨("Heap", some "look_at"), "look_at", "Heap.look_at", defArgs s_Heap_look_at, defBody s_Heap_look_at, defScope s_Heap_look_at⟩, ⟨("Heap", some "look_at_address"), "look_at_address", "Heap.look_at_address", defArgs s_Heap_look_at_address, defBody s_Heap_look_at_address, defScope s_Heap_look_at_address⟩, ⟨("Heap", some "look_at_slot"), "look_at_slot", "Heap.look_at_slot", defArgs s_Heap_look_at_slot, defBody s_Heap_look_at_slot, defScope s_Heap_look_at_slot⟩, ⟨("Heap", some "kind"), "kind", "Heap.kind", defArgs s_Heap_kind, defBody s_Heap_kind, defScope s_Heap_kind⟩, ⟨("Heap", some "slots"), "slots", "Heap.slots", defArgs s_Heap_slots, defBody s_Heap_slots, defScope s_Heap_slots⟩, ⟨("Heap", some "get"), "get", "Heap.get", defArgs s_Heap_get, defBody s_Heap_get, defScope s_Heap_get⟩, ⟨("Heap", some "put"), "put", "Heap.put", defArgs s_Heap_put, defBody s_Heap_put, defScope s_Heap_put⟩, ⟨("Heap", some "where"), "where", "Heap.where", defArgs s_Heap_where, defBody s_Heap_where, defScope s_Heap_where⟩, ⟨("Heap", some "remembered"), "remembered", "Heap.remembered", defArgs s_Heap_remembered, defBody s_Heap_remembered, defScope s_Heap_remembered⟩, ⟨("Heap", some "graph"), "graph", "Heap.graph", defArgs s_Heap_graph, defBody s_Heap_graph, defScope s_Heap_graph⟩]
def fn6 : List FnD := [⟨("Heap", some "traced"), "traced", "Heap.traced", defArgs s_Heap_traced, defBody s_Heap_traced, defScope s_Heap_traced⟩, ⟨("Heap", some "unreached"), "unreached", "Heap.unreached", defArgs s_Heap_unreached, defBody s_Heap_unreached, defScope s_Heap_unreached⟩, ⟨("Heap", some "counts"), "counts", "Heap.counts", defArgs s_Heap_counts, defBody s_Heap_counts, defScope s_Heap_counts⟩, ⟨("Heap", some "minor"), "minor", "Heap.minor", defArgs s_Heap_minor, defBody s_Heap_minor, defScope s_Heap_minor⟩, ⟨("Heap", some "settle"), "settle", "Heap.settle", defArgs s_Heap_settle, defBody s_Heap_settle, defScope s_Heap_settle⟩, ⟨("Heap", some "begin"), "begin", "Heap.begin", defArgs s_Heap_begin, defBody s_Heap_begin, defScope s_Heap_begin⟩, ⟨("Heap", some "slice"), "slice", "Heap.slice", defArgs s_Heap_slice, defBody s_Heap_slice, defScope s_Heap_slice⟩, ⟨("Heap", some "whole"), "whole", "Heap.whole", defArgs s_Heap_whole, defBody s_Heap_whole, defScope s_Heap_whole⟩, ⟨("Heap", some "is_marking"), "is_marking", "Heap.is_marking", defArgs s_Heap_is_marking, defBody s_Heap_is_marking, defScope s_Heap_is_marking⟩, ⟨("Heap", some "picture"), "picture", "Heap.picture", defArgs s_Heap_picture, defBody s_Heap_picture, defScope s_Heap_picture⟩]
def fn : List FnD := fn0 ++ (fn1 ++ (fn2 ++ (fn3 ++ (fn4 ++ (fn5 ++ (fn6))))))
def fa0 : List Fa := [.glo "_wall", .keep "_wall", .glo "is_integer", .keep "is_integer", .glo "is_between", .keep "is_between", .glo "is_tuple_to", .keep "is_tuple_to", .glo "is_tuple_of", .keep "is_tuple_of", .glo "look_at_shapes", .keep "look_at_shapes", .glo "look_at_sizes", .keep "look_at_sizes", .glo "look_at_kind", .keep "look_at_kind", .glo "look_at_size", .keep "look_at_size", .glo "is_size", .keep "is_size"]
def fa1 : List Fa := [.glo "look_at_roots", .keep "look_at_roots", .glo "are_roots", .keep "are_roots", .glo "shape_links", .keep "shape_links", .glo "is_link", .keep "is_link", .glo "head_word", .keep "head_word", .glo "kind_told", .keep "kind_told", .glo "age_told", .keep "age_told", .glo "colour_told", .keep "colour_told", .glo "move_young", .keep "move_young", .glo "_law_feed", .keep "_law_feed"]
def fa2 : List Fa := [.glo "_law_draw", .keep "_law_draw", .glo "_law_one", .keep "_law_one", .glo "_law_shapes", .keep "_law_shapes", .glo "_law_sizes", .keep "_law_sizes", .glo "_law_same", .keep "_law_same", .glo "_law_address", .keep "_law_address", .glo "_law_words", .keep "_law_words", .glo "_law_roots", .keep "_law_roots", .glo "_law_minor", .keep "_law_minor", .glo "_law_made", .keep "_law_made"]
def fa3 : List Fa := [.glo "_law_deed", .keep "_law_deed", .glo "_law_picture", .keep "_law_picture", .glo "law", .keep "law", .glo "Moving", .glo "Memory", .glo "Heap", .free "bool", .free "enumerate", .free "int", .free "isinstance", .free "len", .free "list", .free "max", .free "min", .free "range", .free "sorted", .free "str"]
def fa4 : List Fa := [.free "sum", .free "tuple", .int "LEAST_INT" (-2147483648), .int "GREATEST_INT" (2147483647), .int "MOST_ENTRIES" (1000), .int "LINK_ROW" (-2), .int "SIGNS" (-3), .int "WHITE" (0), .int "GREY" (1), .int "BLACK" (2), .int "HEAD_WORDS" (2), .int "MOST_SHAPES" (60), .int "MOST_SHAPE_FIELDS" (100), .int "LEAST_NURSERY" (16), .int "MOST_ROOM" (4096), .int "LEAST_GREAT" (4), .int "MOST_AGE" (7), .int "MOST_ROOTS" (40000), .cls "Moving", .mkr "Moving"]
def fa5 : List Fa := [.cls "Memory", .mkr "Memory", .cls "Heap", .mkr "Heap", .noat "Moving" "memory", .noat "Moving" "is_settling", .noat "Moving" "half", .noat "Moving" "moved", .noat "Moving" "to_half", .noat "Moving" "to_old", .noat "Memory" "shapes", .noat "Memory" "sizes", .noat "Memory" "great", .noat "Memory" "age", .noat "Memory" "firsts", .noat "Memory" "first_old", .noat "Memory" "shapes_links", .noat "Memory" "words", .noat "Memory" "nexts", .noat "Memory" "half"]
def fa6 : List Fa := [.noat "Memory" "young", .noat "Memory" "old", .noat "Memory" "remembered", .noat "Memory" "grey", .noat "Memory" "done", .noat "Memory" "marks", .noat "Memory" "ended", .noat "Heap" "memory", .meth "Moving" "__init__", .meth "Moving" "led", .meth "Moving" "move", .meth "Moving" "lead_moved", .meth "Moving" "lead_slots", .meth "Moving" "finish", .meth "Memory" "__init__", .meth "Memory" "is_object", .meth "Memory" "is_young", .meth "Memory" "kind", .meth "Memory" "slots", .meth "Memory" "age_of"]
def fa7 : List Fa := [.meth "Memory" "size", .meth "Memory" "link_places", .meth "Memory" "is_great", .meth "Memory" "fits", .meth "Memory" "lay_young", .meth "Memory" "lay_old", .meth "Memory" "make", .meth "Memory" "set_link", .meth "Memory" "is_white", .meth "Memory" "shade", .meth "Memory" "grey_row", .meth "Memory" "room", .meth "Memory" "old_room", .meth "Heap" "__init__", .meth "Heap" "make", .meth "Heap" "has_room", .meth "Heap" "moved_young", .meth "Heap" "look_at", .meth "Heap" "look_at_address", .meth "Heap" "look_at_slot"]
def fa8 : List Fa := [.meth "Heap" "kind", .meth "Heap" "slots", .meth "Heap" "get", .meth "Heap" "put", .meth "Heap" "where", .meth "Heap" "remembered", .meth "Heap" "graph", .meth "Heap" "traced", .meth "Heap" "unreached", .meth "Heap" "counts", .meth "Heap" "minor", .meth "Heap" "settle", .meth "Heap" "begin", .meth "Heap" "slice", .meth "Heap" "whole", .meth "Heap" "is_marking", .meth "Heap" "picture"]
def fa : List Fa := fa0 ++ (fa1 ++ (fa2 ++ (fa3 ++ (fa4 ++ (fa5 ++ (fa6 ++ (fa7 ++ (fa8))))))))
abbrev R : PySem.W.OpenRow := PySem.W.OpenLaw.row PySem.Challenge.rw_movedrun_k42_ages_and_halves
abbrev Ob : Type := He.Al
def obs (K : PySem.W.Frag) : Ob := He.obsE fa fn K
def val (w : World) : Ob := He.valE fn
/-- what an object leads to -/
def leads (o : Obj) : List Addr := match o.data with
  | .dict es _ => es.toList.flatMap fun e => He.refV e.val
  | .func fd => He.refV fd.code ++ fd.closure.map (·.2)
  | .cls cd => cd.ns :: cd.mro.flatMap He.refV
  | _ => []
def onFrom (g : Addr → Option Obj) (as : List Addr) : List Addr := as.flatMap fun a => match g a with
  | some o => leads o
  | none => []
def layers (g : Addr → Option Obj) : Nat → List Addr → List Addr
  | 0, as => as
  | n + 1, as => as ++ layers g n (onFrom g as)
def at_ (g : Addr → Option Obj) : List Addr := cStatics :: layers g 4 [mainGlobals]
def obsG (g : Addr → Option Obj) : Ob := obs (He.frG g (at_ g))
def Says (w : World) (K : PySem.W.Frag) : Prop := obs K = val w
def hook : PySem.W.Hook where
  α := Ob
  obs := fun s => obsG s.heap.get?
  val := fun w => val w
  says := fun w h => ∃ K : PySem.W.Frag, K.In h ∧ Says w K
  of := fun _ _ e => ⟨_, He.frG_in, e⟩
  keeps := fun _ _ _ ⟨K, hK, c⟩ k => ⟨K, PySem.W.Frag.In.keeps hK k, c⟩
def ob (s : PySem.W.SharedT) : Ob := obsG (HandSHeadRun.getT s)
theorem ob_eq (s : PySem.W.SharedT) : ob s = hook.obs s.abs := by
  have e : HandSHeadRun.getT s = s.abs.heap.get? := funext (HandSHeadRun.getT_eq s)
  unfold ob
  rw [e]
  rfl
def names0 : List PySem.Str := ["_wall", "__name__", "MachineError", "BadShapes", "BadKind", "BadSize", "BadValue", "BadSizes", "BadRoots", "BadAddress", "BadSlot", "__name__"]
def names1 : List PySem.Str := ["LEAST_INT", "GREATEST_INT", "is_integer", "is_between", "is_tuple_to", "is_tuple_of", "MOST_ENTRIES", "__name__", "LINK_ROW", "SIGNS", "WHITE", "GREY"]
def names2 : List PySem.Str := ["BLACK", "HEAD_WORDS", "MOST_SHAPES", "MOST_SHAPE_FIELDS", "LEAST_NURSERY", "MOST_ROOM", "LEAST_GREAT", "MOST_AGE", "MOST_ROOTS", "look_at_shapes", "look_at_sizes", "look_at_kind"]
def names3 : List PySem.Str := ["look_at_size", "is_size", "look_at_roots", "are_roots", "shape_links", "is_link", "head_word", "kind_told", "age_told", "colour_told", "__name__", "move_young"]
def names4 : List PySem.Str := ["Moving", "__name__", "Memory", "__name__", "Heap", "__name__", "_law_feed", "_law_draw", "_law_one", "_law_shapes", "_law_sizes", "_law_same"]
def names5 : List PySem.Str := ["_law_address", "_law_words", "_law_roots", "_law_minor", "_law_made", "_law_deed", "_law_picture"]
def names : List PySem.Str := names0 ++ (names1 ++ (names2 ++ (names3 ++ (names4 ++ (names5)))))
abbrev qv : Program := PySem.W.view R.prog [67]
end HX

namespace HX
open PySem PySem.W PySem.Calls PyProof.Rows HandSHeadRun
set_option maxHeartbeats 0 in
theorem run (w : World) : RunEq R qv hook ob 15000 names w := by
  intro os
  kernel_rfl
end HX

/-! Data, draws, what is kept. -/
namespace PV
open PySem PySem.Spec PyProof.Rows L2
mutual
inductive Dv (H : Hp) : V → PyData → Prop
  | non : Dv H .non .none
  | bl (b : Bool) : Dv H (.bl b) (.bool b)
  | int (i : Int) : Dv H (.int i) (.int i)
  | str (z : Str) (hz : z.length ≤ 50000) : Dv H (.str z) (.str z)
  | tup {a : Addr} {xs : List V} {ds : List PyData} (h : H a = some (.tup xs)) (hl : xs.length ≤ 50000) (r : DvAll H xs ds) : Dv H (.ref a) (.tuple ds)
inductive DvAll (H : Hp) : List V → List PyData → Prop
  | nil : DvAll H [] []
  | cons {v : V} {vs : List V} {d : PyData} {ds : List PyData} (h : Dv H v d) (r : DvAll H vs ds) : DvAll H (v :: vs) (d :: ds)
end
mutual
theorem Dv.dp (K : PySem.W.Frag) {H : Hp} : ∀ {v : V} {d : PyData}, Dv H v d → Dp K H v d
  | _, _, .non => .non
  | _, _, .bl b => .bl b
  | _, _, .int i => .int i
  | _, _, .str z _ => .str z
  | _, _, .tup h _ r => .tup (SqT.of h) (DvAll.dp K r)
theorem DvAll.dp (K : PySem.W.Frag) {H : Hp} : ∀ {vs : List V} {ds : List PyData}, DvAll H vs ds → DpAll K H vs ds
  | _, _, .nil => .nil
  | _, _, .cons h r => .cons (Dv.dp K h) (DvAll.dp K r)
end
def TupSame (H H' : Hp) : Prop := ∀ a xs, H a = some (.tup xs) → H' a = some (.tup xs)
theorem TupSame.refl (H : Hp) : TupSame H H := fun _ _ e => e
theorem TupSame.trans {H H1 H2 : Hp} (a : TupSame H H1) (b : TupSame H1 H2) : TupSame H H2 := fun x xs e => b x xs (a x xs e)
theorem TupSame.of {H H' : Hp} (s : Same H H') : TupSame H H' := fun _ _ e => s _ _ e
mutual
theorem Dv.same {H H' : Hp} (s : TupSame H H') : ∀ {v : V} {d : PyData}, Dv H v d → Dv H' v d
  | _, _, .non => .non
  | _, _, .bl b => .bl b
  | _, _, .int i => .int i
  | _, _, .str z h => .str z h
  | _, _, .tup h hl r => .tup (s _ _ h) hl (DvAll.same s r)
theorem DvAll.same {H H' : Hp} (s : TupSame H H') : ∀ {vs : List V} {ds : List PyData}, DvAll H vs ds → DvAll H' vs ds
  | _, _, .nil => .nil
  | _, _, .cons h r => .cons (Dv.same s h) (DvAll.same s r)
end
theorem DvAll.len {H : Hp} : ∀ {vs : List V} {ds : List PyData}, DvAll H vs ds → vs.length = ds.length
  | _, _, .nil => rfl
  | _, _, .cons h r => congrArg (· + 1) r.len
theorem DvAll.get {H : Hp} : ∀ {vs : List V} {ds : List PyData} {i : Nat} {d : PyData}, DvAll H vs ds → ds[i]? = some d → ∃ v, vs[i]? = some v ∧ Dv H v d
  | _, _, _, _, .nil, e => by simp at e
  | _, _, 0, _, .cons h r, e => by
    simp at e
    rw [← e]
    exact ⟨_, rfl, h⟩
  | _, _, i + 1, _, .cons h r, e => by
    obtain ⟨v, e1, h1⟩ := r.get (i := i) (by simpa using e)
    exact ⟨v, by simpa using e1, h1⟩
/-- the words of a tuple -/
theorem Dv.tupE {H : Hp} {v : V} {ds : List PyData} (h : Dv H v (.tuple ds)) : ∃ a xs, v = .ref a ∧ H a = some (.tup xs) ∧ xs.length ≤ 50000 ∧ DvAll H xs ds := by
  cases h with
  | tup h hl r => exact ⟨_, _, rfl, h, hl, r⟩
theorem Dv.strE {H : Hp} {v : V} {z : Str} (h : Dv H v (.str z)) : v = .str z ∧ z.length ≤ 50000 := by
  cases h with
  | str _ hz => exact ⟨rfl, hz⟩
theorem DvAll.consE {H : Hp} {vs : List V} {d : PyData} {ds : List PyData} (h : DvAll H vs (d :: ds)) : ∃ u us, vs = u :: us ∧ Dv H u d ∧ DvAll H us ds := by
  cases h with
  | cons h r => exact ⟨_, _, rfl, h, r⟩
theorem DvAll.nilE {H : Hp} {vs : List V} (h : DvAll H vs []) : vs = [] := by cases h; rfl
end PV
namespace KI
open PySem PySem.Spec PyProof.Rows L2 PV
def isT : PyData → Bool
  | .tuple _ => true
  | _ => false
def isB : PyData → Bool
  | .bool _ => true
  | _ => false
/-- its type, as isinstance asks -/
theorem _root_.PV.Dv.ty {K : PySem.W.Frag} {H : Hp} {v : V} {d : PyData} (h : Dv H v d) : ∃ t : String, TyX K H v (.type t) ∧ PySem.W.kitOne K (.type t) (.type "bool") = some (isB d) ∧ PySem.W.kitOne K (.type t) (.type "tuple") = some (isT d) := by
  cases h with
  | non => exact ⟨"NoneType", .base .non, kit_ty (show kitB "NoneType" "bool" = some false by decide +kernel), kit_ty (show kitB "NoneType" "tuple" = some false by decide +kernel)⟩
  | bl b => exact ⟨"bool", .base (.bl b), kit_ty (show kitB "bool" "bool" = some true by decide +kernel), kit_ty (show kitB "bool" "tuple" = some false by decide +kernel)⟩
  | int i => exact ⟨"int", .base (.int i), kit_ty (show kitB "int" "bool" = some false by decide +kernel), kit_ty (show kitB "int" "tuple" = some false by decide +kernel)⟩
  | str z _ => exact ⟨"str", .base (.str z), kit_ty (show kitB "str" "bool" = some false by decide +kernel), kit_ty (show kitB "str" "tuple" = some false by decide +kernel)⟩
  | tup h _ r => exact ⟨"tuple", .base (.tup h), kit_ty (show kitB "tuple" "bool" = some false by decide +kernel), kit_ty (show kitB "tuple" "tuple" = some true by decide +kernel)⟩
theorem get2 {H : Hp} {vs : List V} {ds : List PyData} {i : Nat} {v : V} {d : PyData} (r : DvAll H vs ds) (e1 : vs[i]? = some v) (e2 : ds[i]? = some d) : Dv H v d := by
  obtain ⟨u, h1, h2⟩ := r.get e2
  rw [e1] at h1
  cases h1
  exact h2
theorem _root_.PV.DvAll.app {H : Hp} : ∀ {vs us : List V} {ds es : List PyData}, DvAll H vs ds → DvAll H us es → DvAll H (vs ++ us) (ds ++ es)
  | _, _, _, _, .nil, b => b
  | _, _, _, _, .cons h r, b => .cons h (r.app b)
theorem _root_.PV.DvAll.split {H : Hp} : ∀ {ds : List PyData} {e : PyData} {vs : List V}, DvAll H vs (ds ++ [e]) → ∃ us v, vs = us ++ [v] ∧ DvAll H us ds ∧ Dv H v e
  | [], e, _, .cons h .nil => ⟨[], _, rfl, .nil, h⟩
  | d :: ds, e, _, .cons h r => by
    obtain ⟨us, v, e1, r1, h1⟩ := r.split (ds := ds)
    exact ⟨_ :: us, v, by rw [e1]; rfl, .cons h r1, h1⟩
end KI
namespace KA
open T
open PySem L2
structure Gd (K : PySem.W.Frag) (mg : Str → Option Value) (x : Str) (st : Stmt) (ps : List Str) (f : Addr) (fd : FuncData) : Prop where
  F : Fun K x x st f fd
  g : mg x = some (.ref f)
  b : Binds K fd ps []
structure Md (K : PySem.W.Frag) (C : Addr) (x q : Str) (st : Stmt) (ps : List Str) (f : Addr) (fd : FuncData) : Prop where
  F : Fun K x q st f fd
  m : Meth K C x f
  b : Binds K fd ps []
/-- the feed at p, drawn from at most n times -/
def FeedAt (H : Hp) (p : Addr) (n : Nat) : Prop := ∃ a b c : Int, H p = some (.lst [.int a, .int b, .int c]) ∧ 0 ≤ a ∧ 0 ≤ b ∧ b < 10 ^ 40 ∧ 0 ≤ c ∧ c ≤ n
/-- all but p stands as it stood -/
def But (p : Addr) (H H' : Hp) : Prop := ∀ b, b ≠ p → H' b = H b
theorem But.refl (p : Addr) (H : Hp) : But p H H := fun _ _ => rfl
theorem But.trans {p : Addr} {H H1 H2 : Hp} (a : But p H H1) (b : But p H1 H2) : But p H H2 := fun c h => (b c h).trans (a c h)
theorem But.upd {p : Addr} {H : Hp} {o : HO} : But p H (upd H p o) := fun _ h => upd_ne h
theorem But.none {p q : Addr} {H H' : Hp} (a : But p H H') {o : HO} (hp : H p = some o) (h : H q = none) : H' q = none := by
  rw [a q (fun e => by rw [e, hp] at h; cases h)]
  exact h
theorem But.seq {K : PySem.W.Frag} {p q : Addr} {H H' : Hp} {xs : List V} (e : But p H H') (hq : q ≠ p) (h : SqL K H q xs) : SqL K H' q xs := by
  rcases h with (h | ⟨o, h⟩) | h
  · exact .inl (.inl ((e q hq).trans h))
  · exact .inl (.inr ⟨o, (e q hq).trans h⟩)
  · exact .inr h
theorem cut_ints (ns : List Int) (lo hi : Option Int) : ∃ ms : List Int, cutV (ns.map V.int) lo hi = ms.map V.int :=
  ⟨_, by unfold cutV; rw [← List.map_drop, ← List.map_take]⟩
def spFeed (K : PySem.W.Frag) : Sp := fun vs H Q _ => ∃ (a : Addr) (ns : List Int) (k : Nat), vs = [.ref a, .int k] ∧ SqL K H a (ns.map V.int) ∧ k ≤ 1000 ∧
  ∀ (p : Addr) (H' : Hp), H p = none → Same H H' → FeedAt H' p 0 → Q (.ref p) H'
def spDraw : Sp := fun vs H Q _ => ∃ (p : Addr) (m : Int) (n : Nat), vs = [.ref p, .int m] ∧ FeedAt H p n ∧ n ≤ 2 ^ 60 ∧ 0 < m ∧ m < 2 ^ 40 ∧
  ∀ (r : Int) (H' : Hp), 0 ≤ r → r < m → But p H H' → FeedAt H' p (n + 1) → Q (.int r) H'
/-- one of the things -/
def spOne (K : PySem.W.Frag) : Sp := fun vs H Q _ => ∃ (p : Addr) (n : Nat), FeedAt H p n ∧ n ≤ 2 ^ 60 ∧
  ((∃ (t : Addr) (xs : List V), vs = [.ref p, .ref t] ∧ t ≠ p ∧ SqL K H t xs ∧ 0 < xs.length ∧ xs.length < 2 ^ 30 ∧
    ∀ (x : V) (H' : Hp), x ∈ xs → But p H H' → FeedAt H' p (n + 1) → Q x H') ∨
   (∃ z : Str, vs = [.ref p, .str z] ∧ 0 < z.length ∧ z.length < 1000 ∧ ∀ (c : Nat) (H' : Hp), c ∈ z.cps.toList → But p H H' → FeedAt H' p (n + 1) → Q (.str ⟨#[c]⟩) H'))
section
variable {P : Program} {w : World} {K : PySem.W.Frag} {mg : Str → Option Value} {base : Heap}
theorem ok_feed {f : Addr} {fd : FuncData} (F : Fun K "_law_feed" "_law_feed" s_law_feed f fd) (mSum : mg "sum" = none) (mLen : mg "len" = none) (mMax : mg "max" = none) (mInt : mg "int" = none) : FnOk P w K mg base CX0 1 f fd ["_law_script", "_law_k"] (spFeed K) := by
  refine F.ok sc_law_feed (fun vs H Q E h => ?_) (fun cdv A outer s H vs Q E hr h => ?_)
  · obtain ⟨a, ns, k, rfl, _⟩ := h
    rfl
  · obtain ⟨a, ns, k, rfl, hS, hk, q⟩ := h
    refine ⟨_, pss_cons (ps_set (i := 2) sc_law_feed.nd rfl (Or.inl rfl) (pe_op op_add (pe_op op_mul pe_int (pv 1)) (pe_callB (cr_sum rfl) (by rfl) mSum (by decide +kernel) (pa_cons (pe_slice sl_list (pv 0) po_none (po_some pe_int)) pa_nil))))
      (pss_cons (ps_if (pt_cmpR op_lt (pv 1) (pe_callB call_len_seq (by rfl) mLen PySem.boot_len (pa_cons (pv 0) pa_nil)) (nomark _))
        (pss_one (ps_set (i := 2) sc_law_feed.nd rfl (Or.inl rfl) (pe_ix ix_list (pv 0) (pv 1) (fun _ _ => rfl)))) pss_nil)
      (pss_one (ps_ret (pe_lst (pa_cons (pe_callB (call_max2 rfl) (by rfl) mMax (by decide +kernel) (pa_cons pe_int (pa_cons (pe_op op_sub (pv 2) (pe_op op_pow pe_int pe_int)) pa_nil)))
        (pa_cons (pe_op op_mod (pe_callTy call_int1 (by rfl) mInt (by decide +kernel) (pa_cons (pe_op op_add (pe_op op_mul (pv 2) pe_int) (pe_op op_mul pe_int (pv 1))) pa_nil)) (pe_op op_add (pe_op op_pow pe_int pe_int) pe_int))
        (pa_cons pe_int pa_nil))))))), ?_⟩
    obtain ⟨ms, em⟩ := cut_ints ns none (some 1)
    refine ⟨_, rfl, _, _, rfl, rfl, .inl ⟨by decide, by decide⟩, .ref a, rfl, 1, rfl, a, _, rfl, hS, fun c nc => ?_⟩
    rw [em]
    refine ⟨c, ms, rfl, SqL.of upd_same, _, _, rfl, rfl, ?_⟩
    have s1 : Same H (upd H c (.lst (ms.map V.int))) := fun b o e => by rw [upd_ne (ne_of_none e nc)]; exact e
    have hS1 := s1.seq hS
    refine ⟨_, rfl, .ref a, rfl, a, _, rfl, .inl hS1, _, _, rfl, rfl, _, rfl, ?_⟩
    have fin : ∀ z : Int, tRet (tLst (tCons (tCB (fun xs H Q => ∃ i j, xs = [.int i, .int j] ∧ Q (.int (if j > i then j else i)) H) (tCons (tC (.int 0)) (tCons (tOp (rI0 fun i j => .int (i - j)) (tVar 2) (tOp (rI CPow fun i j => .int (i ^ j.toNat)) (tC (.int 10)) (tC (.int 18)))) tNil)))
        (tCons (tOp (rI (fun _ j => 0 < j) fun i j => .int (i % j)) (tCB (fun xs H Q => (∃ i, xs = [.int i] ∧ Q (.int i) H) ∨ ∃ k, xs = [.bl k] ∧ Q (.int (if k then 1 else 0)) H) (tCons (tOp (rI0 fun i j => .int (i + j)) (tOp (rI CMul fun i j => .int (i * j)) (tVar 2) (tC (.int 19))) (tOp (rI CMul fun i j => .int (i * j)) (tC (.int 7)) (tVar 1))) tNil))
          (tOp (rI0 fun i j => .int (i + j)) (tOp (rI CPow fun i j => .int (i ^ j.toNat)) (tC (.int 10)) (tC (.int 39))) (tC (.int 23))))
        (tCons (tC (.int 0)) tNil)))) { nx := fun _ H' => Q .non H', rt := Q } [some (.ref a), some (.int k), some (.int z)] (upd H c (.lst (ms.map V.int))) := by
      intro z
      refine ⟨_, rfl, _, _, rfl, rfl, ⟨by decide, by decide, by decide⟩, _, _, rfl, rfl, _, _, rfl, ?_⟩
      refine ⟨_, rfl, _, _, rfl, rfl, .inr ⟨by decide, by decide⟩, _, rfl, _, _, rfl, rfl, .inl ⟨by decide, by decide⟩, _, _, rfl, rfl, .inl ⟨_, rfl, ?_⟩⟩
      refine ⟨_, _, rfl, rfl, ⟨by decide, by decide, by decide⟩, _, _, rfl, rfl, _, _, rfl, rfl, (by show (0 : Int) < 10 ^ Int.toNat 39 + 23; decide +kernel), (by show 3 ≤ sizeLine; decide), fun p np => ?_⟩
      have pc : p ≠ c := fun e => by rw [e, upd_same] at np; cases np
      refine q p _ (by rw [upd_ne pc] at np; exact np) (fun b o e => ?_) ⟨_, _, 0, upd_same, ?_, ?_, ?_, Int.le_refl _, Int.le_refl _⟩
      · rw [upd_ne (ne_of_none (s1 b o e) np)]
        exact s1 b o e
      · show (0 : Int) ≤ if _ > (0 : Int) then _ else 0
        split <;> omega
      · exact Int.emod_nonneg _ (by decide +kernel)
      · refine Int.lt_trans (Int.emod_lt_of_pos _ (by decide +kernel)) (by decide +kernel)
    refine ite2 (fun e => ?_) (fun e => ?_)
    · have hlt : k < ns.length := by
        have := of_decide_eq_true e
        rw [List.length_map] at this
        omega
      refine ⟨.ref a, rfl, .int k, rfl, a, _, _, V.int ns[k], rfl, rfl, hS1, atI_nat ?_, fin _⟩
      rw [List.getElem?_map, List.getElem?_eq_getElem hlt]
      rfl
    · exact fin _
theorem ok_draw {f : Addr} {fd : FuncData} (F : Fun K "_law_draw" "_law_draw" s_law_draw f fd) (mInt : mg "int" = none) : FnOk P w K mg base CX0 1 f fd ["_law_feed_here", "_law_many"] spDraw := by
  refine F.ok sc_law_draw (fun vs H Q E h => ?_) (fun cdv A outer s H vs Q E hr h => ?_)
  · obtain ⟨p, m, n, rfl, _⟩ := h
    rfl
  · obtain ⟨p, m, n, rfl, ⟨a, b, c, hp, ha, hb, hb2, hc, hc2⟩, hn, hm, hm2, q⟩ := h
    refine ⟨_, pss_cons (ps_if (pt_cmpR op_gt (pe_ix ix_list (pv 0) pe_int (fun _ _ => rfl)) pe_int (nomark _))
        (pss_cons (ps_set (i := 2) sc_law_draw.nd rfl (Or.inl rfl) (pe_op op_fdivW (pe_ix ix_list (pv 0) pe_int (fun _ _ => rfl)) (pv 1)))
        (pss_cons (ps_set (i := 3) sc_law_draw.nd rfl (Or.inl rfl) (pe_op op_sub (pe_ix ix_list (pv 0) pe_int (fun _ _ => rfl)) (pe_op op_mul (pv 2) (pv 1))))
        (pss_cons (ps_asg (pv 2) (pg_sub (pv 0) pe_int set_list))
        (pss_one (ps_ret (pv 3)))))) pss_nil)
      (pss_cons (ps_asg (pe_op op_add (pe_ix ix_list (pv 0) pe_int (fun _ _ => rfl)) pe_int) (pg_sub (pv 0) pe_int set_list))
      (pss_cons (ps_set (i := 4) sc_law_draw.nd rfl (Or.inl rfl) (pe_op op_add (pe_ix ix_list (pv 0) pe_int (fun _ _ => rfl)) (pe_op op_mul pe_int (pe_ix ix_list (pv 0) pe_int (fun _ _ => rfl)))))
      (pss_cons (ps_set (i := 4) sc_law_draw.nd rfl (Or.inl rfl) (pe_op op_mod (pe_callTy call_int1 (by rfl) mInt (by decide +kernel) (pa_cons (pe_op op_add (pe_op op_mulW (pe_op op_mulW (pv 4) (pv 4)) (pv 4)) (pe_op op_mul pe_int (pe_ix ix_list (pv 0) pe_int (fun _ _ => rfl)))) pa_nil)) (pe_op op_add (pe_op op_pow pe_int pe_int) pe_int)))
      (pss_cons (ps_set (i := 4) sc_law_draw.nd rfl (Or.inl rfl) (pe_op op_mod (pe_callTy call_int1 (by rfl) mInt (by decide +kernel) (pa_cons (pe_op op_add (pe_op op_mulW (pv 4) (pv 4)) pe_int) pa_nil)) (pe_op op_add (pe_op op_pow pe_int pe_int) pe_int)))
      (pss_one (ps_ret (pe_op op_mod (pe_callTy call_int1 (by rfl) mInt (by decide +kernel) (pa_cons (pe_op op_fdiv (pv 4) (pe_op op_pow pe_int pe_int)) pa_nil)) (pv 1)))))))), ?_⟩
    refine ⟨_, rfl, p, _, 0, .int a, rfl, rfl, SqL.of hp, rfl, _, _, rfl, rfl, _, rfl, ?_⟩
    refine ite2 (fun e => ?_) (fun e => ?_)
    · refine ⟨_, rfl, p, _, 0, .int a, rfl, rfl, SqL.of hp, rfl, _, rfl, _, _, rfl, rfl, wide_div (b := 40) hm (by omega) (by decide) (by decide), ?_⟩
      refine ⟨_, rfl, p, _, 0, .int a, rfl, rfl, SqL.of hp, rfl, _, rfl, _, rfl, _, _, rfl, rfl, .inr ⟨by omega, by omega⟩, _, _, rfl, rfl, ?_⟩
      refine ⟨_, rfl, _, rfl, p, _, 0, 0, rfl, rfl, hp, rfl, ?_⟩
      have h1 := Int.emod_add_mul_ediv a m
      have h2 := Int.emod_nonneg a (b := m) (by omega)
      have h3 := Int.emod_lt_of_pos a hm
      have h4 : a / m * m = m * (a / m) := Int.mul_comm _ _
      refine ⟨_, rfl, q _ _ (by omega) (by omega) But.upd ⟨a / m, b, c, upd_same, Int.ediv_nonneg ha (by omega), hb, hb2, hc, by omega⟩⟩
    · refine ⟨_, rfl, p, _, 2, .int c, rfl, rfl, SqL.of hp, rfl, _, _, rfl, rfl, _, rfl, p, _, 2, 2, rfl, rfl, hp, rfl, ?_⟩
      refine ⟨_, rfl, p, _, 1, .int b, rfl, rfl, SqL.of upd_same, rfl, _, rfl, p, _, 2, .int (c + 1), rfl, rfl, SqL.of upd_same, rfl, _, _, rfl, rfl, .inl ⟨by decide, by decide⟩, _, _, rfl, rfl, ?_⟩
      have z1 : (b + 6700417 * (c + 1)).natAbs < 2 ^ 140 := by
        have : (10 : Int) ^ 40 < 2 ^ 139 := by decide +kernel
        have : (2 : Int) ^ 139 + 2 ^ 90 < 2 ^ 140 := by decide +kernel
        have : (2 : Int) ^ 60 * 6700417 + 6700417 < 2 ^ 90 := by decide +kernel
        have : ((2 ^ 140 : Nat) : Int) = 2 ^ 140 := by decide +kernel
        omega
      refine ⟨_, rfl, _, rfl, _, _, rfl, rfl, wide_mul (a := 140) (b := 140) z1 z1 (by decide) (by decide) (by decide), _, rfl, _, _, rfl, rfl,
        wide_mul (a := 280) (b := 140) (by rw [Int.natAbs_mul]; exact Nat.lt_of_lt_of_le (Nat.mul_lt_mul'' z1 z1) (by decide +kernel)) z1 (by decide) (by decide) (by decide), ?_⟩
      refine ⟨_, rfl, p, _, 2, .int (c + 1), rfl, rfl, SqL.of upd_same, rfl, _, _, rfl, rfl, .inl ⟨by decide, by decide⟩, _, _, rfl, rfl, .inl ⟨_, rfl, ?_⟩⟩
      refine ⟨_, _, rfl, rfl, ⟨by decide, by decide, by decide⟩, _, _, rfl, rfl, _, _, rfl, rfl, (by show (0 : Int) < 10 ^ Int.toNat 43 + 57; decide +kernel), ?_⟩
      have z2 : ∀ x : Int, (x % (10 ^ Int.toNat 43 + 57)).natAbs < 2 ^ 150 := fun x => by
        have e1 := Int.emod_nonneg x (b := 10 ^ Int.toNat 43 + 57) (by decide +kernel)
        have e2 := Int.emod_lt_of_pos x (b := 10 ^ Int.toNat 43 + 57) (by decide +kernel)
        have e3 : (10 : Int) ^ Int.toNat 43 + 57 < 2 ^ 150 := by decide +kernel
        have e4 : ((2 ^ 150 : Nat) : Int) = 2 ^ 150 := by decide +kernel
        omega
      refine ⟨_, rfl, _, rfl, _, _, rfl, rfl, wide_mul (a := 150) (b := 150) (z2 _) (z2 _) (by decide) (by decide) (by decide), _, _, rfl, rfl, .inl ⟨_, rfl, ?_⟩⟩
      refine ⟨_, _, rfl, rfl, ⟨by decide, by decide, by decide⟩, _, _, rfl, rfl, _, _, rfl, rfl, (by show (0 : Int) < 10 ^ Int.toNat 38 + 133; decide +kernel), ?_⟩
      refine ⟨_, rfl, _, _, rfl, rfl, ⟨by decide, by decide, by decide⟩, _, _, rfl, rfl, ⟨by decide +kernel, by decide +kernel⟩, .inl ⟨_, rfl, ?_⟩⟩
      refine ⟨_, rfl, _, _, rfl, rfl, hm, q _ _ (Int.emod_nonneg _ (by omega)) (Int.emod_lt_of_pos _ hm) But.upd ⟨a, b, c + 1, upd_same, ha, hb, hb2, by omega, by omega⟩⟩
theorem ok_one {f fD : Addr} {fd fdD : FuncData} (F : Fun K "_law_one" "_law_one" s_law_one f fd) (FD : Fun K "_law_draw" "_law_draw" s_law_draw fD fdD) (bD : Binds K fdD ["_law_feed_here", "_law_many"] []) (gD : mg "_law_draw" = some (.ref fD)) (mInt : mg "int" = none) (mLen : mg "len" = none) :
    FnOk P w K mg base CX0 2 f fd ["_law_feed_here", "_law_things"] (spOne K) := by
  have GD : FnOk P w K mg base CX0 1 fD fdD ["_law_feed_here", "_law_many"] spDraw := ok_draw FD mInt
  refine F.ok sc_law_one (fun vs H Q E h => ?_) (fun cdv A outer s H vs Q E hr h => ?_)
  · obtain ⟨p, n, _, _, ⟨t, xs, rfl, _⟩ | ⟨z, rfl, _⟩⟩ := h <;> rfl
  · obtain ⟨p, n, hF, hn, h⟩ := h
    refine ⟨_, pss_one (ps_ret (pe_ix ix_seq (pv 1) (pe_call GD hr (by rfl) gD FD.kp bD .nil pass0 (pa_cons (pv 0) (pa_cons (pe_callB call_len (by rfl) mLen PySem.boot_len (pa_cons (pv 1) pa_nil)) pa_nil))) (fun _ _ => rfl))), ?_⟩
    rcases h with ⟨t, xs, rfl, ht, hs, h0, h1, q⟩ | ⟨z, rfl, h0, h1, q⟩
    · refine ⟨.ref t, rfl, .ref p, rfl, .ref t, rfl, .ref t, xs.length, rfl, .inl ⟨_, hs, rfl⟩, ?_⟩
      refine ⟨p, xs.length, n, rfl, hF, hn, by omega, by omega, fun r H' r0 r1 bt hF' => ?_⟩
      obtain ⟨j, rfl⟩ : ∃ j : Nat, r = j := ⟨r.toNat, by omega⟩
      have hj : j < xs.length := by omega
      exact .inl ⟨t, xs, j, _, rfl, rfl, bt.seq ht hs, atI_nat (List.getElem?_eq_getElem hj), q xs[j] H' (List.getElem_mem _) bt hF'⟩
    · refine ⟨.str z, rfl, .ref p, rfl, .str z, rfl, .str z, z.length, rfl, ⟨Nat.le_of_lt (small1000 (by omega)), rfl⟩, ?_⟩
      refine ⟨p, z.length, n, rfl, hF, hn, by omega, by omega, fun r H' r0 r1 bt hF' => ?_⟩
      obtain ⟨j, rfl⟩ : ∃ j : Nat, r = j := ⟨r.toNat, by omega⟩
      have hj : j < z.cps.toList.length := by
        have : z.cps.toList.length = z.length := rfl
        omega
      exact .inr (.inr ⟨z, j, z.cps.toList[j], rfl, rfl, Nat.le_of_lt (small1000 (by omega)), atI_nat (List.getElem?_eq_getElem hj), q _ H' (List.getElem_mem _) bt hF'⟩)
end
end KA
namespace KK
open PySem PySem.Spec PyProof.Rows L2 KA KI PV T
/-- all but p is kept -/
def Kept (p : Addr) (H H' : Hp) : Prop := ∀ b o, b ≠ p → H b = some o → H' b = some o
theorem Kept.trans {p : Addr} {H H1 H2 : Hp} (a : Kept p H H1) (b : Kept p H1 H2) : Kept p H H2 := fun c o n h => b c o n (a c o n h)
theorem Kept.of_but {p : Addr} {H H' : Hp} (b : But p H H') : Kept p H H' := fun c o n h => (b c n).trans h
theorem Kept.of_same {p : Addr} {H H' : Hp} (b : Same H H') : Kept p H H' := fun c o n h => b c o h
theorem Kept.new {p q : Addr} {H : Hp} {o : HO} (h : H q = none) : Kept p H (upd H q o) := fun b u n e => by rw [upd_ne (ne_of_none e h)]; exact e
theorem Kept.tups {p : Addr} {H H' : Hp} {n : Nat} (k : Kept p H H') (hF : FeedAt H p n) : TupSame H H' := fun a xs e => by
  obtain ⟨x, y, z, h, _⟩ := hF
  exact k a _ (ne_of e h (by intro z; cases z)) e
theorem feed_new {H : Hp} {p q : Addr} {n : Nat} {o : HO} (hF : FeedAt H p n) (h : H q = none) : FeedAt (upd H q o) p n := by
  obtain ⟨x, y, z, e, r⟩ := hF
  exact ⟨x, y, z, by rw [upd_ne (ne_of_none e h)]; exact e, r⟩
theorem feed_ne {H : Hp} {p q : Addr} {n : Nat} (hF : FeedAt H p n) (h : H q = none) : q ≠ p := by
  obtain ⟨x, y, z, e, r⟩ := hF
  exact (ne_of_none e h).symm
theorem draw_k {H : Hp} {p : Addr} {m : Int} {n : Nat} {Q : VK} {E : XK} (hF : FeedAt H p n) (hn : n ≤ 2 ^ 60) (h0 : 0 < m) (h1 : m < 2 ^ 30) (k : ∀ (r : Int) (H' : Hp), 0 ≤ r → r < m → Kept p H H' → FeedAt H' p (n + 1) → Q (.int r) H') :
    spDraw [.ref p, .int m] H Q E := ⟨p, m, n, rfl, hF, hn, h0, by omega, fun r H' a b c d => k r H' a b (.of_but c) d⟩
theorem one_lst {K : PySem.W.Frag} {H : Hp} {p L : Addr} {n : Nat} {xs : List V} {Q : VK} {E : XK} (hF : FeedAt H p n) (hn : n ≤ 2 ^ 60) (nL : H L = none) (h0 : 0 < xs.length) (h1 : xs.length < 2 ^ 30)
    (k : ∀ (x : V) (H' : Hp), x ∈ xs → Kept p H H' → FeedAt H' p (n + 1) → Q x H') : spOne K [.ref p, .ref L] (upd H L (.lst xs)) Q E :=
  ⟨p, n, feed_new hF nL, hn, .inl ⟨L, xs, rfl, feed_ne hF nL, SqL.of upd_same, h0, h1, fun x H' hx bt hF' => k x H' hx ((Kept.new nL).trans (.of_but bt)) hF'⟩⟩
theorem kept_free {H H' : Hp} {p a : Addr} {m : Nat} (k : Kept p H H') (hF : FeedAt H' p m) (h : H' a = none) : H a = none := by
  cases e : H a with
  | none => rfl
  | some o =>
    rw [k a o (feed_ne hF h) e] at h
    cases h
structure Lw (K : PySem.W.Frag) (mg : Str → Option Value) (C_Moving C_Memory C_Heap : Addr) : Prop where
  b_bool : mg "bool" = none
  b_enumerate : mg "enumerate" = none
  b_int : mg "int" = none
  b_isinstance : mg "isinstance" = none
  b_len : mg "len" = none
  b_list : mg "list" = none
  b_max : mg "max" = none
  b_min : mg "min" = none
  b_range : mg "range" = none
  b_sorted : mg "sorted" = none
  b_str : mg "str" = none
  b_sum : mg "sum" = none
  b_tuple : mg "tuple" = none
  c_LEAST_INT : ∃ t, mg "LEAST_INT" = some (.int (-2147483648) t)
  c_GREATEST_INT : ∃ t, mg "GREATEST_INT" = some (.int (2147483647) t)
  c_MOST_ENTRIES : ∃ t, mg "MOST_ENTRIES" = some (.int (1000) t)
  c_LINK_ROW : ∃ t, mg "LINK_ROW" = some (.int (-2) t)
  c_SIGNS : ∃ t, mg "SIGNS" = some (.int (-3) t)
  c_WHITE : ∃ t, mg "WHITE" = some (.int (0) t)
  c_GREY : ∃ t, mg "GREY" = some (.int (1) t)
  c_BLACK : ∃ t, mg "BLACK" = some (.int (2) t)
  c_HEAD_WORDS : ∃ t, mg "HEAD_WORDS" = some (.int (2) t)
  c_MOST_SHAPES : ∃ t, mg "MOST_SHAPES" = some (.int (60) t)
  c_MOST_SHAPE_FIELDS : ∃ t, mg "MOST_SHAPE_FIELDS" = some (.int (100) t)
  c_LEAST_NURSERY : ∃ t, mg "LEAST_NURSERY" = some (.int (16) t)
  c_MOST_ROOM : ∃ t, mg "MOST_ROOM" = some (.int (4096) t)
  c_LEAST_GREAT : ∃ t, mg "LEAST_GREAT" = some (.int (4) t)
  c_MOST_AGE : ∃ t, mg "MOST_AGE" = some (.int (7) t)
  c_MOST_ROOTS : ∃ t, mg "MOST_ROOTS" = some (.int (40000) t)
  f__wall : ∃ f d, Gd K mg "_wall" s__wall ["k"] f d
  f_is_integer : ∃ f d, Gd K mg "is_integer" s_is_integer ["thing"] f d
  f_is_between : ∃ f d, Gd K mg "is_between" s_is_between ["thing", "least", "greatest"] f d
  f_is_tuple_to : ∃ f d, Gd K mg "is_tuple_to" s_is_tuple_to ["thing", "most"] f d
  f_is_tuple_of : ∃ f d, Gd K mg "is_tuple_of" s_is_tuple_of ["thing", "many"] f d
  f_look_at_shapes : ∃ f d, Gd K mg "look_at_shapes" s_look_at_shapes ["shapes"] f d
  f_look_at_sizes : ∃ f d, Gd K mg "look_at_sizes" s_look_at_sizes ["sizes"] f d
  f_look_at_kind : ∃ f d, Gd K mg "look_at_kind" s_look_at_kind ["shapes", "kind"] f d
  f_look_at_size : ∃ f d, Gd K mg "look_at_size" s_look_at_size ["shapes", "kind", "slots"] f d
  f_is_size : ∃ f d, Gd K mg "is_size" s_is_size ["shapes", "kind", "slots"] f d
  f_look_at_roots : ∃ f d, Gd K mg "look_at_roots" s_look_at_roots ["roots", "holder"] f d
  f_are_roots : ∃ f d, Gd K mg "are_roots" s_are_roots ["roots", "holder"] f d
  f_shape_links : ∃ f d, Gd K mg "shape_links" s_shape_links ["shape"] f d
  f_is_link : ∃ f d, Gd K mg "is_link" s_is_link ["shapes", "kind", "slot"] f d
  f_head_word : ∃ f d, Gd K mg "head_word" s_head_word ["kind", "age", "colour"] f d
  f_kind_told : ∃ f d, Gd K mg "kind_told" s_kind_told ["head"] f d
  f_age_told : ∃ f d, Gd K mg "age_told" s_age_told ["head"] f d
  f_colour_told : ∃ f d, Gd K mg "colour_told" s_colour_told ["head"] f d
  f_move_young : ∃ f d, Gd K mg "move_young" s_move_young ["memory", "roots", "is_settling"] f d
  f__law_feed : ∃ f d, Gd K mg "_law_feed" s_law_feed ["_law_script", "_law_k"] f d
  f__law_draw : ∃ f d, Gd K mg "_law_draw" s_law_draw ["_law_feed_here", "_law_many"] f d
  f__law_one : ∃ f d, Gd K mg "_law_one" s_law_one ["_law_feed_here", "_law_things"] f d
  f__law_shapes : ∃ f d, Gd K mg "_law_shapes" s_law_shapes ["_law_feed_here"] f d
  f__law_sizes : ∃ f d, Gd K mg "_law_sizes" s_law_sizes ["_law_feed_here"] f d
  f__law_same : ∃ f d, Gd K mg "_law_same" s_law_same ["_law_told", "_law_due"] f d
  f__law_address : ∃ f d, Gd K mg "_law_address" s_law_address ["_law_rooms", "_law_sizes_here", "_law_which", "_law_one_here"] f d
  f__law_words : ∃ f d, Gd K mg "_law_words" s_law_words ["_law_room"] f d
  f__law_roots : ∃ f d, Gd K mg "_law_roots" s_law_roots ["_law_rooms", "_law_sizes_here", "_law_which", "_law_held"] f d
  f__law_minor : ∃ f d, Gd K mg "_law_minor" s_law_minor ["_law_rooms", "_law_sizes_here", "_law_held"] f d
  f__law_made : ∃ f d, Gd K mg "_law_made" s_law_made ["_law_feed_here", "_law_heap", "_law_state", "_law_sizes_here"] f d
  f__law_deed : ∃ f d, Gd K mg "_law_deed" s_law_deed ["_law_feed_here", "_law_heap", "_law_state", "_law_sizes_here"] f d
  f__law_picture : ∃ f d, Gd K mg "_law_picture" s_law_picture ["_law_state"] f d
  f_law : ∃ f d, Gd K mg "law" s_law ["_law_script"] f d
  cl_Moving : Cls K C_Moving
  g_Moving : mg "Moving" = some (.ref C_Moving)
  n_Moving_memory : NoAttr K C_Moving "memory"
  n_Moving_is_settling : NoAttr K C_Moving "is_settling"
  n_Moving_half : NoAttr K C_Moving "half"
  n_Moving_moved : NoAttr K C_Moving "moved"
  n_Moving_to_half : NoAttr K C_Moving "to_half"
  n_Moving_to_old : NoAttr K C_Moving "to_old"
  i_Moving : ∃ f d, Mk K C_Moving f ∧ Fun K "__init__" "Moving.__init__" s_Moving_init f d ∧ Binds K d ["self", "memory", "is_settling"] []
  m_Moving_led : ∃ f d, Md K C_Moving "led" "Moving.led" s_Moving_led ["self", "reference"] f d
  m_Moving_move : ∃ f d, Md K C_Moving "move" "Moving.move" s_Moving_move ["self", "address"] f d
  m_Moving_lead_moved : ∃ f d, Md K C_Moving "lead_moved" "Moving.lead_moved" s_Moving_lead_moved ["self"] f d
  m_Moving_lead_slots : ∃ f d, Md K C_Moving "lead_slots" "Moving.lead_slots" s_Moving_lead_slots ["self", "address"] f d
  m_Moving_finish : ∃ f d, Md K C_Moving "finish" "Moving.finish" s_Moving_finish ["self"] f d
  cl_Memory : Cls K C_Memory
  g_Memory : mg "Memory" = some (.ref C_Memory)
  n_Memory_shapes : NoAttr K C_Memory "shapes"
  n_Memory_sizes : NoAttr K C_Memory "sizes"
  n_Memory_great : NoAttr K C_Memory "great"
  n_Memory_age : NoAttr K C_Memory "age"
  n_Memory_firsts : NoAttr K C_Memory "firsts"
  n_Memory_first_old : NoAttr K C_Memory "first_old"
  n_Memory_shapes_links : NoAttr K C_Memory "shapes_links"
  n_Memory_words : NoAttr K C_Memory "words"
  n_Memory_nexts : NoAttr K C_Memory "nexts"
  n_Memory_half : NoAttr K C_Memory "half"
  n_Memory_young : NoAttr K C_Memory "young"
  n_Memory_old : NoAttr K C_Memory "old"
  n_Memory_remembered : NoAttr K C_Memory "remembered"
  n_Memory_grey : NoAttr K C_Memory "grey"
  n_Memory_done : NoAttr K C_Memory "done"
  n_Memory_marks : NoAttr K C_Memory "marks"
  n_Memory_ended : NoAttr K C_Memory "ended"
  i_Memory : ∃ f d, Mk K C_Memory f ∧ Fun K "__init__" "Memory.__init__" s_Memory_init f d ∧ Binds K d ["self", "shapes", "sizes"] []
  m_Memory_is_object : ∃ f d, Md K C_Memory "is_object" "Memory.is_object" s_Memory_is_object ["self", "address"] f d
  m_Memory_is_young : ∃ f d, Md K C_Memory "is_young" "Memory.is_young" s_Memory_is_young ["self", "reference"] f d
  m_Memory_kind : ∃ f d, Md K C_Memory "kind" "Memory.kind" s_Memory_kind ["self", "address"] f d
  m_Memory_slots : ∃ f d, Md K C_Memory "slots" "Memory.slots" s_Memory_slots ["self", "address"] f d
  m_Memory_age_of : ∃ f d, Md K C_Memory "age_of" "Memory.age_of" s_Memory_age_of ["self", "address"] f d
  m_Memory_size : ∃ f d, Md K C_Memory "size" "Memory.size" s_Memory_size ["self", "address"] f d
  m_Memory_link_places : ∃ f d, Md K C_Memory "link_places" "Memory.link_places" s_Memory_link_places ["self", "address"] f d
  m_Memory_is_great : ∃ f d, Md K C_Memory "is_great" "Memory.is_great" s_Memory_is_great ["self", "slots"] f d
  m_Memory_fits : ∃ f d, Md K C_Memory "fits" "Memory.fits" s_Memory_fits ["self", "room", "many"] f d
  m_Memory_lay_young : ∃ f d, Md K C_Memory "lay_young" "Memory.lay_young" s_Memory_lay_young ["self", "room", "words"] f d
  m_Memory_lay_old : ∃ f d, Md K C_Memory "lay_old" "Memory.lay_old" s_Memory_lay_old ["self", "words"] f d
  m_Memory_make : ∃ f d, Md K C_Memory "make" "Memory.make" s_Memory_make ["self", "kind", "slots"] f d
  m_Memory_set_link : ∃ f d, Md K C_Memory "set_link" "Memory.set_link" s_Memory_set_link ["self", "address", "place", "reference"] f d
  m_Memory_is_white : ∃ f d, Md K C_Memory "is_white" "Memory.is_white" s_Memory_is_white ["self", "reference"] f d
  m_Memory_shade : ∃ f d, Md K C_Memory "shade" "Memory.shade" s_Memory_shade ["self", "reference"] f d
  m_Memory_grey_row : ∃ f d, Md K C_Memory "grey_row" "Memory.grey_row" s_Memory_grey_row ["self"] f d
  m_Memory_room : ∃ f d, Md K C_Memory "room" "Memory.room" s_Memory_room ["self", "room"] f d
  m_Memory_old_room : ∃ f d, Md K C_Memory "old_room" "Memory.old_room" s_Memory_old_room ["self"] f d
  cl_Heap : Cls K C_Heap
  g_Heap : mg "Heap" = some (.ref C_Heap)
  n_Heap_memory : NoAttr K C_Heap "memory"
  i_Heap : ∃ f d, Mk K C_Heap f ∧ Fun K "__init__" "Heap.__init__" s_Heap_init f d ∧ Binds K d ["self", "shapes", "sizes"] []
  m_Heap_make : ∃ f d, Md K C_Heap "make" "Heap.make" s_Heap_make ["self", "kind", "slots", "roots"] f d
  m_Heap_has_room : ∃ f d, Md K C_Heap "has_room" "Heap.has_room" s_Heap_has_room ["self", "slots"] f d
  m_Heap_moved_young : ∃ f d, Md K C_Heap "moved_young" "Heap.moved_young" s_Heap_moved_young ["self", "roots"] f d
  m_Heap_look_at : ∃ f d, Md K C_Heap "look_at" "Heap.look_at" s_Heap_look_at ["self", "roots"] f d
  m_Heap_look_at_address : ∃ f d, Md K C_Heap "look_at_address" "Heap.look_at_address" s_Heap_look_at_address ["self", "address"] f d
  m_Heap_look_at_slot : ∃ f d, Md K C_Heap "look_at_slot" "Heap.look_at_slot" s_Heap_look_at_slot ["self", "address", "slot"] f d
  m_Heap_kind : ∃ f d, Md K C_Heap "kind" "Heap.kind" s_Heap_kind ["self", "address"] f d
  m_Heap_slots : ∃ f d, Md K C_Heap "slots" "Heap.slots" s_Heap_slots ["self", "address"] f d
  m_Heap_get : ∃ f d, Md K C_Heap "get" "Heap.get" s_Heap_get ["self", "address", "slot"] f d
  m_Heap_put : ∃ f d, Md K C_Heap "put" "Heap.put" s_Heap_put ["self", "address", "slot", "value"] f d
  m_Heap_where : ∃ f d, Md K C_Heap "where" "Heap.where" s_Heap_where ["self", "address"] f d
  m_Heap_remembered : ∃ f d, Md K C_Heap "remembered" "Heap.remembered" s_Heap_remembered ["self"] f d
  m_Heap_graph : ∃ f d, Md K C_Heap "graph" "Heap.graph" s_Heap_graph ["self", "roots"] f d
  m_Heap_traced : ∃ f d, Md K C_Heap "traced" "Heap.traced" s_Heap_traced ["self", "roots"] f d
  m_Heap_unreached : ∃ f d, Md K C_Heap "unreached" "Heap.unreached" s_Heap_unreached ["self", "roots"] f d
  m_Heap_counts : ∃ f d, Md K C_Heap "counts" "Heap.counts" s_Heap_counts ["self"] f d
  m_Heap_minor : ∃ f d, Md K C_Heap "minor" "Heap.minor" s_Heap_minor ["self", "roots"] f d
  m_Heap_settle : ∃ f d, Md K C_Heap "settle" "Heap.settle" s_Heap_settle ["self", "roots"] f d
  m_Heap_begin : ∃ f d, Md K C_Heap "begin" "Heap.begin" s_Heap_begin ["self", "roots"] f d
  m_Heap_slice : ∃ f d, Md K C_Heap "slice" "Heap.slice" s_Heap_slice ["self", "count", "roots"] f d
  m_Heap_whole : ∃ f d, Md K C_Heap "whole" "Heap.whole" s_Heap_whole ["self", "roots"] f d
  m_Heap_is_marking : ∃ f d, Md K C_Heap "is_marking" "Heap.is_marking" s_Heap_is_marking ["self"] f d
  m_Heap_picture : ∃ f d, Md K C_Heap "picture" "Heap.picture" s_Heap_picture ["self"] f d
end KK

/-! enumerate over a tuple: its making, its turns, the walk. -/
namespace ET
open PySem
open Sem (wp)
theorem meets_new1 {v : Value} {ob : Obj} {Hh : Heap → Prop} (bg : Begins v ob Hh) :
    Meets (Builtin.«enumerate.__new__» ⟨[.type "enumerate", v], []⟩) (fun _ R z => Hh z.heap ∧
      R (.ok (.ret (.ref (z.heap.push ob).objs.size))) { z with heap := (z.heap.push ob).push { cls := .type "enumerate", data := .fields #[.none, .bool false, .ref z.heap.objs.size, rawInt 0, .none, .none] } }) :=
  .of_wp fun prog w A R z both => by
    obtain ⟨hp, g, d, tk, os⟩ := z
    obtain ⟨b1, fin⟩ := both
    have hsub := sub_enumerate
    have its : ∀ {A' : Around} {E : Value → Shared → Prop} {Q : Value → Shared → Prop}, Q (.ref hp.objs.size) ⟨hp.push ob, g, d, tk, os⟩ → wpAny (model prog w) A' (pyIter v) Q E ⟨hp, g, d, tk, os⟩ := fun q => bg.iter prog w _ _ ⟨hp, g, d, tk, os⟩ _ b1 q
    wp_walk using its
    refine wpAny_stack_any fun _ => wpAny_pure ?_
    split
    · rename_i c _ _ _ _ _
      cases (c == Value.type "enumerate") <;> (wp_walk using its; exact ⟨_, rfl, fin⟩)
    · (wp_walk using its; exact ⟨_, rfl, fin⟩)
section
variable {prog : Program} {w : World} {A : Around} {E : Value → Shared → Prop} {s : Shared}
theorem call_enum1 {v : Value} {ob : Obj} {Hh : Heap → Prop} {Q : Value → Shared → Prop} (bg : Begins v ob Hh) (h1 : Hh s.heap)
    (fin : ∀ h', IsEnum h' (s.heap.objs.size + 1) s.heap.objs.size 0 .none → h'.get? s.heap.objs.size = some ob →
      (∀ b o, s.heap.get? b = some o → h'.get? b = some o) → Q (.ref (s.heap.objs.size + 1)) { s with heap := h' }) :
    wpAny (model prog w) A (call (.type "enumerate") [v]) Q E s := by
  refine callType_new F.called_enumerate (by decide) (F.typeCall_enumerate_1 _) (F.newCall_enumerate_1 _) (fun obj => F.args_object_init_2 obj _) F.entry_enumerate_new (meets_new1 bg) ⟨h1, ?_⟩
  have hz : (s.heap.push ob).objs.size = s.heap.objs.size + 1 := Heap.size_push ..
  show _ ∧ _
  rw [hz]
  have he : IsEnum ((s.heap.push ob).push { cls := .type "enumerate", data := .fields #[.none, .bool false, .ref s.heap.objs.size, rawInt 0, .none, .none] }) (s.heap.objs.size + 1) s.heap.objs.size 0 .none := by
    have q := Heap.get?_push_size (s.heap.push ob) (o := { cls := .type "enumerate", data := .fields #[.none, .bool false, .ref s.heap.objs.size, rawInt 0, .none, .none] }) rfl
    rw [hz] at q
    exact q
  exact ⟨⟨_, he, rfl⟩, fin _ he (Heap.get?_push_of_some _ (Heap.get?_push_size _ bg.free)) fun b o x => Heap.get?_push_of_some _ (Heap.get?_push_of_some _ x)⟩
end
end ET
namespace ET
open PySem PySem.Spec PyProof.Rows L2
/-- the tuple at a, each item in a new pair -/
def Itet (K : PySem.W.Frag) (a : Addr) : It :=
  ⟨fun i H => ∃ (xs : List V) (x : V), SqT K H a xs ∧ xs[i]? = some x,
   fun i H v H' => ∃ T x, v = .ref T ∧ H T = none ∧ H' = upd H T (.tup [.int (i : Nat), x]) ∧ ∀ xs, SqT K H a xs → xs[i]? = some x,
   fun i H => ∃ xs : List V, SqT K H a xs ∧ xs.length = i⟩
theorem turn_enumT {P : Program} {w : World} {K : PySem.W.Frag} {elts : List Expr} {kk : Nat} {tpos : Pos} (a e it : Addr) :
    Turn P w K (.Tuple elts kk tpos) (Itet K a) [e, it] e (fun i h => (∃ old, IsEnum h e it ((i : Nat) : Int) old) ∧ h.IsTupleIter it a i ∧ e ≠ it ∧ a ≠ it ∧ a ≠ e) where
  mem := by simp
  obj := fun i h st b hb => by
    obtain ⟨⟨old, he⟩, ⟨o, ho, hc, hd⟩, _⟩ := st
    rcases (by simpa using hb : b = e ∨ b = it) with z | z
    · exact z ▸ ⟨_, he, fun v q => nomatch q⟩
    · exact z ▸ ⟨o, ho, fun v q => by rw [hd] at q; cases q⟩
  keep := fun i h h' st k => by
    obtain ⟨⟨old, he⟩, hi, hne⟩ := st
    exact ⟨⟨old, k e (by simp) _ he⟩, hi.at fun o q => k it (by simp) o q, hne⟩
  item := by
    intro X hP hw hK hc i pins s σ H E I hf st hg
    subst hP hw hK
    obtain ⟨⟨old, he⟩, hit, hne, hai, hae⟩ := st
    obtain ⟨xs, x, hq, hx⟩ := hg
    obtain ⟨its, rv, p, hz⟩ := I.tuple hq
    obtain ⟨u, hu, ru⟩ := rv.get hx
    have hel : e < s.heap.objs.size := Heap.lt_size he
    have hil : it < s.heap.objs.size := by obtain ⟨_, q, _⟩ := hit; exact Heap.lt_size q
    have hh := I.ok.hd hc
    have hi : i < its.toArray.size := by
      have h1 := (List.getElem?_eq_some_iff.mp hu).1
      simpa using h1
    refine wpAny_pyNext_enum_itemD (PySem.Draws.tuple (A := X.A.in1) hh it a hai its.toArray) he ⟨hit, p⟩ hi hne (by simp [hne, Ne.symm hae]) fun u' h' tk hP' ho hit' hT hsz hk => ?_
    have eu : u' = u := by
      have h1 : its.toArray[i]? = some u' := hP'
      rw [show its.toArray[i]? = its[i]? by simp, hu] at h1
      exact (Option.some.inj h1).symm
    subst eu
    refine ⟨_, rfl, wpAny_letOwnedTupleGo_enum (s := { s with heap := h', toks := tk + 1 }) ho fun h'' he' sb => ?_⟩
    have hT2 : h''.get? s.heap.objs.size = some { cls := .type "tuple", data := .seq #[.int i tk, u'] } := (sb.2 _ (Nat.ne_of_gt hel)).trans hT
    have new : ObjOk X.prog X.w (upd H s.heap.objs.size (.tup [.int (i : Nat), x])) h'' s.heap.objs.size (.tup [.int (i : Nat), x]) := ⟨by show 2 ≤ sizeLine; decide, [.int i tk, u'], .cons ⟨_, rfl⟩ (.cons ru .nil), ⟨_, hT2, rfl, _, rfl⟩⟩
    have kept : ∀ b ob, b ∉ [e, it] → s.heap.get? b = some ob → h''.get? b = some ob := fun b ob hb q => (sb.2 b (fun z => hb (by simp [z]))).trans (hk b ob (fun z => hb (by simp [z])) (fun z => hb (by simp [z])) q)
    have I1 : Inv X pins σ (upd H s.heap.objs.size (.tup [.int (i : Nat), x])) { s with heap := h'', toks := tk + 1 } := I.turnedNew (ch := [e, it]) kept hf (Nat.le_refl _) new
    have e1 : ((i + 1 : Nat) : Int) = (i : Int) + 1 := by omega
    refine ⟨.ref s.heap.objs.size, _, I1, rfl, ⟨_, x, rfl, I.hok.fresh (Nat.le_refl _), rfl, fun ys hy => by rw [I.tuple_inj hy hq]; exact hx⟩, ⟨⟨u', by rw [e1]; exact he'⟩, hit'.1.at fun o q => (sb.2 it (Ne.symm hne)).trans q, hne, hai, hae⟩, fun b hb => ?_⟩
    have hb' : b < s.heap.objs.size := by
      rcases (by simpa using hb : b = e ∨ b = it) with z | z
      · exact z ▸ hel
      · exact z ▸ hil
    rw [upd_ne (Nat.ne_of_lt hb')]
    exact (hf b hb).1
  done := by
    intro X hP hw hK hc i pins s σ H E I hf st hg
    subst hP hw hK
    obtain ⟨⟨old, he⟩, hit, hne, hai, hae⟩ := st
    obtain ⟨xs, hq, hx⟩ := hg
    obtain ⟨its, rv, p, hz⟩ := I.tuple hq
    obtain ⟨f0, f1, f2, f3, f4, f5⟩ := hf it (by simp)
    have hl := rv.length
    have hn : i = its.toArray.size := by simp; omega
    subst hn
    exact wpAny_pyNext_enum_endD (PySem.Draws.tuple (A := X.A.in1) (I.ok.hd hc) it a hai its.toArray) he ⟨hit, p⟩ fun h' eb => ⟨rfl, I.turned (t' := s.toks) (fun b o hb q => eb b o hb q) f0 f1 f3 f4 f5⟩
  self := fun A i s Q E st h => by
    obtain ⟨⟨_, he⟩, _⟩ := st
    exact wpAny_pyIter_enum he h
def iEnumT (K : PySem.W.Frag) (ta : TA) : TI := fun σ H R => ta σ H fun vs H1 => ∃ a xs, vs = [.ref a] ∧ SqT K H1 a xs ∧ R (Itet K a) H1
theorem pi_enumT {X : Cx} {e : Expr} {ta : TA} {p pos tpos : Pos} {elts : List Expr} {kk : Nat} (hg : Gl X "enumerate") (hm : X.mg "enumerate" = none) (ha : PA X [e] ta) (hs : starEach [e] X.env = [(false, eval e X.env)] := by rfl) :
    PI X (.Tuple elts kk tpos) (.Call (.Name "enumerate" p) [e] [] pos) (iEnumT X.K ta) := by
  refine ⟨fun pins s σ H R I h => ?_⟩
  refine Call_ (ld_blt I hg hm boot_enumerate (PyProof.Rows.callWith_type1 (thn (ha.run pos pins s σ H _ I h) fun us s1 ⟨vs, H1, I1, r1, q1⟩ => ?_) hs rfl))
  obtain ⟨a, xs, ex, hq, q⟩ := q1
  subst ex
  cases r1 with
  | cons r rr =>
    cases rr
    cases r
    obtain ⟨its, rv, p', hz⟩ := I1.tuple hq
    have hal : a < s1.heap.objs.size := by
      obtain ⟨o, ho, _⟩ := p'
      exact Heap.lt_size ho
    refine call_enum1 (PySem.begins_tuple a its.toArray) p' fun h' he hit hk => wpAny_pyIter_enum he ?_
    have I2 : Inv X pins σ H1 { s1 with heap := h' } := I1.kept (t' := s1.toks) hk
    have hti : h'.IsTupleIter s1.heap.objs.size a 0 := ⟨_, hit, rfl, rfl⟩
    refine ⟨s1.heap.objs.size + 1, [s1.heap.objs.size + 1, s1.heap.objs.size], _, _, H1, rfl, I2, turn_enumT a (s1.heap.objs.size + 1) s1.heap.objs.size, ⟨⟨.none, he⟩, hti, Nat.succ_ne_self _, Nat.ne_of_lt hal, Nat.ne_of_lt (Nat.lt_succ_of_lt hal)⟩, fun b hb => ?_, q⟩
    have hle : s1.heap.objs.size ≤ b := by
      rcases (by simpa using hb : b = s1.heap.objs.size + 1 ∨ b = s1.heap.objs.size) with z | z
      · rw [z]; exact Nat.le_succ _
      · rw [z]; exact Nat.le_refl _
    exact I1.fpOk hle (I1.hok.fresh hle)
theorem walk_enumT {K : PySem.W.Frag} {a : Addr} {xs : List V} : Walk (Itet K a) xs.length (fun H => SqT K H a xs) (YPair (fun i => some (.int (i : Nat))) (fun i => xs[i]?)) := by
  refine ⟨fun i _ hi q => ⟨xs, xs[i], q, by simp [hi]⟩, fun _ q => ⟨xs, q, rfl⟩, fun i H v H' _ q y => ?_⟩
  obtain ⟨T, x, h1, h2, h3, h4⟩ := y
  exact ⟨T, .int (i : Nat), x, h1, h2, h3, rfl, h4 xs q⟩
end ET

/-! Methods by keywords; forms. -/
namespace KK
open PySem PySem.Spec PyProof.Rows L2 KA KI PV T ET
/-! ### o[a:b] = v of lists -/
def gSlice (to ti tj : TE) : TG := fun v σ H Q => to σ H fun x H1 => ti σ H1 fun y H2 => tj σ H2 fun z H3 => ∃ (l b : Addr) (xs ys : List V) (a c : Int), x = .ref l ∧ y = .int a ∧ z = .int c ∧ v = .ref b ∧ H3 l = some (.lst xs) ∧ H3 b = some (.lst ys) ∧ l ≠ b ∧
  0 ≤ a ∧ a ≤ c ∧ c ≤ xs.length ∧ xs.length + ys.length ≤ sizeLine ∧ Q σ (upd H3 l (.lst (xs.take a.toNat ++ ys ++ xs.drop c.toNat)))
theorem pg_slice {X : Cx} {o i j : Expr} {to ti tj : TE} {pos p2 : Pos} (ho : PE X o to) (hi : PE X i ti) (hj : PE X j tj)
    (ha : ∀ v, assign (.Subscript o (.Slice (some i) (some j) none p2) pos) X.env v = (do
      let ov ← holding [v] (eval o X.env)
      let iv ← holding [v, ov] (eval (.Slice (some i) (some j) none p2) X.env)
      standAt pos
      holding [v, ov, iv] (setItem ov iv v)
      release [iv, v, ov] []) := by intro _; rfl) : PG X (.Subscript o (.Slice (some i) (some j) none p2) pos) (gSlice to ti tj) := by
  refine ⟨fun pins s σ H v u Q I r h => ?_⟩
  rw [ha]
  refine wpAny_bind (wpAny_holding (thn (ho.run pins s σ H _ I h) fun ov s1 ⟨x, H1, I1, r1, q1⟩ => ?_))
  refine wpAny_bind (wpAny_holding ?_)
  refine wpAny_Slice ?_
  rw [evalPart_some]
  refine thn (hi.run pins s1 σ H1 _ I1 q1) fun vl s2 ⟨y, H2, I2, r2, q2⟩ => ?_
  rw [evalPart_some]
  refine thn (hj.run pins s2 σ H2 _ I2 q2) fun vu s3 ⟨z, H3, I3, r3, q3⟩ => ?_
  rw [evalPart_none]
  refine wpAny_pure ?_
  obtain ⟨l, b, xs, ys, a, c, rfl, rfl, rfl, rfl, hl, hb, hne, h0, h1, h2, h3, q⟩ := q3
  cases (show ov = Value.ref l from r1)
  cases (show u = Value.ref b from r)
  have I4 : Inv X pins σ H3 { s3 with heap := s3.heap.push { cls := .type "slice", data := .fields #[vl, vu, .none] } } := I3.kept (t' := s3.toks) fun b ob q => Heap.get?_push_of_some _ q
  refine wpAny_bind (wpAny_standAt (wpAny_bind (wpAny_holding ?_)))
  exact set_slice I4 hl hb hne (Heap.IsSliceOf.new ..) r2 r3 h0 h1 h2 h3 fun s5 I5 => wpAny_release ⟨σ, _, I5, q⟩
end KK
namespace PH
open PySem PySem.Spec PyProof.Rows L2 KA KI KK PV T ET
abbrev Thing : Type := Int × List Int
def shPy (sh : List (List Bool)) : PyData := .tuple (sh.map fun r => .tuple (r.map .bool))
def inPy (xs : List Int) : PyData := .tuple (xs.map .int)
theorem dv_ints {H : Hp} {vs : List V} : ∀ {xs : List Int}, DvAll H vs (xs.map .int) → vs = xs.map .int
  | [], r => r.nilE
  | x :: xs, r => by
    obtain ⟨u, us, rfl, h, r2⟩ := r.consE
    cases h
    rw [dv_ints r2]
    rfl
theorem dv_bools {H : Hp} {vs : List V} : ∀ {xs : List Bool}, DvAll H vs (xs.map .bool) → vs = xs.map .bl
  | [], r => r.nilE
  | x :: xs, r => by
    obtain ⟨u, us, rfl, h, r2⟩ := r.consE
    cases h
    rw [dv_bools r2]
    rfl
theorem ints_dv {H : Hp} : ∀ {xs : List Int}, DvAll H (xs.map .int) (xs.map .int)
  | [] => .nil
  | x :: xs => .cons (.int x) ints_dv
theorem bools_dv {H : Hp} : ∀ {xs : List Bool}, DvAll H (xs.map .bl) (xs.map .bool)
  | [] => .nil
  | x :: xs => .cons (.bl x) bools_dv
theorem inPy_at {H : Hp} {v : V} {xs : List Int} (h : Dv H v (inPy xs)) : ∃ a, v = .ref a ∧ H a = some (.tup (xs.map .int)) ∧ xs.length ≤ 50000 := by
  obtain ⟨a, ys, rfl, ha, hl, r⟩ := h.tupE
  obtain rfl := dv_ints r
  exact ⟨a, rfl, ha, by simpa using hl⟩
theorem boolsAt {H : Hp} {v : V} {r : List Bool} (h : Dv H v (.tuple (r.map .bool))) : ∃ a, v = .ref a ∧ H a = some (.tup (r.map .bl)) := by
  obtain ⟨a, ys, rfl, ha, hl, r2⟩ := h.tupE
  obtain rfl := dv_bools r2
  exact ⟨a, rfl, ha⟩
theorem shPy_at {H : Hp} {v : V} {sh : List (List Bool)} (h : Dv H v (shPy sh)) : ∃ (a : Addr) (vs : List V), v = .ref a ∧ H a = some (HO.tup vs) ∧ vs.length = sh.length ∧ ∀ (i : Nat) (r : List Bool), sh[i]? = some r → ∃ b : Addr, vs[i]? = some (V.ref b) ∧ H b = some (.tup (r.map V.bl)) := by
  obtain ⟨a, vs, rfl, ha, hl, r2⟩ := h.tupE
  refine ⟨a, vs, rfl, ha, by simpa using r2.len, fun i r e => ?_⟩
  obtain ⟨v, e1, h1⟩ := r2.get (i := i) (d := .tuple (r.map .bool)) (by simp [e])
  obtain ⟨b, rfl, hb⟩ := boolsAt h1
  exact ⟨b, e1, hb⟩
theorem intTy {K : PySem.W.Frag} {H : Hp} {i : Int} : ∃ t : String, TyX K H (.int i) (.type t) ∧ PySem.W.kitOne K (.type t) (.type "int") = some true ∧ PySem.W.kitOne K (.type t) (.type "bool") = some false ∧ PySem.W.kitOne K (.type t) (.type "str") = some false ∧ PySem.W.kitOne K (.type t) (.type "tuple") = some false :=
  ⟨"int", .base (.int i), kit_ty (by decide +kernel), kit_ty (by decide +kernel), kit_ty (by decide +kernel), kit_ty (by decide +kernel)⟩
theorem blTy {K : PySem.W.Frag} {H : Hp} {i : Bool} : ∃ t : String, TyX K H (.bl i) (.type t) ∧ PySem.W.kitOne K (.type t) (.type "bool") = some true :=
  ⟨"bool", .base (.bl i), kit_ty (by decide +kernel)⟩
theorem tpTy {K : PySem.W.Frag} {H : Hp} {a : Addr} {xs : List V} (h : H a = some (.tup xs)) : ∃ t : String, TyX K H (.ref a) (.type t) ∧ PySem.W.kitOne K (.type t) (.type "tuple") = some true := ⟨"tuple", .base (.tup h), kit_ty (by decide +kernel)⟩
section
variable {P : Program} {w : World} {K : PySem.W.Frag} {mg : Str → Option Value} {base : Heap} {C_Moving C_Memory C_Heap : Addr}
def spInt : Sp := fun vs H Q _ => ∃ i : Int, vs = [.int i] ∧ Q (.bl true) H
theorem ok_int {f : Addr} {fd : FuncData} (G : Gd K mg "is_integer" s_is_integer ["thing"] f fd) (X : Lw K mg C_Moving C_Memory C_Heap) : FnOk P w K mg base CX0 1 f fd ["thing"] (spInt) := by

  refine G.F.ok sc_is_integer (fun vs H Q E h => ?_) (fun cdv A outer s H vs Q E hr h => ?_)
  · obtain ⟨i, rfl, _⟩ := h; rfl
  · obtain ⟨i, rfl, q⟩ := h
    refine ⟨_, (pss_one (ps_ret (pe_and (pe_callB call_isi (by rfl) X.b_isinstance (by decide +kernel) (pa_cons (pv 0) (pa_cons (pe_bltn (by rfl) X.b_int (v := .ty "int") (by decide +kernel) rfl) pa_nil))) (pe_one (pe_not (pe_callB call_isi (by rfl) X.b_isinstance (by decide +kernel) (pa_cons (pv 0) (pa_cons (pe_bltn (by rfl) X.b_bool (v := .ty "bool") (by decide +kernel) rfl) pa_nil)))))))), ?_⟩
    obtain ⟨t, t1, t2, t3, _⟩ := intTy (K := K) (H := H) (i := i)
    exact ⟨_, rfl, _, _, _, _, _, rfl, .ty _, t1, t2, true, rfl, iteT ⟨_, rfl, _, _, _, _, _, rfl, .ty _, t1, t3, false, rfl, q⟩⟩
def spBtw : Sp := fun vs H Q _ => ∃ x a b : Int, vs = [.int x, .int a, .int b] ∧ Q (.bl (decide (a ≤ x ∧ x ≤ b))) H
theorem ok_btw {f : Addr} {fd : FuncData} (G : Gd K mg "is_between" s_is_between ["thing", "least", "greatest"] f fd) (X : Lw K mg C_Moving C_Memory C_Heap) : FnOk P w K mg base CX0 2 f fd ["thing", "least", "greatest"] (spBtw) := by
  obtain ⟨f_is_integer, d_is_integer, G_is_integer⟩ := X.f_is_integer
  have H_is_integer : FnOk P w K mg base CX0 1 f_is_integer d_is_integer ["thing"] (spInt) := ok_int G_is_integer X
  refine G.F.ok sc_is_between (fun vs H Q E h => ?_) (fun cdv A outer s H vs Q E hr h => ?_)
  · obtain ⟨x, a, b, rfl, _⟩ := h; rfl
  · obtain ⟨x, a, b, rfl, q⟩ := h
    refine ⟨_, (pss_one (ps_ret (pe_and (pe_call H_is_integer hr (by rfl) G_is_integer.g G_is_integer.F.kp G_is_integer.b .nil pass0 (pa_cons (pv 0) pa_nil)) (pe_one (pe_chain op_le op_le (pv 1) (pv 0) (pv 2)))))), ?_⟩
    refine ⟨_, rfl, x, rfl, true, rfl, iteT ?_⟩
    refine ⟨_, rfl, _, rfl, a, x, rfl, rfl, _, rfl, ?_⟩
    refine ite2 (fun e => ?_) (fun e => ?_)
    · refine ⟨_, rfl, x, b, rfl, rfl, ?_⟩
      have e1 := of_decide_eq_true e
      have e2 : decide (a ≤ x ∧ x ≤ b) = decide (x ≤ b) := by simp [e1]
      rw [e2] at q
      exact q
    · have e1 : ¬ a ≤ x := fun z => e (decide_eq_true z)
      have e2 : decide (a ≤ x ∧ x ≤ b) = false := by simp [e1]
      rw [e2] at q
      exact q
def spTto : Sp := fun vs H Q _ => ∃ (a : Addr) (xs : List V) (n : Int), vs = [.ref a, .int n] ∧ H a = some (.tup xs) ∧ Q (.bl (decide ((xs.length : Int) ≤ n))) H
theorem ok_tto {f : Addr} {fd : FuncData} (G : Gd K mg "is_tuple_to" s_is_tuple_to ["thing", "most"] f fd) (X : Lw K mg C_Moving C_Memory C_Heap) : FnOk P w K mg base CX0 1 f fd ["thing", "most"] (spTto) := by

  refine G.F.ok sc_is_tuple_to (fun vs H Q E h => ?_) (fun cdv A outer s H vs Q E hr h => ?_)
  · obtain ⟨a, xs, n, rfl, _⟩ := h; rfl
  · obtain ⟨a, xs, n, rfl, ha, q⟩ := h
    refine ⟨_, (pss_one (ps_ret (pe_and (pe_callB call_isi (by rfl) X.b_isinstance (by decide +kernel) (pa_cons (pv 0) (pa_cons (pe_bltn (by rfl) X.b_tuple (v := .ty "tuple") (by decide +kernel) rfl) pa_nil))) (pe_one (pe_cmpR op_le (pe_callB call_len (by rfl) X.b_len PySem.boot_len (pa_cons (pv 0) pa_nil)) (pv 1) (nomark _)))))), ?_⟩
    obtain ⟨t, t1, t2⟩ := tpTy (K := K) ha
    exact ⟨_, rfl, _, _, _, _, _, rfl, .ty _, t1, t2, true, rfl, iteT ⟨_, rfl, .ref a, xs.length, rfl, .inr ⟨_, SqT.of ha, rfl⟩, _, rfl, _, _, rfl, rfl, q⟩⟩
end
end PH

/-! Shapes, kinds, sizes, links. -/
namespace PH
open PySem PySem.Spec PyProof.Rows L2 KA KI KK PV T ET
/-- is this slot of an object of the kind a reference slot? -/
def flag (sh : List (List Bool)) (k : Int) (i : Nat) : Bool := if k < 0 then decide (k = -2) else ((sh[k.toNat]?.getD [])[i]?).getD false
def idxOf (n : Nat) (f : Nat → Bool) : List Nat := (List.range n).filter f
def natV (is : List Nat) : List V := is.map fun (i : Nat) => V.int (i : Int)
/-- a number of slots that an object of the kind may have -/
def sizeOk (sh : List (List Bool)) (k : Int) (n : Nat) : Prop := n ≤ 1000 ∧ (0 ≤ k → ∃ r, sh[k.toNat]? = some r ∧ r.length = n)
section
variable {P : Program} {w : World} {K : PySem.W.Frag} {mg : Str → Option Value} {base : Heap} {C_Moving C_Memory C_Heap : Addr}
def spLas : Sp := fun vs H Q _ => ∃ (v : V) (sh : List (List Bool)), vs = [v] ∧ Dv H v (shPy sh) ∧ sh.length ≤ 60 ∧ (∀ r ∈ sh, r.length ≤ 100) ∧ Q .non H
theorem ok_las {f : Addr} {fd : FuncData} (G : Gd K mg "look_at_shapes" s_look_at_shapes ["shapes"] f fd) (X : Lw K mg C_Moving C_Memory C_Heap) : FnOk P w K mg base CX0 2 f fd ["shapes"] (spLas) := by
  obtain ⟨f_is_tuple_to, d_is_tuple_to, G_is_tuple_to⟩ := X.f_is_tuple_to
  have H_is_tuple_to : FnOk P w K mg base CX0 1 f_is_tuple_to d_is_tuple_to ["thing", "most"] (spTto) := ok_tto G_is_tuple_to X
  obtain ⟨_, m_MOST_SHAPE_FIELDS⟩ := X.c_MOST_SHAPE_FIELDS
  obtain ⟨_, m_MOST_SHAPES⟩ := X.c_MOST_SHAPES
  refine G.F.ok sc_look_at_shapes (fun vs H Q E h => ?_) (fun cdv A outer s H vs Q E hr h => ?_)
  · obtain ⟨v, sh, rfl, _⟩ := h; rfl
  · obtain ⟨v, sh, rfl, hv, h1, h2, q⟩ := h
    obtain ⟨a, vs, rfl, ha, hl, he⟩ := shPy_at hv
    refine ⟨_, (pss_cons (ps_if (pt_not (pt_val (pe_call H_is_tuple_to hr (by rfl) G_is_tuple_to.g G_is_tuple_to.F.kp G_is_tuple_to.b .nil pass0 (pa_cons (pv 0) (pa_cons (pe_glob (v := .int (60)) (by rfl) m_MOST_SHAPES ⟨_, rfl⟩) pa_nil)))))
        pss_never pss_nil)
      (pss_one (ps_for PassesOwn.never rfl (pi_tup (pv 0)) (pg_name (i := 1) sc_look_at_shapes.nd rfl (Or.inl rfl))
        (pss_cons (ps_if (pt_not (pt_val (pe_call H_is_tuple_to hr (by rfl) G_is_tuple_to.g G_is_tuple_to.F.kp G_is_tuple_to.b .nil pass0 (pa_cons (pv 1) (pa_cons (pe_glob (v := .int (100)) (by rfl) m_MOST_SHAPE_FIELDS ⟨_, rfl⟩) pa_nil)))))
        pss_never pss_nil)
      (pss_one (ps_for PassesOwn.never rfl (pi_tup (pv 1)) (pg_name (i := 2) sc_look_at_shapes.nd rfl (Or.inl rfl))
        (pss_one (ps_if (pt_not (pt_val (pe_callB call_isi (by rfl) X.b_isinstance (by decide +kernel) (pa_cons (pv 2) (pa_cons (pe_bltn (by rfl) X.b_bool (v := .ty "bool") (by decide +kernel) rfl) pa_nil)))))
        pss_never pss_nil)))))))), ?_⟩
    refine ⟨_, rfl, a, vs, 60, rfl, ha, ⟨_, rfl, ?_⟩⟩
    rw [decide_eq_true (show (vs.length : Int) ≤ 60 by omega)]
    refine iteF ?_
    refine ⟨_, rfl, a, rfl, ⟨_, SqT.of ha⟩, for_tup (xs := vs) (fun i σ H' => H' = H ∧ ∃ o1 o2, σ = [some (.ref a), o1, o2]) ⟨rfl, _, _, rfl⟩ ?_ ?_ ?_⟩
    · rintro i σ H' _ ⟨rfl, _⟩
      exact SqT.of ha
    · rintro i x σ H' hx ⟨rfl, o1, o2, rfl⟩
      have hi : i < sh.length := by
        have := (List.getElem?_eq_some_iff.mp hx).1
        omega
      obtain ⟨b, e1, hb⟩ := he i sh[i] (List.getElem?_eq_getElem hi)
      rw [e1] at hx
      cases hx
      have hr := h2 sh[i] (List.getElem_mem hi)
      refine ⟨_, rfl, b, _, 100, rfl, hb, ⟨_, rfl, ?_⟩⟩
      rw [decide_eq_true (show ((sh[i].map V.bl).length : Int) ≤ 100 by rw [List.length_map]; omega)]
      refine iteF ?_
      refine ⟨_, rfl, b, rfl, ⟨_, SqT.of hb⟩, for_tup (xs := sh[i].map V.bl) (fun i σ H' => H' = _ ∧ ∃ o1 o2, σ = [some (.ref a), o1, o2]) ⟨rfl, _, _, rfl⟩ ?_ ?_ ?_⟩
      · rintro i σ H' _ ⟨rfl, _⟩
        exact SqT.of hb
      · rintro j x σ H' hx ⟨rfl, o1, o2, rfl⟩
        rw [List.getElem?_map] at hx
        obtain ⟨t, _, rfl⟩ := Option.map_eq_some_iff.mp hx
        obtain ⟨ty, t1, t2⟩ := blTy (K := K) (H := H') (i := t)
        exact ⟨_, rfl, _, _, _, _, _, rfl, .ty _, t1, t2, _, rfl, iteF ⟨rfl, _, _, rfl⟩⟩
      · rintro σ H' ⟨rfl, o1, o2, rfl⟩
        exact ⟨rfl, _, _, rfl⟩
    · rintro σ H' ⟨rfl, _⟩
      exact q
def spLak : Sp := fun vs H Q _ => ∃ (v : V) (k : Int) (sh : List (List Bool)), vs = [v, .int k] ∧ Dv H v (shPy sh) ∧ -3 ≤ k ∧ k < sh.length ∧ Q .non H
theorem ok_lak {f : Addr} {fd : FuncData} (G : Gd K mg "look_at_kind" s_look_at_kind ["shapes", "kind"] f fd) (X : Lw K mg C_Moving C_Memory C_Heap) : FnOk P w K mg base CX0 3 f fd ["shapes", "kind"] (spLak) := by
  obtain ⟨f_is_between, d_is_between, G_is_between⟩ := X.f_is_between
  have H_is_between : FnOk P w K mg base CX0 2 f_is_between d_is_between ["thing", "least", "greatest"] (spBtw) := ok_btw G_is_between X
  obtain ⟨_, m_SIGNS⟩ := X.c_SIGNS
  refine G.F.ok sc_look_at_kind (fun vs H Q E h => ?_) (fun cdv A outer s H vs Q E hr h => ?_)
  · obtain ⟨v, k, sh, rfl, _⟩ := h; rfl
  · obtain ⟨v, k, sh, rfl, hv, h1, h2, q⟩ := h
    obtain ⟨a, vs, rfl, ha, hl, he⟩ := shPy_at hv
    refine ⟨_, (pss_one (ps_if (pt_not (pt_val (pe_call H_is_between hr (by rfl) G_is_between.g G_is_between.F.kp G_is_between.b .nil pass0 (pa_cons (pv 1) (pa_cons (pe_glob (v := .int (-3)) (by rfl) m_SIGNS ⟨_, rfl⟩) (pa_cons (pe_op op_sub (pe_callB call_len (by rfl) X.b_len PySem.boot_len (pa_cons (pv 0) pa_nil)) pe_int) pa_nil))))))
        pss_never pss_nil)), ?_⟩
    refine ⟨_, rfl, .ref a, rfl, .ref a, vs.length, rfl, .inr ⟨_, SqT.of ha, rfl⟩, _, _, rfl, rfl, k, -3, (vs.length : Int) - 1, rfl, _, rfl, ?_⟩
    rw [decide_eq_true (show -3 ≤ k ∧ k ≤ (vs.length : Int) - 1 by omega)]
    exact iteF q
def spIsz : Sp := fun vs H Q _ => ∃ (v : V) (k : Int) (n : Nat) (sh : List (List Bool)), vs = [v, .int k, .int n] ∧ Dv H v (shPy sh) ∧ sizeOk sh k n ∧ Q (.bl true) H
theorem ok_isz {f : Addr} {fd : FuncData} (G : Gd K mg "is_size" s_is_size ["shapes", "kind", "slots"] f fd) (X : Lw K mg C_Moving C_Memory C_Heap) : FnOk P w K mg base CX0 1 f fd ["shapes", "kind", "slots"] (spIsz) := by
  obtain ⟨_, m_MOST_ENTRIES⟩ := X.c_MOST_ENTRIES
  refine G.F.ok sc_is_size (fun vs H Q E h => ?_) (fun cdv A outer s H vs Q E hr h => ?_)
  · obtain ⟨v, k, n, sh, rfl, _⟩ := h; rfl
  · obtain ⟨v, k, n, sh, rfl, hv, ⟨h1, h2⟩, q⟩ := h
    obtain ⟨a, vs, rfl, ha, hl, he⟩ := shPy_at hv
    refine ⟨_, (pss_cons (ps_if (pt_cmpR op_ge (pv 1) pe_int (nomark _))
        (pss_one (ps_ret (pe_cmpR op_eq (pv 2) (pe_callB call_len (by rfl) X.b_len PySem.boot_len (pa_cons (pe_ix ix_tup (pv 0) (pv 1) (fun _ _ => rfl)) pa_nil)) (nomark _)))) pss_nil)
      (pss_one (ps_ret (pe_chain op_le op_le pe_int (pv 2) (pe_glob (v := .int (1000)) (by rfl) m_MOST_ENTRIES ⟨_, rfl⟩))))), ?_⟩
    refine ⟨_, rfl, k, 0, rfl, rfl, _, rfl, ite2 (fun e => ?_) (fun e => ?_)⟩
    · have e1 : 0 ≤ k := of_decide_eq_true e
      obtain ⟨r, er, rfl⟩ := h2 e1
      obtain ⟨b, e2, hb⟩ := he _ r er
      refine ⟨_, rfl, .ref a, rfl, .int k, rfl, a, _, k, .ref b, rfl, rfl, SqT.of ha, ?_, .ref b, _, rfl, .inr ⟨_, SqT.of hb, rfl⟩, rfl, ?_⟩
      · obtain ⟨j, rfl⟩ : ∃ j : Nat, k = j := ⟨k.toNat, by omega⟩
        exact atI_nat e2
      · have : decide (V.int (r.length : Int) = V.int ((r.map V.bl).length : Int)) = true := by simp
        rw [this]
        exact q
    · refine ⟨_, rfl, 0, n, rfl, rfl, _, rfl, ?_⟩
      refine ite2 (fun e2 => ?_) (fun e2 => absurd (decide_eq_true (show (0 : Int) ≤ n by omega)) e2)
      refine ⟨n, 1000, rfl, rfl, ?_⟩
      have : decide ((n : Int) ≤ 1000) = true := decide_eq_true (by omega)
      show Q (V.bl (decide ((n : Int) ≤ 1000))) H
      rw [this]
      exact q
def spLaz : Sp := fun vs H Q _ => ∃ (v : V) (k : Int) (n : Nat) (sh : List (List Bool)), vs = [v, .int k, .int n] ∧ Dv H v (shPy sh) ∧ sizeOk sh k n ∧ Q .non H
theorem ok_laz {f : Addr} {fd : FuncData} (G : Gd K mg "look_at_size" s_look_at_size ["shapes", "kind", "slots"] f fd) (X : Lw K mg C_Moving C_Memory C_Heap) : FnOk P w K mg base CX0 2 f fd ["shapes", "kind", "slots"] (spLaz) := by
  obtain ⟨f_is_size, d_is_size, G_is_size⟩ := X.f_is_size
  have H_is_size : FnOk P w K mg base CX0 1 f_is_size d_is_size ["shapes", "kind", "slots"] (spIsz) := ok_isz G_is_size X
  obtain ⟨f_is_integer, d_is_integer, G_is_integer⟩ := X.f_is_integer
  have H_is_integer : FnOk P w K mg base CX0 1 f_is_integer d_is_integer ["thing"] (spInt) := ok_int G_is_integer X
  refine G.F.ok sc_look_at_size (fun vs H Q E h => ?_) (fun cdv A outer s H vs Q E hr h => ?_)
  · obtain ⟨v, k, n, sh, rfl, _⟩ := h; rfl
  · obtain ⟨v, k, n, sh, rfl, hv, h1, q⟩ := h
    refine ⟨_, (pss_one (ps_if (PW.pt (pw_or (pt_not (pt_val (pe_call H_is_integer hr (by rfl) G_is_integer.g G_is_integer.F.kp G_is_integer.b .nil pass0 (pa_cons (pv 2) pa_nil)))) (pw_or1 (pt_not (pt_val (pe_call H_is_size hr (by rfl) G_is_size.g G_is_size.F.kp G_is_size.b .nil pass0 (pa_cons (pv 0) (pa_cons (pv 1) (pa_cons (pv 2) pa_nil)))))))))
        pss_never pss_nil)), ?_⟩
    refine ⟨_, rfl, n, rfl, true, rfl, iteF ?_⟩
    refine ⟨_, rfl, _, rfl, _, rfl, v, k, n, sh, rfl, hv, h1, true, rfl, iteF q⟩
def spTof : Sp := fun vs H Q _ => ∃ (a : Addr) (xs : List V) (n : Int), vs = [.ref a, .int n] ∧ H a = some (.tup xs) ∧ Q (.bl (decide ((xs.length : Int) = n))) H
theorem ok_tof {f : Addr} {fd : FuncData} (G : Gd K mg "is_tuple_of" s_is_tuple_of ["thing", "many"] f fd) (X : Lw K mg C_Moving C_Memory C_Heap) : FnOk P w K mg base CX0 1 f fd ["thing", "many"] (spTof) := by

  refine G.F.ok sc_is_tuple_of (fun vs H Q E h => ?_) (fun cdv A outer s H vs Q E hr h => ?_)
  · obtain ⟨a, xs, n, rfl, _⟩ := h; rfl
  · obtain ⟨a, xs, n, rfl, ha, q⟩ := h
    refine ⟨_, (pss_one (ps_ret (pe_and (pe_callB call_isi (by rfl) X.b_isinstance (by decide +kernel) (pa_cons (pv 0) (pa_cons (pe_bltn (by rfl) X.b_tuple (v := .ty "tuple") (by decide +kernel) rfl) pa_nil))) (pe_one (pe_cmpR op_eq (pe_callB call_len (by rfl) X.b_len PySem.boot_len (pa_cons (pv 0) pa_nil)) (pv 1) (nomark _)))))), ?_⟩
    obtain ⟨t, t1, t2⟩ := tpTy (K := K) ha
    refine ⟨_, rfl, _, _, _, _, _, rfl, .ty _, t1, t2, true, rfl, iteT ⟨_, rfl, .ref a, xs.length, rfl, .inr ⟨_, SqT.of ha, rfl⟩, _, rfl, rfl, ?_⟩⟩
    have e : decide (V.int (xs.length : Int) = V.int n) = decide ((xs.length : Int) = n) := by simp
    rw [e]
    exact q
def szPy (c : Nat × Nat × Nat × Nat) : PyData := .tuple [.int c.1, .int c.2.1, .int c.2.2.1, .int c.2.2.2]
def szOk (c : Nat × Nat × Nat × Nat) : Prop := 16 ≤ c.1 ∧ c.1 ≤ 4096 ∧ c.2.1 ≤ 4096 ∧ 4 ≤ c.2.2.1 ∧ c.2.2.1 ≤ c.1 ∧ 1 ≤ c.2.2.2 ∧ c.2.2.2 ≤ 7
theorem szPy_at {H : Hp} {v : V} {c : Nat × Nat × Nat × Nat} (h : Dv H v (szPy c)) : ∃ a, v = .ref a ∧ H a = some (.tup [.int c.1, .int c.2.1, .int c.2.2.1, .int c.2.2.2]) := by
  obtain ⟨a, xs, rfl, ha, _, r⟩ := h.tupE
  obtain ⟨u0, us, rfl, h0, r⟩ := r.consE
  obtain ⟨u1, us, rfl, h1, r⟩ := r.consE
  obtain ⟨u2, us, rfl, h2, r⟩ := r.consE
  obtain ⟨u3, us, rfl, h3, r⟩ := r.consE
  obtain rfl := r.nilE
  cases h0
  cases h1
  cases h2
  cases h3
  exact ⟨a, rfl, ha⟩
def spLasz : Sp := fun vs H Q _ => ∃ (v : V) (c : Nat × Nat × Nat × Nat), vs = [v] ∧ Dv H v (szPy c) ∧ szOk c ∧ Q .non H
theorem ok_lasz {f : Addr} {fd : FuncData} (G : Gd K mg "look_at_sizes" s_look_at_sizes ["sizes"] f fd) (X : Lw K mg C_Moving C_Memory C_Heap) : FnOk P w K mg base CX0 3 f fd ["sizes"] (spLasz) := by
  obtain ⟨f_is_between, d_is_between, G_is_between⟩ := X.f_is_between
  have H_is_between : FnOk P w K mg base CX0 2 f_is_between d_is_between ["thing", "least", "greatest"] (spBtw) := ok_btw G_is_between X
  obtain ⟨_, m_MOST_AGE⟩ := X.c_MOST_AGE
  obtain ⟨_, m_LEAST_GREAT⟩ := X.c_LEAST_GREAT
  obtain ⟨_, m_MOST_ROOM⟩ := X.c_MOST_ROOM
  obtain ⟨_, m_LEAST_NURSERY⟩ := X.c_LEAST_NURSERY
  obtain ⟨f_is_tuple_of, d_is_tuple_of, G_is_tuple_of⟩ := X.f_is_tuple_of
  have H_is_tuple_of : FnOk P w K mg base CX0 1 f_is_tuple_of d_is_tuple_of ["thing", "many"] (spTof) := ok_tof G_is_tuple_of X
  refine G.F.ok sc_look_at_sizes (fun vs H Q E h => ?_) (fun cdv A outer s H vs Q E hr h => ?_)
  · obtain ⟨v, c, rfl, _⟩ := h; rfl
  · obtain ⟨v, c, rfl, hv, ⟨c1, c2, c3, c4, c5, c6, c7⟩, q⟩ := h
    obtain ⟨a, rfl, ha⟩ := szPy_at hv
    refine ⟨_, (pss_cons (ps_if (pt_not (pt_val (pe_call H_is_tuple_of (hr.mono (by decide)) (by rfl) G_is_tuple_of.g G_is_tuple_of.F.kp G_is_tuple_of.b .nil pass0 (pa_cons (pv 0) (pa_cons pe_int pa_nil)))))
        pss_never pss_nil)
      (pss_cons (ps_asg (pv 0) (pg_tup rfl (pgs_cons (pg_name (i := 1) sc_look_at_sizes.nd rfl (Or.inl rfl)) (pgs_cons (pg_name (i := 2) sc_look_at_sizes.nd rfl (Or.inl rfl)) (pgs_cons (pg_name (i := 3) sc_look_at_sizes.nd rfl (Or.inl rfl)) (pgs_cons (pg_name (i := 4) sc_look_at_sizes.nd rfl (Or.inl rfl)) pgs_nil))))))
      (pss_cons (ps_if (PW.pt (pw_or (pt_not (pt_val (pe_call H_is_between hr (by rfl) G_is_between.g G_is_between.F.kp G_is_between.b .nil pass0 (pa_cons (pv 1) (pa_cons (pe_glob (v := .int (16)) (by rfl) m_LEAST_NURSERY ⟨_, rfl⟩) (pa_cons (pe_glob (v := .int (4096)) (by rfl) m_MOST_ROOM ⟨_, rfl⟩) pa_nil)))))) (pw_or1 (pt_not (pt_val (pe_call H_is_between hr (by rfl) G_is_between.g G_is_between.F.kp G_is_between.b .nil pass0 (pa_cons (pv 2) (pa_cons pe_int (pa_cons (pe_glob (v := .int (4096)) (by rfl) m_MOST_ROOM ⟨_, rfl⟩) pa_nil)))))))))
        pss_never pss_nil)
      (pss_one (ps_if (PW.pt (pw_or (pt_not (pt_val (pe_call H_is_between hr (by rfl) G_is_between.g G_is_between.F.kp G_is_between.b .nil pass0 (pa_cons (pv 3) (pa_cons (pe_glob (v := .int (4)) (by rfl) m_LEAST_GREAT ⟨_, rfl⟩) (pa_cons (pv 1) pa_nil)))))) (pw_or1 (pt_not (pt_val (pe_call H_is_between hr (by rfl) G_is_between.g G_is_between.F.kp G_is_between.b .nil pass0 (pa_cons (pv 4) (pa_cons pe_int (pa_cons (pe_glob (v := .int (7)) (by rfl) m_MOST_AGE ⟨_, rfl⟩) pa_nil)))))))))
        pss_never pss_nil))))), ?_⟩
    refine ⟨_, rfl, a, _, 4, rfl, ha, _, rfl, iteF ?_⟩
    refine ⟨_, rfl, a, _, rfl, SqT.of ha, rfl, _, _, rfl, _, _, rfl, _, _, rfl, _, _, rfl, rfl, ?_⟩
    have bt : ∀ {x a b : Int}, a ≤ x → x ≤ b → decide (a ≤ x ∧ x ≤ b) = true := fun h1 h2 => decide_eq_true ⟨h1, h2⟩
    refine ⟨_, rfl, _, _, _, rfl, _, rfl, ?_⟩
    rw [bt (by omega) (by omega)]
    refine iteF ⟨_, rfl, _, _, _, rfl, _, rfl, ?_⟩
    rw [bt (by omega) (by omega)]
    refine iteF ?_
    refine ⟨_, rfl, _, rfl, _, _, _, rfl, _, rfl, ?_⟩
    rw [bt (by omega) (by omega)]
    refine iteF ⟨_, rfl, _, _, _, rfl, _, rfl, ?_⟩
    rw [bt (by omega) (by omega)]
    exact iteF q
def headW (k : Int) (age colour : Nat) : Int := (k + 3) * 64 + age * 4 + colour
def spHw : Sp := fun vs H Q _ => ∃ (k : Int) (age colour : Nat), vs = [.int k, .int age, .int colour] ∧ k.natAbs < 1000 ∧ age < 1000 ∧ Q (.int (headW k age colour)) H
theorem ok_hw {f : Addr} {fd : FuncData} (G : Gd K mg "head_word" s_head_word ["kind", "age", "colour"] f fd) (X : Lw K mg C_Moving C_Memory C_Heap) : FnOk P w K mg base CX0 1 f fd ["kind", "age", "colour"] (spHw) := by

  refine G.F.ok sc_head_word (fun vs H Q E h => ?_) (fun cdv A outer s H vs Q E hr h => ?_)
  · obtain ⟨k, age, colour, rfl, _⟩ := h; rfl
  · obtain ⟨k, age, colour, rfl, h1, h2, q⟩ := h
    refine ⟨_, (pss_one (ps_ret (pe_op op_add (pe_op op_add (pe_op op_mul (pe_op op_add (pv 0) pe_int) pe_int) (pe_op op_mul (pv 1) pe_int)) (pv 2)))), ?_⟩
    exact ⟨_, rfl, _, _, rfl, rfl, _, _, rfl, rfl, .inl ⟨by omega, by omega⟩, _, rfl, _, _, rfl, rfl, .inl ⟨by omega, by omega⟩, _, _, rfl, rfl, _, rfl, _, _, rfl, rfl, q⟩
def spKt : Sp := fun vs H Q _ => ∃ (x : Int), vs = [.int x] ∧ Q (.int (x / 64 - 3)) H
theorem ok_kt {f : Addr} {fd : FuncData} (G : Gd K mg "kind_told" s_kind_told ["head"] f fd) (X : Lw K mg C_Moving C_Memory C_Heap) : FnOk P w K mg base CX0 1 f fd ["head"] (spKt) := by

  refine G.F.ok sc_kind_told (fun vs H Q E h => ?_) (fun cdv A outer s H vs Q E hr h => ?_)
  · obtain ⟨x, rfl, _⟩ := h; rfl
  · obtain ⟨x, rfl, q⟩ := h
    refine ⟨_, (pss_one (ps_ret (pe_op op_sub (pe_op op_fdiv (pv 0) pe_int) pe_int))), ?_⟩
    exact ⟨_, rfl, _, _, rfl, rfl, ⟨by decide, by decide⟩, _, _, rfl, rfl, q⟩
def spShl : Sp := fun vs H Q _ => ∃ (v : V) (r : List Bool), vs = [v] ∧ Dv H v (.tuple (r.map .bool)) ∧ r.length ≤ 1000 ∧ ∀ (b : Addr) (H' : Hp), H b = none → Same H H' → H' b = some (.tup (natV (idxOf r.length fun i => r[i]?.getD false))) → Q (.ref b) H'
theorem ok_shl {f : Addr} {fd : FuncData} (G : Gd K mg "shape_links" s_shape_links ["shape"] f fd) (X : Lw K mg C_Moving C_Memory C_Heap) : FnOk P w K mg base CX0 1 f fd ["shape"] (spShl) := by

  refine G.F.ok sc_shape_links (fun vs H Q E h => ?_) (fun cdv A outer s H vs Q E hr h => ?_)
  · obtain ⟨v, r, rfl, _⟩ := h; rfl
  · obtain ⟨v, r, rfl, hv, hl, q⟩ := h
    obtain ⟨a, rfl, ha⟩ := boolsAt hv
    refine ⟨_, (pss_one (ps_ret (pe_callTy call_tuple_of (by rfl) X.b_tuple (by decide +kernel) (pa_cons (pe_lc (own := [("index", 1), ("truth", 2)]) (g := (gTup K 2 (gCons (gName 1) (gCons (gName 2) gNil)))) rfl sc_shape_links.nd (pi_enumT (by rfl) X.b_enumerate (pa_cons (pv 0) pa_nil)) (blkOk_by (own := [("index", 1), ("truth", 2)]) (N := ["shape", "index", "truth"]) (sc := defScope s_shape_links) (by decide +kernel)) (fun _ _ _ _ _ => (pg_tup rfl (pgs_cons (pg_name (i := 1) sc_shape_links.nd rfl (Or.inl rfl)) (pgs_cons (pg_name (i := 2) sc_shape_links.nd rfl (Or.inl rfl)) pgs_nil)))) (fun _ _ _ _ _ => (pts_one (pt_val (pv 2)))) (fun _ _ _ _ _ => (pv 1))) pa_nil)))), ?_⟩
    refine ⟨_, rfl, a, _, rfl, SqT.of ha, fun D nD => ?_⟩
    have kp : ∀ {b : Addr} {o : HO}, H b = some o → b ≠ D := fun e => ne_of_none e nD
    refine lc_it (walk_enumT (xs := r.map V.bl)) (fun i H' => H' D = some (.lst (natV (idxOf i fun i => r[i]?.getD false))) ∧ Same H H') ⟨upd_same, fun b o e => by rw [upd_ne (kp e)]; exact e⟩ ?_ ?_ ?_
    · rintro i H' _ ⟨_, s1⟩
      exact SqT.of (s1 _ _ ha)
    · rintro i x H1 H2 hi ⟨hD, s1⟩ ⟨T, x1, y1, rfl, nT, rfl, e1, e2⟩
      cases e1
      have hi2 : i < r.length := by simpa using hi
      have e2 : (r.map V.bl)[i]? = some y1 := e2
      rw [List.getElem?_map, List.getElem?_eq_getElem hi2] at e2
      cases e2
      have TD : D ≠ T := ne_of_none hD nT
      have s2 : Same H (upd H1 T (.tup [.int (i : Nat), .bl r[i]])) := fun b o e => by rw [upd_ne (ne_of_none (s1 b o e) nT)]; exact s1 b o e
      have hD2 : (upd H1 T (.tup [.int (i : Nat), .bl r[i]])) D = some (.lst (natV (idxOf i fun i => r[i]?.getD false))) := by rw [upd_ne TD]; exact hD
      refine ⟨T, _, rfl, SqT.of upd_same, rfl, _, _, rfl, _, _, rfl, rfl, rfl, _, rfl, r[i], rfl, ?_⟩
      have ei : idxOf (i + 1) (fun i => r[i]?.getD false) = idxOf i (fun i => r[i]?.getD false) ++ if r[i] = true then [i] else [] := by
        unfold idxOf
        rw [List.range_succ, List.filter_append]
        congr 1
        cases e : r[i] <;> simp [hi2, e]
      cases e : r[i] with
      | true =>
        refine iteT ⟨_, rfl, _, by rw [e] at hD2; exact hD2, ?_, ?_⟩
        · have : (natV (idxOf i fun i => r[i]?.getD false)).length ≤ i := by
            unfold natV idxOf
            rw [List.length_map]
            exact Nat.le_trans (List.length_filter_le _ _) (by simp)
          exact small1000 (by omega)
        · refine ⟨?_, fun b o e2 => ?_⟩
          · rw [ei, e, upd_same]
            simp [natV]
          · rw [upd_ne (kp e2), ← e]
            exact s2 b o e2
      | false =>
        refine iteF ⟨?_, ?_⟩
        · rw [ei, e]
          rw [e] at hD2
          simpa using hD2
        · rw [e] at s2
          exact s2
    · rintro H1 ⟨hD, s1⟩
      refine ⟨D, _, rfl, .inl ⟨SqL.of hD, fun p np => ?_⟩⟩
      have e : (r.map V.bl).length = r.length := List.length_map ..
      rw [e]
      exact q p _ (s1.free np) (fun b o e => by rw [upd_ne (ne_of_none (s1 b o e) np)]; exact s1 b o e) upd_same
end
end PH

/-! The memory: its fields, what is asked of it, what is laid. -/
namespace PH
open PySem PySem.Spec PyProof.Rows L2 KA KI KK PV T ET
theorem big {n : Nat} (h : n ≤ 1000000) : n < sizeLine := Nat.lt_of_le_of_lt h (by decide)
def KeptL (l : List Addr) (H H' : Hp) : Prop := ∀ b o, b ∉ l → H b = some o → H' b = some o
theorem KeptL.trans {l : List Addr} {H H1 H2 : Hp} (a : KeptL l H H1) (b : KeptL l H1 H2) : KeptL l H H2 := fun c o n h => b c o n (a c o n h)
theorem KeptL.of_same {l : List Addr} {H H' : Hp} (b : Same H H') : KeptL l H H' := fun c o _ h => b c o h
theorem KeptL.mono {l m : List Addr} {H H' : Hp} (k : KeptL l H H') (h : ∀ b ∈ l, b ∈ m) : KeptL m H H' := fun c o n e => k c o (fun z => n (h c z)) e
theorem KeptL.tups2 {l : List Addr} {H H' : Hp} (k : KeptL l H H') (h : ∀ b ∈ l, ∃ o, H b = some o ∧ ∀ xs, o ≠ .tup xs) : TupSame H H' := fun a xs e => k a _ (fun z => by
  obtain ⟨o, h1, h2⟩ := h a z
  rw [e] at h1
  cases h1
  exact h2 xs rfl) e
theorem same_new {H1 : Hp} {p : Addr} {o : HO} (h : H1 p = none) : Same H1 (upd H1 p o) := fun b u e => by rw [upd_ne (ne_of_none e h)]; exact e
theorem same_at {H H1 : Hp} {p : Addr} {o : HO} (h : H p = none) (s : Same H H1) : Same H (upd H1 p o) := fun b u e => by rw [upd_ne (ne_of_none e h)]; exact s b u e
theorem kept_upd {l : List Addr} {H : Hp} {p : Addr} {o : HO} (h : p ∈ l) : KeptL l H (upd H p o) := fun b u nb e => by
  have hb : b ≠ p := fun z => nb (by rw [z]; exact h)
  rw [upd_ne hb]
  exact e
theorem at_nx {D : Ends} {σ : L2.St} {A B : Hp} (e : B = A) (h : D.nx σ B) : D.nx σ A := e ▸ h
def LinksAt (H : Hp) (aL : Addr) (sh : List (List Bool)) : Prop := ∃ ls : List Addr, H aL = some (.lst (ls.map V.ref)) ∧ ls.length = sh.length ∧
  ∀ (i : Nat) (r : List Bool) (b : Addr), sh[i]? = some r → ls[i]? = some b → H b = some (.tup (natV (idxOf r.length fun j => r[j]?.getD false)))
abbrev Sz : Type := Nat × Nat × Nat × Nat
def Sz.fo (c : Sz) : Nat := c.1 + 2 * c.2.1 + 1
def Sz.firsts (c : Sz) : List Nat := [1, c.1 + 1, c.1 + c.2.1 + 1]
structure Ma where
  m : Addr
  dx : Addr
  aSh : Addr
  aSz : Addr
  aFi : Addr
  aL : Addr
  aW : Addr
  aN : Addr
  aY : Addr
  aO : Addr
  aR : Addr
  aG : Addr
  aE : Addr
structure Ms where
  half : Nat
  words : List Int
  nexts : List Nat
  young : List Nat
  old : List Nat
  rem : List Nat
  grey : List Nat
  done : Nat
  marks : Bool
  ended : List Int
def natI (l : List Nat) : List V := l.map fun (n : Nat) => V.int (n : Int)
def dk (l : List Nat) : List (Key × V) := l.map fun (n : Nat) => ((Sum.inl (n : Int) : Key), V.bl true)
theorem dk_get : ∀ (l : List Nat) (x : Int), valV (dk l) (Sum.inl x : Key) = if x ∈ l.map (fun (n : Nat) => (n : Int)) then some (.bl true) else none
  | [], x => rfl
  | y :: r, x => by
    by_cases e : (y : Int) = x
    · rw [if_pos (by simp [e])]
      exact valV_pos (show (Sum.inl (y : Int) : Key) = Sum.inl x by rw [e])
    · have e1 : valV (dk (y :: r)) (Sum.inl x : Key) = valV (dk r) (Sum.inl x : Key) := valV_neg (fun z => e (by injection z))
      rw [e1, dk_get r x]
      by_cases hm : x ∈ r.map (fun (n : Nat) => (n : Int))
      · rw [if_pos hm, if_pos (by rw [List.map_cons]; exact List.mem_cons_of_mem _ hm)]
      · rw [if_neg hm, if_neg (by
          rw [List.map_cons, List.mem_cons]
          exact fun z => z.elim (fun z => e z.symm) hm)]
theorem dk_put {l : List Nat} {n : Nat} (h : n ∉ l) : putK (dk l) (Sum.inl (n : Int) : Key) (V.bl true) = dk (l ++ [n]) := by
  rw [putK_new]
  · simp [dk]
  · rw [dk_get, if_neg]
    intro z
    obtain ⟨m, hm, e⟩ := List.mem_map.mp z
    have : m = n := by omega
    exact h (this ▸ hm)
def MemF (a : Ma) (c : Sz) (s : Ms) : List (Str × V) := [("shapes", .ref a.aSh), ("sizes", .ref a.aSz), ("great", .int c.2.2.1), ("age", .int c.2.2.2), ("firsts", .ref a.aFi), ("first_old", .int c.fo), ("shapes_links", .ref a.aL), ("words", .ref a.aW), ("nexts", .ref a.aN), ("half", .int s.half),
  ("young", .ref a.aY), ("old", .ref a.aO), ("remembered", .ref a.aR), ("grey", .ref a.aG), ("done", .int s.done), ("marks", .bl s.marks), ("ended", .ref a.aE)]
structure MemAt (CM : Addr) (H : Hp) (a : Ma) (c : Sz) (sh : List (List Bool)) (s : Ms) : Prop where
  at_ : H a.m = some (.ins CM a.dx (MemF a c s))
  shp : Dv H (.ref a.aSh) (shPy sh)
  fi : H a.aFi = some (.tup (natI c.firsts))
  links : LinksAt H a.aL sh
  words : H a.aW = some (.lst (s.words.map V.int))
  nexts : H a.aN = some (.lst (natI s.nexts))
  young : H a.aY = some (.dK (dk s.young))
  old : H a.aO = some (.dK (dk s.old))
  rem : H a.aR = some (.dK (dk s.rem))
  grey : H a.aG = some (.lst (natI s.grey))
  ended : H a.aE = some (.lst (s.ended.map V.int))
  nl : [a.aL, a.aW, a.aN, a.aG, a.aE].Nodup
  nd : [a.aY, a.aO, a.aR].Nodup
/-- what the memory has of its own -/
def Ma.own (a : Ma) : List Addr := [a.m, a.aL, a.aW, a.aN, a.aY, a.aO, a.aR, a.aG, a.aE]
theorem MemAt.ownAt {CM : Addr} {H : Hp} {a : Ma} {c : Sz} {sh : List (List Bool)} {s : Ms} (h : MemAt CM H a c sh s) : ∀ b ∈ a.own, ∃ o, H b = some o ∧ ∀ xs, o ≠ .tup xs := fun b hb => by
  obtain ⟨ls, hL, _⟩ := h.links
  have hb : b ∈ [a.m, a.aL, a.aW, a.aN, a.aY, a.aO, a.aR, a.aG, a.aE] := hb
  simp only [List.mem_cons, List.not_mem_nil, or_false] at hb
  rcases hb with rfl | rfl | rfl | rfl | rfl | rfl | rfl | rfl | rfl
  · exact ⟨_, h.at_, by intro z e; cases e⟩
  · exact ⟨_, hL, by intro z e; cases e⟩
  · exact ⟨_, h.words, by intro z e; cases e⟩
  · exact ⟨_, h.nexts, by intro z e; cases e⟩
  · exact ⟨_, h.young, by intro z e; cases e⟩
  · exact ⟨_, h.old, by intro z e; cases e⟩
  · exact ⟨_, h.rem, by intro z e; cases e⟩
  · exact ⟨_, h.grey, by intro z e; cases e⟩
  · exact ⟨_, h.ended, by intro z e; cases e⟩
theorem MemAt.kept {CM : Addr} {H H' : Hp} {a : Ma} {c : Sz} {sh : List (List Bool)} {s : Ms} {l : List Addr} (h : MemAt CM H a c sh s) (k : KeptL l H H') (tt : TupSame H H') (hn : ∀ b ∈ a.own, b ∉ l) : MemAt CM H' a c sh s := by
  obtain ⟨ls, hL, ll, he⟩ := h.links
  have e : ∀ {b : Addr} {o : HO}, b ∈ a.own → H b = some o → H' b = some o := fun m e => k _ _ (hn _ m) e
  exact ⟨e (by simp [Ma.own]) h.at_, h.shp.same tt, tt _ _ h.fi, ⟨ls, e (by simp [Ma.own]) hL, ll, fun i r b e1 e2 => tt _ _ (he i r b e1 e2)⟩, e (by simp [Ma.own]) h.words, e (by simp [Ma.own]) h.nexts, e (by simp [Ma.own]) h.young, e (by simp [Ma.own]) h.old, e (by simp [Ma.own]) h.rem, e (by simp [Ma.own]) h.grey, e (by simp [Ma.own]) h.ended, h.nl, h.nd⟩
theorem MemAt.same {CM : Addr} {H H' : Hp} {a : Ma} {c : Sz} {sh : List (List Bool)} {s : Ms} (h : MemAt CM H a c sh s) (k : Same H H') : MemAt CM H' a c sh s := h.kept (l := []) (KeptL.of_same k) (TupSame.of k) (fun _ _ z => nomatch z)
theorem memF_no {a : Ma} {c : Sz} {s : Ms} {m : Str} (h : m ∉ (["shapes", "sizes", "great", "age", "firsts", "first_old", "shapes_links", "words", "nexts", "half", "young", "old", "remembered", "grey", "done", "marks", "ended"] : List Str)) : (MemF a c s).lookup m = none := by
  simp only [List.mem_cons, List.not_mem_nil, or_false, not_or] at h
  have e : ∀ {x : Str}, ¬ m = x → (m == x) = false := fun h => by simpa using h
  simp only [MemF, List.lookup, e h.1, e h.2.1, e h.2.2.1, e h.2.2.2.1, e h.2.2.2.2.1, e h.2.2.2.2.2.1, e h.2.2.2.2.2.2.1, e h.2.2.2.2.2.2.2.1, e h.2.2.2.2.2.2.2.2.1, e h.2.2.2.2.2.2.2.2.2.1, e h.2.2.2.2.2.2.2.2.2.2.1, e h.2.2.2.2.2.2.2.2.2.2.2.1,
    e h.2.2.2.2.2.2.2.2.2.2.2.2.1, e h.2.2.2.2.2.2.2.2.2.2.2.2.2.1, e h.2.2.2.2.2.2.2.2.2.2.2.2.2.2.1, e h.2.2.2.2.2.2.2.2.2.2.2.2.2.2.2.1, e h.2.2.2.2.2.2.2.2.2.2.2.2.2.2.2.2]
def inL (l : List Nat) (x : Int) : Bool := decide (x ∈ l.map fun (n : Nat) => (n : Int))
theorem inL_get (l : List Nat) (x : Int) : (valV (dk l) (Sum.inl x : Key)).isSome = inL l x := by
  rw [dk_get]
  unfold inL
  split
  · rename_i h; rw [decide_eq_true h]; rfl
  · rename_i h; rw [decide_eq_false h]; rfl
section
variable {P : Program} {w : World} {K : PySem.W.Frag} {mg : Str → Option Value} {base : Heap} {C_Moving C_Memory C_Heap : Addr}
def spMiso (CM : Addr) : Sp := fun vs H Q _ => ∃ (a : Ma) (x : Int) (c : Sz) (sh : List (List Bool)) (s : Ms), vs = [.ref a.m, .int x] ∧ MemAt CM H a c sh s ∧ Q (.bl (inL s.old x || inL s.young x)) H
theorem ok_miso {f : Addr} {fd : FuncData} (G : Md K C_Memory "is_object" "Memory.is_object" s_Memory_is_object ["self", "address"] f fd) (X : Lw K mg C_Moving C_Memory C_Heap) : FnOk P w K mg base CX0 1 f fd ["self", "address"] (spMiso C_Memory) := by

  refine G.F.ok sc_Memory_is_object (fun vs H Q E h => ?_) (fun cdv A outer s H vs Q E hr h => ?_)
  · obtain ⟨a, x, c, sh, s, rfl, _⟩ := h; rfl
  · obtain ⟨a, x, c, sh, s, rfl, hm, q⟩ := h
    refine ⟨_, (pss_one (ps_ret (pe_or (pe_cmp (pc_din (hu_of hr) (pv 1) (pe_fld (pv 0) rfl)) rfl) (pe_one (pe_cmp (pc_din (hu_of hr) (pv 1) (pe_fld (pv 0) rfl)) rfl))))), ?_⟩
    refine ⟨_, rfl, _, rfl, a.m, C_Memory, a.dx, MemF a c s, .ref a.aO, rfl, hm.at_, X.cl_Memory, X.n_Memory_old, rfl, a.aO, _, rfl, DGet.k (k := Sum.inl x) hm.old, _, rfl, ?_⟩
    rw [inL_get]
    cases e : inL s.old x with
    | true =>
      rw [e] at q
      exact iteT q
    | false =>
      rw [e] at q
      refine iteF ⟨_, rfl, _, rfl, a.m, C_Memory, a.dx, MemF a c s, .ref a.aY, rfl, hm.at_, X.cl_Memory, X.n_Memory_young, rfl, a.aY, _, rfl, DGet.k (k := Sum.inl x) hm.young, ?_⟩
      rw [inL_get]
      exact q
def spMisy (CM : Addr) : Sp := fun vs H Q _ => ∃ (a : Ma) (x : Int) (c : Sz) (sh : List (List Bool)) (s : Ms), vs = [.ref a.m, .int x] ∧ MemAt CM H a c sh s ∧ Q (.bl (decide (0 < x ∧ x < c.fo))) H
theorem ok_misy {f : Addr} {fd : FuncData} (G : Md K C_Memory "is_young" "Memory.is_young" s_Memory_is_young ["self", "reference"] f fd) (X : Lw K mg C_Moving C_Memory C_Heap) : FnOk P w K mg base CX0 1 f fd ["self", "reference"] (spMisy C_Memory) := by

  refine G.F.ok sc_Memory_is_young (fun vs H Q E h => ?_) (fun cdv A outer s H vs Q E hr h => ?_)
  · obtain ⟨a, x, c, sh, s, rfl, _⟩ := h; rfl
  · obtain ⟨a, x, c, sh, s, rfl, hm, q⟩ := h
    refine ⟨_, (pss_one (ps_ret (pe_chain op_lt op_lt pe_int (pv 1) (pe_fld (pv 0) rfl)))), ?_⟩
    refine ⟨_, rfl, 0, x, rfl, rfl, _, rfl, ite2 (fun e => ?_) (fun e => ?_)⟩
    · refine ⟨_, rfl, a.m, C_Memory, a.dx, MemF a c s, .int c.fo, rfl, hm.at_, X.cl_Memory, X.n_Memory_first_old, rfl, x, _, rfl, rfl, ?_⟩
      have e1 : (0 : Int) < x := of_decide_eq_true e
      have e2 : decide (0 < x ∧ x < (c.fo : Int)) = decide (x < (c.fo : Int)) := by simp [e1]
      rw [e2] at q
      exact q
    · have e1 : ¬ (0 : Int) < x := fun z => e (decide_eq_true z)
      have e2 : decide (0 < x ∧ x < (c.fo : Int)) = false := by simp [e1]
      rw [e2] at q
      exact q
def spMkind (CM : Addr) : Sp := fun vs H Q _ => ∃ (a : Ma) (x : Nat) (h : Int) (c : Sz) (sh : List (List Bool)) (s : Ms), vs = [.ref a.m, .int x] ∧ MemAt CM H a c sh s ∧ s.words[x]? = some h ∧ Q (.int (h / 64 - 3)) H
theorem ok_mkind {f : Addr} {fd : FuncData} (G : Md K C_Memory "kind" "Memory.kind" s_Memory_kind ["self", "address"] f fd) (X : Lw K mg C_Moving C_Memory C_Heap) : FnOk P w K mg base CX0 2 f fd ["self", "address"] (spMkind C_Memory) := by
  obtain ⟨f_kind_told, d_kind_told, G_kind_told⟩ := X.f_kind_told
  have H_kind_told : FnOk P w K mg base CX0 1 f_kind_told d_kind_told ["head"] (spKt) := ok_kt G_kind_told X
  refine G.F.ok sc_Memory_kind (fun vs H Q E h => ?_) (fun cdv A outer s H vs Q E hr h => ?_)
  · obtain ⟨a, x, h, c, sh, s, rfl, _⟩ := h; rfl
  · obtain ⟨a, x, hd, c, sh, s, rfl, hm, hx, q⟩ := h
    refine ⟨_, (pss_one (ps_ret (pe_call H_kind_told hr (by rfl) G_kind_told.g G_kind_told.F.kp G_kind_told.b .nil pass0 (pa_cons (pe_ix ix_list (pe_fld (pv 0) rfl) (pv 1) (fun _ _ => rfl)) pa_nil)))), ?_⟩
    exact ⟨_, rfl, a.m, C_Memory, a.dx, MemF a c s, .ref a.aW, rfl, hm.at_, X.cl_Memory, X.n_Memory_words, rfl, _, rfl, a.aW, _, x, .int hd, rfl, rfl, SqL.of hm.words, atI_nat (by rw [List.getElem?_map, hx]; rfl), hd, rfl, q⟩
def spMslots (CM : Addr) : Sp := fun vs H Q _ => ∃ (a : Ma) (x : Nat) (h : Int) (c : Sz) (sh : List (List Bool)) (s : Ms), vs = [.ref a.m, .int x] ∧ MemAt CM H a c sh s ∧ s.words[x + 1]? = some h ∧ Q (.int h) H
theorem ok_mslots {f : Addr} {fd : FuncData} (G : Md K C_Memory "slots" "Memory.slots" s_Memory_slots ["self", "address"] f fd) (X : Lw K mg C_Moving C_Memory C_Heap) : FnOk P w K mg base CX0 1 f fd ["self", "address"] (spMslots C_Memory) := by

  refine G.F.ok sc_Memory_slots (fun vs H Q E h => ?_) (fun cdv A outer s H vs Q E hr h => ?_)
  · obtain ⟨a, x, h, c, sh, s, rfl, _⟩ := h; rfl
  · obtain ⟨a, x, hd, c, sh, s, rfl, hm, hx, q⟩ := h
    refine ⟨_, (pss_one (ps_ret (pe_ix ix_list (pe_fld (pv 0) rfl) (pe_op op_add (pv 1) pe_int) (fun _ _ => rfl)))), ?_⟩
    exact ⟨_, rfl, a.m, C_Memory, a.dx, MemF a c s, .ref a.aW, rfl, hm.at_, X.cl_Memory, X.n_Memory_words, rfl, _, rfl, _, _, rfl, rfl, a.aW, _, ((x + 1 : Nat) : Int), .int hd, rfl, rfl, SqL.of hm.words, atI_nat (by rw [List.getElem?_map, hx]; rfl), q⟩
def spMgreat (CM : Addr) : Sp := fun vs H Q _ => ∃ (a : Ma) (n : Nat) (c : Sz) (sh : List (List Bool)) (s : Ms), vs = [.ref a.m, .int n] ∧ MemAt CM H a c sh s ∧ Q (.bl (decide (c.2.2.1 < 2 + n))) H
theorem ok_mgreat {f : Addr} {fd : FuncData} (G : Md K C_Memory "is_great" "Memory.is_great" s_Memory_is_great ["self", "slots"] f fd) (X : Lw K mg C_Moving C_Memory C_Heap) : FnOk P w K mg base CX0 1 f fd ["self", "slots"] (spMgreat C_Memory) := by
  obtain ⟨_, m_HEAD_WORDS⟩ := X.c_HEAD_WORDS
  refine G.F.ok sc_Memory_is_great (fun vs H Q E h => ?_) (fun cdv A outer s H vs Q E hr h => ?_)
  · obtain ⟨a, n, c, sh, s, rfl, _⟩ := h; rfl
  · obtain ⟨a, n, c, sh, s, rfl, hm, q⟩ := h
    refine ⟨_, (pss_one (ps_ret (pe_cmpR op_gt (pe_op op_add (pe_glob (v := .int (2)) (by rfl) m_HEAD_WORDS ⟨_, rfl⟩) (pv 1)) (pe_fld (pv 0) rfl) (nomark _)))), ?_⟩
    refine ⟨_, rfl, _, _, rfl, rfl, _, rfl, a.m, C_Memory, a.dx, MemF a c s, .int c.2.2.1, rfl, hm.at_, X.cl_Memory, X.n_Memory_great, rfl, _, _, rfl, rfl, ?_⟩
    have e : decide ((c.2.2.1 : Int) < 2 + (n : Int)) = decide (c.2.2.1 < 2 + n) := by
      by_cases h : c.2.2.1 < 2 + n
      · rw [decide_eq_true h, decide_eq_true (by omega)]
      · rw [decide_eq_false h, decide_eq_false (by omega)]
    show Q (.bl (decide ((c.2.2.1 : Int) < 2 + (n : Int)))) H
    rw [e]
    exact q
def endOf (c : Sz) (r : Nat) : Nat := if r = 0 then c.1 + 1 else if r = 1 then c.1 + c.2.1 + 1 else c.fo
def spMfits (CM : Addr) : Sp := fun vs H Q _ => ∃ (a : Ma) (r n x : Nat) (c : Sz) (sh : List (List Bool)) (s : Ms), vs = [.ref a.m, .int r, .int n] ∧ MemAt CM H a c sh s ∧ r < 3 ∧ s.nexts[r]? = some x ∧ Q (.bl (decide (x + n ≤ endOf c r))) H
theorem ok_mfits {f : Addr} {fd : FuncData} (G : Md K C_Memory "fits" "Memory.fits" s_Memory_fits ["self", "room", "many"] f fd) (X : Lw K mg C_Moving C_Memory C_Heap) : FnOk P w K mg base CX0 1 f fd ["self", "room", "many"] (spMfits C_Memory) := by

  refine G.F.ok sc_Memory_fits (fun vs H Q E h => ?_) (fun cdv A outer s H vs Q E hr h => ?_)
  · obtain ⟨a, r, n, x, c, sh, s, rfl, _⟩ := h; rfl
  · obtain ⟨a, r, n, x, c, sh, s, rfl, hm, hr3, hx, q⟩ := h
    refine ⟨_, (pss_cons (ps_set (i := 3) sc_Memory_fits.nd rfl (Or.inl rfl) (pe_ifExp (pt_cmpR op_lt (pv 1) pe_int (nomark _)) (pe_ix ix_tup (pe_fld (pv 0) rfl) (pe_op op_add (pv 1) pe_int) (fun _ _ => rfl)) (pe_fld (pv 0) rfl)))
      (pss_one (ps_ret (pe_cmpR op_le (pe_op op_add (pe_ix ix_list (pe_fld (pv 0) rfl) (pv 1) (fun _ _ => rfl)) (pv 2)) (pv 3) (nomark _))))), ?_⟩
    have fin : ∀ y : Nat, y = endOf c r → ∃ (b C dx : Addr) (fs : List (Str × V)) (v : V), V.ref a.m = .ref b ∧ H b = some (.ins C dx fs) ∧ Cls K C ∧ NoAttr K C "nexts" ∧ fs.lookup ("nexts" : Str) = some v ∧ ∃ (rv : V), [some (V.ref a.m), some (.int (r : Int)), some (.int (n : Int)), some (.int (y : Int))][1]? = some (some rv) ∧
        ∃ (p : Addr) (xs : List V) (i : Int) (u : V), v = .ref p ∧ rv = .int i ∧ SqL K H p xs ∧ atI xs i = some u ∧ ∃ (nv : V), [some (V.ref a.m), some (.int (r : Int)), some (.int (n : Int)), some (.int (y : Int))][2]? = some (some nv) ∧ ∃ (i j : Int), u = .int i ∧ nv = .int j ∧ ∃ (yv : V), [some (V.ref a.m), some (.int (r : Int)), some (.int (n : Int)), some (.int (y : Int))][3]? = some (some yv) ∧
          ∃ (i' j' : Int), V.int (i + j) = .int i' ∧ yv = .int j' ∧ Q (.bl (decide (i' ≤ j'))) H := by
      intro y ey
      refine ⟨a.m, C_Memory, a.dx, MemF a c s, .ref a.aN, rfl, hm.at_, X.cl_Memory, X.n_Memory_nexts, rfl, _, rfl, a.aN, _, r, .int x, rfl, rfl, SqL.of hm.nexts, atI_nat (by unfold natI; rw [List.getElem?_map, hx]; rfl), _, rfl, _, _, rfl, rfl, _, rfl, _, _, rfl, rfl, ?_⟩
      have e : decide ((x : Int) + (n : Int) ≤ (y : Int)) = decide (x + n ≤ endOf c r) := by
        rw [← ey]
        by_cases h : x + n ≤ y
        · rw [decide_eq_true h, decide_eq_true (by omega)]
        · rw [decide_eq_false h, decide_eq_false (by omega)]
      rw [e]
      exact q
    refine ⟨_, rfl, r, 2, rfl, rfl, _, rfl, ite2 (fun e => ?_) (fun e => ?_)⟩
    · have e1 : (r : Int) < 2 := of_decide_eq_true e
      have hfi : (natI c.firsts)[r + 1]? = some (.int (endOf c r : Nat)) := by
        unfold endOf
        rcases (by omega : r = 0 ∨ r = 1) with rfl | rfl <;> rfl
      exact ⟨_, rfl, a.m, C_Memory, a.dx, MemF a c s, .ref a.aFi, rfl, hm.at_, X.cl_Memory, X.n_Memory_firsts, rfl, _, rfl, _, _, rfl, rfl, a.aFi, _, ((r + 1 : Nat) : Int), _, rfl, rfl, SqT.of hm.fi, atI_nat hfi, _, rfl, fin _ rfl⟩
    · have e1 : ¬ (r : Int) < 2 := fun z => e (decide_eq_true z)
      have : endOf c r = c.fo := by
        unfold endOf
        rw [if_neg (by omega), if_neg (by omega)]
      exact ⟨_, rfl, a.m, C_Memory, a.dx, MemF a c s, .int c.fo, rfl, hm.at_, X.cl_Memory, X.n_Memory_first_old, rfl, _, rfl, fin _ this.symm⟩
end
end PH

/-! What is laid, and the rooms. -/
namespace PH
open PySem PySem.Spec PyProof.Rows L2 KA KI KK PV T ET
theorem MemAt.setW {CM : Addr} {H : Hp} {a : Ma} {c : Sz} {sh : List (List Bool)} {s : Ms} (h : MemAt CM H a c sh s) (ws : List Int) : MemAt CM (upd H a.aW (.lst (ws.map V.int))) a c sh { s with words := ws } := by
  have nl := h.nl
  simp only [List.nodup_cons, List.mem_cons, List.not_mem_nil, or_false, not_or, not_false_eq_true, List.nodup_nil, and_true] at nl
  obtain ⟨⟨n1, n2, n3, n4⟩, ⟨n5, n6, n7⟩, ⟨n8, n9⟩, n10⟩ := nl
  obtain ⟨ls, hL, ll, he⟩ := h.links
  have tt : TupSame H (upd H a.aW (.lst (ws.map V.int))) := fun b xs e => by rw [upd_ne (ne_of e h.words (by intro z; cases z))]; exact e
  refine ⟨?_, h.shp.same tt, tt _ _ h.fi, ⟨ls, ?_, ll, fun i r b e1 e2 => tt _ _ (he i r b e1 e2)⟩, upd_same, ?_, ?_, ?_, ?_, ?_, ?_, h.nl, h.nd⟩
  · rw [upd_ne (ne_of h.at_ h.words (by intro z; cases z))]; exact h.at_
  · rw [upd_ne n1]; exact hL
  · rw [upd_ne (fun z => n5 z.symm)]; exact h.nexts
  · rw [upd_ne (ne_of h.young h.words (by intro z; cases z))]; exact h.young
  · rw [upd_ne (ne_of h.old h.words (by intro z; cases z))]; exact h.old
  · rw [upd_ne (ne_of h.rem h.words (by intro z; cases z))]; exact h.rem
  · rw [upd_ne (fun z => n6 z.symm)]; exact h.grey
  · rw [upd_ne (fun z => n7 z.symm)]; exact h.ended
theorem MemAt.setN {CM : Addr} {H : Hp} {a : Ma} {c : Sz} {sh : List (List Bool)} {s : Ms} (h : MemAt CM H a c sh s) (ws : List Nat) : MemAt CM (upd H a.aN (.lst (natI ws))) a c sh { s with nexts := ws } := by
  have nl := h.nl
  simp only [List.nodup_cons, List.mem_cons, List.not_mem_nil, or_false, not_or, not_false_eq_true, List.nodup_nil, and_true] at nl
  obtain ⟨⟨n1, n2, n3, n4⟩, ⟨n5, n6, n7⟩, ⟨n8, n9⟩, n10⟩ := nl
  obtain ⟨ls, hL, ll, he⟩ := h.links
  have tt : TupSame H (upd H a.aN (.lst (natI ws))) := fun b xs e => by rw [upd_ne (ne_of e h.nexts (by intro z; cases z))]; exact e
  refine ⟨?_, h.shp.same tt, tt _ _ h.fi, ⟨ls, ?_, ll, fun i r b e1 e2 => tt _ _ (he i r b e1 e2)⟩, ?_, upd_same, ?_, ?_, ?_, ?_, ?_, h.nl, h.nd⟩
  · rw [upd_ne (ne_of h.at_ h.nexts (by intro z; cases z))]; exact h.at_
  · rw [upd_ne n2]; exact hL
  · rw [upd_ne n5]; exact h.words
  · rw [upd_ne (ne_of h.young h.nexts (by intro z; cases z))]; exact h.young
  · rw [upd_ne (ne_of h.old h.nexts (by intro z; cases z))]; exact h.old
  · rw [upd_ne (ne_of h.rem h.nexts (by intro z; cases z))]; exact h.rem
  · rw [upd_ne (fun z => n8 z.symm)]; exact h.grey
  · rw [upd_ne (fun z => n9 z.symm)]; exact h.ended
theorem MemAt.setY {CM : Addr} {H : Hp} {a : Ma} {c : Sz} {sh : List (List Bool)} {s : Ms} (h : MemAt CM H a c sh s) (ys : List Nat) : MemAt CM (upd H a.aY (.dK (dk ys))) a c sh { s with young := ys } := by
  have nl := h.nd
  simp only [List.nodup_cons, List.mem_cons, List.not_mem_nil, or_false, not_or, not_false_eq_true, List.nodup_nil, and_true] at nl
  obtain ⟨⟨n1, n2⟩, n3⟩ := nl
  obtain ⟨ls, hL, ll, he⟩ := h.links
  have tt : TupSame H (upd H a.aY (.dK (dk ys))) := fun b xs e => by rw [upd_ne (ne_of e h.young (by intro z; cases z))]; exact e
  refine ⟨?_, h.shp.same tt, tt _ _ h.fi, ⟨ls, ?_, ll, fun i r b e1 e2 => tt _ _ (he i r b e1 e2)⟩, ?_, ?_, upd_same, ?_, ?_, ?_, ?_, h.nl, h.nd⟩
  · rw [upd_ne (ne_of h.at_ h.young (by intro z; cases z))]; exact h.at_
  · rw [upd_ne (ne_of hL h.young (by intro z; cases z))]; exact hL
  · rw [upd_ne (ne_of h.words h.young (by intro z; cases z))]; exact h.words
  · rw [upd_ne (ne_of h.nexts h.young (by intro z; cases z))]; exact h.nexts
  · rw [upd_ne (fun z => n1 z.symm)]; exact h.old
  · rw [upd_ne (fun z => n2 z.symm)]; exact h.rem
  · rw [upd_ne (ne_of h.grey h.young (by intro z; cases z))]; exact h.grey
  · rw [upd_ne (ne_of h.ended h.young (by intro z; cases z))]; exact h.ended
theorem MemAt.setO {CM : Addr} {H : Hp} {a : Ma} {c : Sz} {sh : List (List Bool)} {s : Ms} (h : MemAt CM H a c sh s) (ys : List Nat) : MemAt CM (upd H a.aO (.dK (dk ys))) a c sh { s with old := ys } := by
  have nl := h.nd
  simp only [List.nodup_cons, List.mem_cons, List.not_mem_nil, or_false, not_or, not_false_eq_true, List.nodup_nil, and_true] at nl
  obtain ⟨⟨n1, n2⟩, n3⟩ := nl
  obtain ⟨ls, hL, ll, he⟩ := h.links
  have tt : TupSame H (upd H a.aO (.dK (dk ys))) := fun b xs e => by rw [upd_ne (ne_of e h.old (by intro z; cases z))]; exact e
  refine ⟨?_, h.shp.same tt, tt _ _ h.fi, ⟨ls, ?_, ll, fun i r b e1 e2 => tt _ _ (he i r b e1 e2)⟩, ?_, ?_, ?_, upd_same, ?_, ?_, ?_, h.nl, h.nd⟩
  · rw [upd_ne (ne_of h.at_ h.old (by intro z; cases z))]; exact h.at_
  · rw [upd_ne (ne_of hL h.old (by intro z; cases z))]; exact hL
  · rw [upd_ne (ne_of h.words h.old (by intro z; cases z))]; exact h.words
  · rw [upd_ne (ne_of h.nexts h.old (by intro z; cases z))]; exact h.nexts
  · rw [upd_ne n1]; exact h.young
  · rw [upd_ne (fun z => n3 z.symm)]; exact h.rem
  · rw [upd_ne (ne_of h.grey h.old (by intro z; cases z))]; exact h.grey
  · rw [upd_ne (ne_of h.ended h.old (by intro z; cases z))]; exact h.ended
theorem cut_two {xs : List V} {f x : Nat} (h1 : f ≤ x) (h2 : x ≤ xs.length) : cutV xs (some (f : Int)) (some (x : Int)) = (xs.drop f).take (x - f) := by
  unfold cutV
  rw [HT.sIx_nat, HT.sIx_nat, Nat.min_eq_left (by omega), Nat.min_eq_left (by omega)]
theorem cut_from {xs : List V} {f : Nat} (h1 : f ≤ xs.length) : cutV xs (some (f : Int)) none = xs.drop f := by
  unfold cutV
  rw [HT.sIx_nat, HT.sIx_none, Nat.min_eq_left (by omega), List.take_of_length_le (by rw [List.length_drop]; exact Nat.le_refl _)]
def roomW (c : Sz) (s : Ms) (r : Nat) : List Int := (s.words.drop (c.firsts.getD r 0)).take (s.nexts.getD r 0 - c.firsts.getD r 0)
def objW (k : Int) (colour n : Nat) : List Int := headW k 0 colour :: (n : Int) :: List.replicate n 0
theorem objW_len (k : Int) (col n : Nat) : (objW k col n).length = n + 2 := by simp [objW]
theorem kH' {l : List Addr} {H H1 H' : Hp} (S : Same H H1) (k : KeptL l H1 H') : KeptL l H H' := (KeptL.of_same S).trans k
def layY (s : Ms) (r x : Nat) (ws : List Int) : Ms := { s with words := s.words.take x ++ ws ++ s.words.drop (x + ws.length), nexts := s.nexts.set r (x + ws.length), young := s.young ++ [x] }
def layO (s : Ms) (ws : List Int) : Ms := { s with words := s.words ++ ws, old := s.old ++ [s.words.length] }
section
variable {P : Program} {w : World} {K : PySem.W.Frag} {mg : Str → Option Value} {base : Heap} {C_Moving C_Memory C_Heap : Addr}
def spMly (CM : Addr) : Sp := fun vs H Q _ => ∃ (a : Ma) (r x : Nat) (b : Addr) (ws : List Int) (c : Sz) (sh : List (List Bool)) (s : Ms), vs = [.ref a.m, .int r, .ref b] ∧ MemAt CM H a c sh s ∧ H b = some (.lst (ws.map V.int)) ∧ b ∉ a.own ∧ s.nexts[r]? = some x ∧ x + ws.length ≤ s.words.length ∧ s.words.length + ws.length ≤ 1000000 ∧
  x ∉ s.young ∧ s.young.length ≤ 1000000 ∧ ∀ H', MemAt CM H' a c sh (layY s r x ws) → KeptL a.own H H' → Q (.int x) H'
theorem ok_mly {f : Addr} {fd : FuncData} (G : Md K C_Memory "lay_young" "Memory.lay_young" s_Memory_lay_young ["self", "room", "words"] f fd) (X : Lw K mg C_Moving C_Memory C_Heap) : FnOk P w K mg base CX0 1 f fd ["self", "room", "words"] (spMly C_Memory) := by

  refine G.F.ok sc_Memory_lay_young (fun vs H Q E h => ?_) (fun cdv A outer s H vs Q E hr h => ?_)
  · obtain ⟨a, r, x, b, ws, c, sh, s, rfl, _⟩ := h; rfl
  · obtain ⟨a, r, x, b, ws, c, sh, s, rfl, hm, hb, nb, hx, h1, h2, h3, h4, q⟩ := h
    refine ⟨_, (pss_cons (ps_set (i := 3) sc_Memory_lay_young.nd rfl (Or.inl rfl) (pe_ix ix_list (pe_fld (pv 0) rfl) (pv 1) (fun _ _ => rfl)))
      (pss_cons (ps_asg (pv 2) (pg_slice (pe_fld (pv 0) rfl) (pv 3) (pe_op op_add (pv 3) (pe_callB call_len (by rfl) X.b_len PySem.boot_len (pa_cons (pv 2) pa_nil)))))
      (pss_cons (ps_asg (pe_op op_add (pv 3) (pe_callB call_len (by rfl) X.b_len PySem.boot_len (pa_cons (pv 2) pa_nil))) (pg_sub (pe_fld (pv 0) rfl) (pv 1) set_list))
      (pss_cons (ps_dput (hu_of hr) (pe_fld (pv 0) rfl) (pv 3) pe_bl rfl)
      (pss_one (ps_ret (pv 3))))))), ?_⟩
    have hrl := (List.getElem?_eq_some_iff.mp hx).1
    have bW : b ≠ a.aW := fun z => nb (by rw [z]; simp [Ma.own])
    have bN : b ≠ a.aN := fun z => nb (by rw [z]; simp [Ma.own])
    refine ⟨_, rfl, a.m, C_Memory, a.dx, MemF a c s, .ref a.aN, rfl, hm.at_, X.cl_Memory, X.n_Memory_nexts, rfl, _, rfl, a.aN, _, r, .int x, rfl, rfl, SqL.of hm.nexts, atI_nat (by unfold natI; rw [List.getElem?_map, hx]; rfl), ?_⟩
    refine ⟨_, rfl, _, rfl, a.m, C_Memory, a.dx, MemF a c s, .ref a.aW, rfl, hm.at_, X.cl_Memory, X.n_Memory_words, rfl, _, rfl, _, rfl, _, rfl, .ref b, ws.length, rfl, .inl ⟨_, SqL.of hb, by simp⟩, _, _, rfl, rfl, ?_⟩
    refine ⟨a.aW, b, _, _, x, ((x + ws.length : Nat) : Int), rfl, rfl, rfl, rfl, hm.words, hb, bW.symm, by omega, by omega, by rw [List.length_map]; omega, by rw [List.length_map, List.length_map]; exact Nat.le_of_lt (big (by omega)), ?_⟩
    have ew : (s.words.map V.int).take (x : Int).toNat ++ ws.map V.int ++ (s.words.map V.int).drop ((x + ws.length : Nat) : Int).toNat = (s.words.take x ++ ws ++ s.words.drop (x + ws.length)).map V.int := by
      rw [Int.toNat_natCast, Int.toNat_natCast, ← List.map_take, ← List.map_drop, List.map_append, List.map_append]
    rw [ew]
    have m1 := hm.setW (s.words.take x ++ ws ++ s.words.drop (x + ws.length))
    have hb1 : (upd H a.aW (.lst ((s.words.take x ++ ws ++ s.words.drop (x + ws.length)).map V.int))) b = some (.lst (ws.map V.int)) := by rw [upd_ne bW]; exact hb
    have k1 : KeptL a.own H (upd H a.aW (.lst ((s.words.take x ++ ws ++ s.words.drop (x + ws.length)).map V.int))) := kept_upd (by simp [Ma.own])
    refine ⟨_, rfl, _, rfl, .ref b, ws.length, rfl, .inl ⟨_, SqL.of hb1, by simp⟩, _, _, rfl, rfl, _, rfl, a.m, C_Memory, a.dx, MemF a c s, .ref a.aN, rfl, m1.at_, X.cl_Memory, X.n_Memory_nexts, rfl, _, rfl, a.aN, _, r, r, rfl, rfl, m1.nexts, ?_, ?_⟩
    · unfold ixN natI
      rw [List.length_map, if_pos (by omega), if_pos (by show (r : Int) < (s.nexts.length : Int); omega)]
      rfl
    have en : (natI s.nexts).set r (V.int ((x : Int) + (ws.length : Int))) = natI (s.nexts.set r (x + ws.length)) := by
      unfold natI
      rw [List.map_set]
      congr 1
    rw [show ({ s with words := s.words.take x ++ ws ++ s.words.drop (x + ws.length) } : Ms).nexts = s.nexts from rfl, en]
    have m2 := m1.setN (s.nexts.set r (x + ws.length))
    have k2 := k1.trans (kept_upd (l := a.own) (H := upd H a.aW (.lst ((s.words.take x ++ ws ++ s.words.drop (x + ws.length)).map V.int))) (p := a.aN) (o := .lst (natI (s.nexts.set r (x + ws.length)))) (by simp [Ma.own]))
    refine ⟨_, rfl, a.m, C_Memory, a.dx, MemF a c s, .ref a.aY, rfl, m2.at_, X.cl_Memory, X.n_Memory_young, rfl, _, rfl, a.aY, _, rfl, DPut.k (k := Sum.inl (x : Int)) m2.young (by unfold dk; rw [List.length_map]; exact big h4), ?_⟩
    rw [dk_put (show x ∉ s.young from h3)]
    have m3 := m2.setY (s.young ++ [x])
    exact ⟨_, rfl, q _ m3 (k2.trans (kept_upd (by simp [Ma.own])))⟩
def spMlo (CM : Addr) : Sp := fun vs H Q _ => ∃ (a : Ma) (b : Addr) (ws : List Int) (c : Sz) (sh : List (List Bool)) (s : Ms), vs = [.ref a.m, .ref b] ∧ MemAt CM H a c sh s ∧ H b = some (.lst (ws.map V.int)) ∧ b ∉ a.own ∧ s.words.length + ws.length ≤ 1000000 ∧
  s.words.length ∉ s.old ∧ s.old.length ≤ 1000000 ∧ ∀ H', MemAt CM H' a c sh (layO s ws) → KeptL a.own H H' → Q (.int s.words.length) H'
theorem ok_mlo {f : Addr} {fd : FuncData} (G : Md K C_Memory "lay_old" "Memory.lay_old" s_Memory_lay_old ["self", "words"] f fd) (X : Lw K mg C_Moving C_Memory C_Heap) : FnOk P w K mg base CX0 1 f fd ["self", "words"] (spMlo C_Memory) := by

  refine G.F.ok sc_Memory_lay_old (fun vs H Q E h => ?_) (fun cdv A outer s H vs Q E hr h => ?_)
  · obtain ⟨a, b, ws, c, sh, s, rfl, _⟩ := h; rfl
  · obtain ⟨a, b, ws, c, sh, s, rfl, hm, hb, nb, h2, h3, h4, q⟩ := h
    refine ⟨_, (pss_cons (ps_set (i := 2) sc_Memory_lay_old.nd rfl (Or.inl rfl) (pe_callB call_len (by rfl) X.b_len PySem.boot_len (pa_cons (pe_fld (pv 0) rfl) pa_nil)))
      (pss_cons (ps_expr (pe_bm PySem.F.plainAttrs_list PySem.F.slot_list_extend PySem.F.type_list_extend mt_extend (pe_fld (pv 0) rfl) (pa_cons (pv 1) pa_nil)))
      (pss_cons (ps_dput (hu_of hr) (pe_fld (pv 0) rfl) (pv 2) pe_bl rfl)
      (pss_one (ps_ret (pv 2)))))), ?_⟩
    refine ⟨_, rfl, a.m, C_Memory, a.dx, MemF a c s, .ref a.aW, rfl, hm.at_, X.cl_Memory, X.n_Memory_words, rfl, .ref a.aW, s.words.length, rfl, .inl ⟨_, SqL.of hm.words, by simp⟩, ?_⟩
    refine ⟨_, rfl, a.m, C_Memory, a.dx, MemF a c s, .ref a.aW, rfl, hm.at_, X.cl_Memory, X.n_Memory_words, rfl, .inl ⟨rfl, _, SqL.of hm.words⟩, _, rfl, a.aW, b, _, _, rfl, rfl, hm.words, hb, by rw [List.length_map, List.length_map]; exact Nat.le_of_lt (big h2), ?_⟩
    rw [← List.map_append]
    have m1 := hm.setW (s.words ++ ws)
    have k1 : KeptL a.own H (upd H a.aW (.lst ((s.words ++ ws).map V.int))) := kept_upd (by simp [Ma.own])
    refine ⟨_, rfl, a.m, C_Memory, a.dx, MemF a c s, .ref a.aO, rfl, m1.at_, X.cl_Memory, X.n_Memory_old, rfl, _, rfl, a.aO, _, rfl, DPut.k (k := Sum.inl (s.words.length : Int)) m1.old (by unfold dk; rw [List.length_map]; exact big h4), ?_⟩
    rw [dk_put (show s.words.length ∉ s.old from h3)]
    have m3 := m1.setO (s.old ++ [s.words.length])
    exact ⟨_, rfl, q _ m3 (k1.trans (kept_upd (by simp [Ma.own])))⟩
def spMroom (CM : Addr) : Sp := fun vs H Q _ => ∃ (a : Ma) (r f x : Nat) (c : Sz) (sh : List (List Bool)) (s : Ms), vs = [.ref a.m, .int r] ∧ MemAt CM H a c sh s ∧ c.firsts[r]? = some f ∧ s.nexts[r]? = some x ∧ f ≤ x ∧ x ≤ s.words.length ∧
  ∀ (l : Addr) (H' : Hp), Same H H' → H l = none → H' l = some (.lst ((roomW c s r).map V.int)) → Q (.ref l) H'
theorem ok_mroom {f : Addr} {fd : FuncData} (G : Md K C_Memory "room" "Memory.room" s_Memory_room ["self", "room"] f fd) (X : Lw K mg C_Moving C_Memory C_Heap) : FnOk P w K mg base CX0 1 f fd ["self", "room"] (spMroom C_Memory) := by

  refine G.F.ok sc_Memory_room (fun vs H Q E h => ?_) (fun cdv A outer s H vs Q E hr h => ?_)
  · obtain ⟨a, r, f, x, c, sh, s, rfl, _⟩ := h; rfl
  · obtain ⟨a, r, f, x, c, sh, s, rfl, hm, hf, hx, h1, h2, q⟩ := h
    refine ⟨_, (pss_one (ps_ret (pe_slice sl_list (pe_fld (pv 0) rfl) (po_some (pe_ix ix_tup (pe_fld (pv 0) rfl) (pv 1) (fun _ _ => rfl))) (po_some (pe_ix ix_list (pe_fld (pv 0) rfl) (pv 1) (fun _ _ => rfl)))))), ?_⟩
    refine ⟨_, rfl, a.m, C_Memory, a.dx, MemF a c s, .ref a.aW, rfl, hm.at_, X.cl_Memory, X.n_Memory_words, rfl, ?_⟩
    refine ⟨_, rfl, a.m, C_Memory, a.dx, MemF a c s, .ref a.aFi, rfl, hm.at_, X.cl_Memory, X.n_Memory_firsts, rfl, _, rfl, a.aFi, _, r, .int f, rfl, rfl, SqT.of hm.fi, atI_nat (by unfold natI; rw [List.getElem?_map, hf]; rfl), f, rfl, ?_⟩
    refine ⟨_, rfl, a.m, C_Memory, a.dx, MemF a c s, .ref a.aN, rfl, hm.at_, X.cl_Memory, X.n_Memory_nexts, rfl, _, rfl, a.aN, _, r, .int x, rfl, rfl, SqL.of hm.nexts, atI_nat (by unfold natI; rw [List.getElem?_map, hx]; rfl), x, rfl, ?_⟩
    refine ⟨a.aW, _, rfl, SqL.of hm.words, fun l nl => q l _ (same_new nl) nl ?_⟩
    rw [upd_same, cut_two h1 (by rw [List.length_map]; exact h2), ← List.map_drop, ← List.map_take]
    unfold roomW
    rw [List.getD_eq_getElem?_getD, List.getD_eq_getElem?_getD, hf, hx]
    rfl
def spMold (CM : Addr) : Sp := fun vs H Q _ => ∃ (a : Ma) (c : Sz) (sh : List (List Bool)) (s : Ms), vs = [.ref a.m] ∧ MemAt CM H a c sh s ∧ c.fo ≤ s.words.length ∧
  ∀ (l : Addr) (H' : Hp), Same H H' → H l = none → H' l = some (.lst ((s.words.drop c.fo).map V.int)) → Q (.ref l) H'
theorem ok_mold {f : Addr} {fd : FuncData} (G : Md K C_Memory "old_room" "Memory.old_room" s_Memory_old_room ["self"] f fd) (X : Lw K mg C_Moving C_Memory C_Heap) : FnOk P w K mg base CX0 1 f fd ["self"] (spMold C_Memory) := by

  refine G.F.ok sc_Memory_old_room (fun vs H Q E h => ?_) (fun cdv A outer s H vs Q E hr h => ?_)
  · obtain ⟨a, c, sh, s, rfl, _⟩ := h; rfl
  · obtain ⟨a, c, sh, s, rfl, hm, h1, q⟩ := h
    refine ⟨_, (pss_one (ps_ret (pe_slice sl_list (pe_fld (pv 0) rfl) (po_some (pe_fld (pv 0) rfl)) po_none))), ?_⟩
    refine ⟨_, rfl, a.m, C_Memory, a.dx, MemF a c s, .ref a.aW, rfl, hm.at_, X.cl_Memory, X.n_Memory_words, rfl, ?_⟩
    refine ⟨_, rfl, a.m, C_Memory, a.dx, MemF a c s, .int c.fo, rfl, hm.at_, X.cl_Memory, X.n_Memory_first_old, rfl, c.fo, rfl, ?_⟩
    refine ⟨a.aW, _, rfl, SqL.of hm.words, fun l nl => q l _ (same_new nl) nl ?_⟩
    rw [upd_same, cut_from (by rw [List.length_map]; exact h1), ← List.map_drop]
def spMgrey (CM : Addr) : Sp := fun vs H Q _ => ∃ (a : Ma) (c : Sz) (sh : List (List Bool)) (s : Ms), vs = [.ref a.m] ∧ MemAt CM H a c sh s ∧ s.done ≤ s.grey.length ∧
  ∀ (l : Addr) (H' : Hp), Same H H' → H l = none → H' l = some (.lst (natI (s.grey.drop s.done))) → Q (.ref l) H'
theorem ok_mgrey {f : Addr} {fd : FuncData} (G : Md K C_Memory "grey_row" "Memory.grey_row" s_Memory_grey_row ["self"] f fd) (X : Lw K mg C_Moving C_Memory C_Heap) : FnOk P w K mg base CX0 1 f fd ["self"] (spMgrey C_Memory) := by

  refine G.F.ok sc_Memory_grey_row (fun vs H Q E h => ?_) (fun cdv A outer s H vs Q E hr h => ?_)
  · obtain ⟨a, c, sh, s, rfl, _⟩ := h; rfl
  · obtain ⟨a, c, sh, s, rfl, hm, h1, q⟩ := h
    refine ⟨_, (pss_one (ps_ret (pe_slice sl_list (pe_fld (pv 0) rfl) (po_some (pe_fld (pv 0) rfl)) po_none))), ?_⟩
    refine ⟨_, rfl, a.m, C_Memory, a.dx, MemF a c s, .ref a.aG, rfl, hm.at_, X.cl_Memory, X.n_Memory_grey, rfl, ?_⟩
    refine ⟨_, rfl, a.m, C_Memory, a.dx, MemF a c s, .int s.done, rfl, hm.at_, X.cl_Memory, X.n_Memory_done, rfl, s.done, rfl, ?_⟩
    refine ⟨a.aG, _, rfl, SqL.of hm.grey, fun l nl => q l _ (same_new nl) nl ?_⟩
    rw [upd_same, cut_from (by unfold natI; rw [List.length_map]; exact h1)]
    unfold natI
    rw [← List.map_drop]
def spMmake (CM : Addr) : Sp := fun vs H Q _ => ∃ (a : Ma) (k : Int) (n x : Nat) (c : Sz) (sh : List (List Bool)) (s : Ms), vs = [.ref a.m, .int k, .int n] ∧ MemAt CM H a c sh s ∧ k.natAbs < 1000 ∧ n ≤ 1000 ∧ s.words.length ≤ 900000 ∧ s.old.length ≤ 900000 ∧ s.young.length ≤ 900000 ∧ s.words.length ∉ s.old ∧
  (c.2.2.1 < 2 + n ∨ (s.nexts[0]? = some x ∧ x + (n + 2) ≤ s.words.length ∧ x ∉ s.young)) ∧
  (c.2.2.1 < 2 + n → ∀ H', MemAt CM H' a c sh (layO s (objW k (if s.marks = true then 2 else 0) n)) → KeptL a.own H H' → Q (.int s.words.length) H') ∧
  (¬ c.2.2.1 < 2 + n → ∀ H', MemAt CM H' a c sh (layY s 0 x (objW k 0 n)) → KeptL a.own H H' → Q (.int x) H')
theorem ok_mmake {f : Addr} {fd : FuncData} (G : Md K C_Memory "make" "Memory.make" s_Memory_make ["self", "kind", "slots"] f fd) (X : Lw K mg C_Moving C_Memory C_Heap) : FnOk P w K mg base CX0 2 f fd ["self", "kind", "slots"] (spMmake C_Memory) := by
  obtain ⟨f_Memory_is_great, d_Memory_is_great, M_Memory_is_great⟩ := X.m_Memory_is_great
  have H_Memory_is_great : FnOk P w K mg base CX0 1 f_Memory_is_great d_Memory_is_great ["self", "slots"] (spMgreat C_Memory) := ok_mgreat M_Memory_is_great X
  obtain ⟨f_Memory_lay_old, d_Memory_lay_old, M_Memory_lay_old⟩ := X.m_Memory_lay_old
  have H_Memory_lay_old : FnOk P w K mg base CX0 1 f_Memory_lay_old d_Memory_lay_old ["self", "words"] (spMlo C_Memory) := ok_mlo M_Memory_lay_old X
  obtain ⟨f_Memory_lay_young, d_Memory_lay_young, M_Memory_lay_young⟩ := X.m_Memory_lay_young
  have H_Memory_lay_young : FnOk P w K mg base CX0 1 f_Memory_lay_young d_Memory_lay_young ["self", "room", "words"] (spMly C_Memory) := ok_mly M_Memory_lay_young X
  obtain ⟨f_head_word, d_head_word, G_head_word⟩ := X.f_head_word
  have H_head_word : FnOk P w K mg base CX0 1 f_head_word d_head_word ["kind", "age", "colour"] (spHw) := ok_hw G_head_word X
  obtain ⟨_, m_BLACK⟩ := X.c_BLACK
  obtain ⟨_, m_WHITE⟩ := X.c_WHITE
  refine G.F.ok sc_Memory_make (fun vs H Q E h => ?_) (fun cdv A outer s H vs Q E hr h => ?_)
  · obtain ⟨a, k, n, x, c, sh, s, rfl, _⟩ := h; rfl
  · obtain ⟨a, k, n, x, c, sh, s, rfl, hm, hk, hn, h1, h2, h3, h4, hw, q1, q2⟩ := h
    refine ⟨_, (C8.pss_cut (ps_set (i := 3) sc_Memory_make.nd rfl (Or.inl rfl) (pe_ifExp (PW.pt (pw_and (pt_val (pe_fld (pv 0) rfl)) (pw_and1 (pt_val (pe_meth (pv 0) X.cl_Memory M_Memory_is_great.m H_Memory_is_great hr M_Memory_is_great.b .nil pass0 (pa_cons (pv 2) pa_nil)))))) (pe_glob (v := .int (2)) (by rfl) m_BLACK ⟨_, rfl⟩) (pe_glob (v := .int (0)) (by rfl) m_WHITE ⟨_, rfl⟩)))
      (pss_cons (ps_set (i := 4) sc_Memory_make.nd rfl (Or.inl rfl) (pe_op op_cat (pe_lst (pa_cons (pe_call H_head_word hr (by rfl) G_head_word.g G_head_word.F.kp G_head_word.b .nil pass0 (pa_cons (pv 1) (pa_cons pe_int (pa_cons (pv 3) pa_nil)))) (pa_cons (pv 2) pa_nil))) (pe_op op_rep (pe_lst (pa_cons pe_int pa_nil)) (pv 2))))
      (pss_one (ps_ret (pe_ifExp (pt_val (pe_meth (pv 0) X.cl_Memory M_Memory_is_great.m H_Memory_is_great hr M_Memory_is_great.b .nil pass0 (pa_cons (pv 2) pa_nil))) (pe_meth (pv 0) X.cl_Memory M_Memory_lay_old.m H_Memory_lay_old hr M_Memory_lay_old.b .nil pass0 (pa_cons (pv 4) pa_nil)) (pe_meth (pv 0) X.cl_Memory M_Memory_lay_young.m H_Memory_lay_young hr M_Memory_lay_young.b .nil pass0 (pa_cons pe_int (pa_cons (pv 4) pa_nil)))))))), ?_⟩
    refine ⟨fun σ' H' => ∃ col : Nat, σ' = [some (.ref a.m), some (.int k), some (.int n), some (.int col), none] ∧ H = H' ∧ col = (if s.marks = true ∧ c.2.2.1 < 2 + n then 2 else 0), ?_, ?_⟩
    · refine ⟨_, rfl, a.m, C_Memory, a.dx, MemF a c s, .bl s.marks, rfl, hm.at_, X.cl_Memory, X.n_Memory_marks, rfl, _, rfl, ?_⟩
      cases hmk : s.marks with
      | false => exact iteF (iteF ⟨0, rfl, rfl, by simp⟩)
      | true =>
        refine iteT ⟨_, rfl, a.m, a.dx, MemF a c s, rfl, hm.at_, memF_no (by decide), _, rfl, a, n, c, sh, s, rfl, hm, _, rfl, ?_⟩
        by_cases hg : c.2.2.1 < 2 + n
        · rw [decide_eq_true hg]
          exact iteT ⟨2, rfl, rfl, by rw [if_pos ⟨rfl, hg⟩]⟩
        · rw [decide_eq_false hg]
          exact iteF ⟨0, rfl, rfl, by rw [if_neg (fun z => hg z.2)]⟩
    · rintro _ _ ⟨col, rfl, rfl, hcol⟩
      have hc3 : col < 3 := by rw [hcol]; split <;> omega
      refine ⟨_, rfl, _, rfl, k, 0, col, rfl, hk, by omega, _, rfl, by show 2 ≤ _; decide, fun p1 n1 => ?_⟩
      refine ⟨by show 1 ≤ _; decide, fun p2 n2 => ⟨_, rfl, p2, n, _, rfl, rfl, upd_same, by omega, by omega, by
        show 1 * ((n : Nat) : Int).toNat ≤ _
        rw [Int.toNat_natCast, Nat.one_mul]
        exact Nat.le_of_lt (big (by omega)), fun p3 n3 => ?_⟩⟩
      have n13 : p1 ≠ p3 := fun z => by
        rw [← z, upd_ne (ne_of_none upd_same n2), upd_same] at n3
        cases n3
      have e1 : upd (upd (upd H p1 (.lst [V.int (headW k 0 col), V.int n])) p2 (.lst [V.int 0])) p3 (.lst (List.replicate ((n : Nat) : Int).toNat [V.int 0]).flatten) p1 = some (.lst [V.int (headW k 0 col), V.int n]) := by
        rw [upd_ne n13, upd_ne (ne_of_none upd_same n2), upd_same]
      have s3 : Same H (upd (upd (upd H p1 (.lst [V.int (headW k 0 col), V.int n])) p2 (.lst [V.int 0])) p3 (.lst (List.replicate ((n : Nat) : Int).toNat [V.int 0]).flatten)) := ((same_new n1).trans (same_new n2)).trans (same_new n3)
      have ez : (List.replicate ((n : Nat) : Int).toNat [V.int 0]).flatten = (List.replicate n (0 : Int)).map V.int := by
        rw [Int.toNat_natCast, List.map_replicate, List.flatten_replicate_singleton]
      refine ⟨p1, p3, [V.int (headW k 0 col), V.int n], (List.replicate n (0 : Int)).map V.int, rfl, rfl, e1, by rw [upd_same, ez], by rw [List.length_map, List.length_replicate]; exact Nat.le_of_lt (big (by show 2 + n ≤ _; omega)), fun p n4 => ?_⟩
      rw [show ([V.int (headW k 0 col), V.int (n : Int)] ++ (List.replicate n (0 : Int)).map V.int) = (objW k col n).map V.int from rfl]
      have S := s3.trans (same_new (o := .lst ((objW k col n).map V.int)) n4)
      have nb : p ∉ a.own := fun z => by
        obtain ⟨o, ho, _⟩ := hm.ownAt p z
        rw [s3 _ _ ho] at n4
        cases n4
      revert S n4
      generalize upd (upd (upd H p1 (.lst [V.int (headW k 0 col), V.int n])) p2 (.lst [V.int 0])) p3 (.lst (List.replicate ((n : Nat) : Int).toNat [V.int 0]).flatten) = H3
      intro n4 S
      have hb : upd H3 p (.lst ((objW k col n).map V.int)) p = some (.lst ((objW k col n).map V.int)) := upd_same
      revert S hb
      generalize upd H3 p (.lst ((objW k col n).map V.int)) = H4
      intro S hb
      have m4 := hm.same S
      refine ⟨_, rfl, a.m, a.dx, MemF a c s, rfl, m4.at_, memF_no (by decide), _, rfl, a, n, c, sh, s, rfl, m4, _, rfl, ?_⟩
      by_cases hg : c.2.2.1 < 2 + n
      · rw [decide_eq_true hg]
        refine iteT ⟨_, rfl, a.m, a.dx, MemF a c s, rfl, m4.at_, memF_no (by decide), _, rfl, a, p, objW k col n, c, sh, s, rfl, m4, hb, nb, by rw [objW_len]; omega, h4, by omega, fun H' mH kH => q1 hg H' ?_ (kH' S kH)⟩
        have : col = if s.marks = true then 2 else 0 := by rw [hcol]; simp [hg]
        rw [← this]
        exact mH
      · rw [decide_eq_false hg]
        have hc0 : col = 0 := by rw [hcol, if_neg (fun z => hg z.2)]
        rcases hw with hw | ⟨w1, w2, w3⟩
        · exact absurd hw hg
        · refine iteF ⟨_, rfl, a.m, a.dx, MemF a c s, rfl, m4.at_, memF_no (by decide), _, rfl, a, 0, x, p, objW k col n, c, sh, s, rfl, m4, hb, nb, w1, by rw [objW_len]; omega, by rw [objW_len]; omega, w3, by omega, fun H' mH kH => q2 hg H' ?_ (kH' S kH)⟩
          rw [hc0] at mH
          exact mH
end
end PH

/-! What a heap is asked. -/
namespace PH
open PySem PySem.Spec PyProof.Rows L2 KA KI KK PV T ET
abbrev HpF (a : Ma) : List (Str × V) := [("memory", .ref a.m)]
structure HpAt (CH CM : Addr) (H : Hp) (h : Addr) (a : Ma) (c : Sz) (sh : List (List Bool)) (s : Ms) : Prop where
  at_ : ∃ dx, H h = some (.ins CH dx (HpF a))
  mem : MemAt CM H a c sh s
theorem HpAt.same {CH CM : Addr} {H H' : Hp} {h : Addr} {a : Ma} {c : Sz} {sh : List (List Bool)} {s : Ms} (x : HpAt CH CM H h a c sh s) (k : Same H H') : HpAt CH CM H' h a c sh s := ⟨x.at_.imp fun _ e => k _ _ e, x.mem.same k⟩
theorem HpAt.notown {CH CM : Addr} {H : Hp} {h : Addr} {a : Ma} {c : Sz} {sh : List (List Bool)} {s : Ms} (x : HpAt CH CM H h a c sh s) : h ∉ a.own := fun z => by
  obtain ⟨dx, e⟩ := x.at_
  have m := x.mem
  obtain ⟨ls, hL, _⟩ := m.links
  have hb : h ∈ [a.m, a.aL, a.aW, a.aN, a.aY, a.aO, a.aR, a.aG, a.aE] := z
  simp only [List.mem_cons, List.not_mem_nil, or_false] at hb
  have g : ∀ {o : HO}, (∀ C d f, o = .ins C d f → f.length ≠ 1) → H h = some o → False := fun p q => by
    rw [e] at q
    cases q
    exact p _ _ _ rfl rfl
  rcases hb with rfl | rfl | rfl | rfl | rfl | rfl | rfl | rfl | rfl
  · exact g (by intro C d f z; cases z; simp [MemF]) m.at_
  · exact g (by intro C d f z; cases z) hL
  · exact g (by intro C d f z; cases z) m.words
  · exact g (by intro C d f z; cases z) m.nexts
  · exact g (by intro C d f z; cases z) m.young
  · exact g (by intro C d f z; cases z) m.old
  · exact g (by intro C d f z; cases z) m.rem
  · exact g (by intro C d f z; cases z) m.grey
  · exact g (by intro C d f z; cases z) m.ended
theorem hpF_no {a : Ma} {m : Str} (h : m ≠ "memory") : (HpF a).lookup m = none := by
  have e : (m == ("memory" : Str)) = false := by simpa using h
  simp [HpF, List.lookup, e]
def isOb (s : Ms) (x : Int) : Bool := inL s.old x || inL s.young x
def rootsIn (s : Ms) (rs : List Int) : Prop := ∀ r ∈ rs, r = 0 ∨ isOb s r = true
section
variable {P : Program} {w : World} {K : PySem.W.Frag} {mg : Str → Option Value} {base : Heap} {C_Moving C_Memory C_Heap : Addr}
def spArr (CM : Addr) : Sp := fun vs H Q _ => ∃ (b : Addr) (rs : List Int) (a : Ma) (c : Sz) (sh : List (List Bool)) (s : Ms), vs = [.ref b, .ref a.m] ∧ H b = some (.tup (rs.map V.int)) ∧ rs.length ≤ 40000 ∧ rootsIn s rs ∧ MemAt CM H a c sh s ∧ Q (.bl true) H
theorem ok_arr {f : Addr} {fd : FuncData} (G : Gd K mg "are_roots" s_are_roots ["roots", "holder"] f fd) (X : Lw K mg C_Moving C_Memory C_Heap) : FnOk P w K mg base CX0 2 f fd ["roots", "holder"] (spArr C_Memory) := by
  obtain ⟨f_Memory_is_object, d_Memory_is_object, M_Memory_is_object⟩ := X.m_Memory_is_object
  have H_Memory_is_object : FnOk P w K mg base CX0 1 f_Memory_is_object d_Memory_is_object ["self", "address"] (spMiso C_Memory) := ok_miso M_Memory_is_object X
  obtain ⟨f_is_integer, d_is_integer, G_is_integer⟩ := X.f_is_integer
  have H_is_integer : FnOk P w K mg base CX0 1 f_is_integer d_is_integer ["thing"] (spInt) := ok_int G_is_integer X
  obtain ⟨f_is_tuple_to, d_is_tuple_to, G_is_tuple_to⟩ := X.f_is_tuple_to
  have H_is_tuple_to : FnOk P w K mg base CX0 1 f_is_tuple_to d_is_tuple_to ["thing", "most"] (spTto) := ok_tto G_is_tuple_to X
  obtain ⟨_, m_MOST_ROOTS⟩ := X.c_MOST_ROOTS
  refine G.F.ok sc_are_roots (fun vs H Q E h => ?_) (fun cdv A outer s H vs Q E hr h => ?_)
  · obtain ⟨b, rs, a, c, sh, s, rfl, _⟩ := h; rfl
  · obtain ⟨b, rs, a, c, sh, s, rfl, hb, hl, hr2, hm, q⟩ := h
    refine ⟨_, (pss_cons (ps_if (pt_not (pt_val (pe_call H_is_tuple_to hr (by rfl) G_is_tuple_to.g G_is_tuple_to.F.kp G_is_tuple_to.b .nil pass0 (pa_cons (pv 0) (pa_cons (pe_glob (v := .int (40000)) (by rfl) m_MOST_ROOTS ⟨_, rfl⟩) pa_nil)))))
        (pss_one (ps_ret pe_bl)) pss_nil)
      (pss_cons (ps_for PassesOwn.never rfl (pi_tup (pv 0)) (pg_name (i := 2) sc_are_roots.nd rfl (Or.inl rfl))
        (pss_one (ps_if (PW.pt (pw_or (pt_not (pt_val (pe_call H_is_integer hr (by rfl) G_is_integer.g G_is_integer.F.kp G_is_integer.b .nil pass0 (pa_cons (pv 2) pa_nil)))) (pw_or1 (PW.pt (pw_and (pt_cmpR op_ne (pv 2) pe_int (nomark _)) (pw_and1 (pt_not (pt_val (pe_meth (pv 1) X.cl_Memory M_Memory_is_object.m H_Memory_is_object hr M_Memory_is_object.b .nil pass0 (pa_cons (pv 2) pa_nil))))))))))
        (pss_one (ps_ret pe_bl)) pss_nil)))
      (pss_one (ps_ret pe_bl)))), ?_⟩
    refine ⟨_, rfl, b, _, 40000, rfl, hb, _, rfl, ?_⟩
    rw [decide_eq_true (show ((rs.map V.int).length : Int) ≤ 40000 by rw [List.length_map]; omega)]
    refine iteF ?_
    refine ⟨_, rfl, b, rfl, ⟨_, SqT.of hb⟩, for_tup (xs := rs.map V.int) (fun i σ H' => H' = H ∧ ∃ o1, σ = [some (.ref b), some (.ref a.m), o1]) ⟨rfl, _, rfl⟩ ?_ ?_ ?_⟩
    · rintro i σ H' _ ⟨rfl, _⟩
      exact SqT.of hb
    · rintro i x σ H' hx ⟨rfl, o1, rfl⟩
      rw [List.getElem?_map] at hx
      obtain ⟨r, er, rfl⟩ := Option.map_eq_some_iff.mp hx
      have hr := hr2 r (List.mem_of_getElem? er)
      refine ⟨_, rfl, r, rfl, true, rfl, iteF ?_⟩
      refine ⟨_, rfl, rfl, _, rfl, ?_⟩
      by_cases e : r = 0
      · subst e
        exact iteF (iteF ⟨rfl, _, rfl⟩)
      · have : (!decide (V.int r = V.int 0)) = true := by simp [e]
        rw [this]
        refine iteT ⟨_, rfl, a.m, a.dx, MemF a c s, rfl, hm.at_, memF_no (by decide), _, rfl, a, r, c, sh, s, rfl, hm, _, rfl, ?_⟩
        rw [show (inL s.old r || inL s.young r) = true from hr.resolve_left e]
        exact iteF ⟨rfl, _, rfl⟩
    · rintro σ H' ⟨rfl, o1, rfl⟩
      exact q
def spLar (CM : Addr) : Sp := fun vs H Q _ => ∃ (b : Addr) (rs : List Int) (a : Ma) (c : Sz) (sh : List (List Bool)) (s : Ms), vs = [.ref b, .ref a.m] ∧ H b = some (.tup (rs.map V.int)) ∧ rs.length ≤ 40000 ∧ rootsIn s rs ∧ MemAt CM H a c sh s ∧ Q .non H
theorem ok_lar {f : Addr} {fd : FuncData} (G : Gd K mg "look_at_roots" s_look_at_roots ["roots", "holder"] f fd) (X : Lw K mg C_Moving C_Memory C_Heap) : FnOk P w K mg base CX0 3 f fd ["roots", "holder"] (spLar C_Memory) := by
  obtain ⟨f_are_roots, d_are_roots, G_are_roots⟩ := X.f_are_roots
  have H_are_roots : FnOk P w K mg base CX0 2 f_are_roots d_are_roots ["roots", "holder"] (spArr C_Memory) := ok_arr G_are_roots X
  refine G.F.ok sc_look_at_roots (fun vs H Q E h => ?_) (fun cdv A outer s H vs Q E hr h => ?_)
  · obtain ⟨b, rs, a, c, sh, s, rfl, _⟩ := h; rfl
  · obtain ⟨b, rs, a, c, sh, s, rfl, hb, hl, hr2, hm, q⟩ := h
    refine ⟨_, (pss_one (ps_if (pt_not (pt_val (pe_call H_are_roots hr (by rfl) G_are_roots.g G_are_roots.F.kp G_are_roots.b .nil pass0 (pa_cons (pv 0) (pa_cons (pv 1) pa_nil)))))
        pss_never pss_nil)), ?_⟩
    exact ⟨_, rfl, _, rfl, b, rs, a, c, sh, s, rfl, hb, hl, hr2, hm, _, rfl, iteF q⟩
def spHla (CH CM : Addr) : Sp := fun vs H Q _ => ∃ (h b : Addr) (rs : List Int) (a : Ma) (c : Sz) (sh : List (List Bool)) (s : Ms), vs = [.ref h, .ref b] ∧ HpAt CH CM H h a c sh s ∧ H b = some (.tup (rs.map V.int)) ∧ rs.length ≤ 40000 ∧ rootsIn s rs ∧ Q .non H
theorem ok_hla {f : Addr} {fd : FuncData} (G : Md K C_Heap "look_at" "Heap.look_at" s_Heap_look_at ["self", "roots"] f fd) (X : Lw K mg C_Moving C_Memory C_Heap) : FnOk P w K mg base CX0 4 f fd ["self", "roots"] (spHla C_Heap C_Memory) := by
  obtain ⟨f_look_at_roots, d_look_at_roots, G_look_at_roots⟩ := X.f_look_at_roots
  have H_look_at_roots : FnOk P w K mg base CX0 3 f_look_at_roots d_look_at_roots ["roots", "holder"] (spLar C_Memory) := ok_lar G_look_at_roots X
  refine G.F.ok sc_Heap_look_at (fun vs H Q E h => ?_) (fun cdv A outer s H vs Q E hr h => ?_)
  · obtain ⟨hp, b, rs, a, c, sh, s, rfl, _⟩ := h; rfl
  · obtain ⟨hp, b, rs, a, c, sh, s, rfl, hh, hb, hl, hr2, q⟩ := h
    obtain ⟨dx, hd⟩ := hh.at_
    refine ⟨_, (pss_one (ps_expr (pe_call H_look_at_roots hr (by rfl) G_look_at_roots.g G_look_at_roots.F.kp G_look_at_roots.b .nil pass0 (pa_cons (pv 1) (pa_cons (pe_fld (pv 0) rfl) pa_nil))))), ?_⟩
    exact ⟨_, rfl, _, rfl, hp, C_Heap, dx, HpF a, .ref a.m, rfl, hd, X.cl_Heap, X.n_Heap_memory, rfl, b, rs, a, c, sh, s, rfl, hb, hl, hr2, hh.mem, q⟩
def spHlaa (CH CM : Addr) : Sp := fun vs H Q _ => ∃ (h : Addr) (x : Int) (a : Ma) (c : Sz) (sh : List (List Bool)) (s : Ms), vs = [.ref h, .int x] ∧ HpAt CH CM H h a c sh s ∧ isOb s x = true ∧ Q .non H
theorem ok_hlaa {f : Addr} {fd : FuncData} (G : Md K C_Heap "look_at_address" "Heap.look_at_address" s_Heap_look_at_address ["self", "address"] f fd) (X : Lw K mg C_Moving C_Memory C_Heap) : FnOk P w K mg base CX0 2 f fd ["self", "address"] (spHlaa C_Heap C_Memory) := by
  obtain ⟨f_Memory_is_object, d_Memory_is_object, M_Memory_is_object⟩ := X.m_Memory_is_object
  have H_Memory_is_object : FnOk P w K mg base CX0 1 f_Memory_is_object d_Memory_is_object ["self", "address"] (spMiso C_Memory) := ok_miso M_Memory_is_object X
  obtain ⟨f_is_integer, d_is_integer, G_is_integer⟩ := X.f_is_integer
  have H_is_integer : FnOk P w K mg base CX0 1 f_is_integer d_is_integer ["thing"] (spInt) := ok_int G_is_integer X
  refine G.F.ok sc_Heap_look_at_address (fun vs H Q E h => ?_) (fun cdv A outer s H vs Q E hr h => ?_)
  · obtain ⟨hp, x, a, c, sh, s, rfl, _⟩ := h; rfl
  · obtain ⟨hp, x, a, c, sh, s, rfl, hh, hx, q⟩ := h
    obtain ⟨dx, hd⟩ := hh.at_
    refine ⟨_, (pss_one (ps_if (PW.pt (pw_or (pt_not (pt_val (pe_call H_is_integer hr (by rfl) G_is_integer.g G_is_integer.F.kp G_is_integer.b .nil pass0 (pa_cons (pv 1) pa_nil)))) (pw_or1 (pt_not (pt_val (pe_meth (pe_fld (pv 0) rfl) X.cl_Memory M_Memory_is_object.m H_Memory_is_object hr M_Memory_is_object.b .nil pass0 (pa_cons (pv 1) pa_nil)))))))
        pss_never pss_nil)), ?_⟩
    refine ⟨_, rfl, x, rfl, true, rfl, iteF ?_⟩
    refine ⟨_, rfl, hp, C_Heap, dx, HpF a, .ref a.m, rfl, hd, X.cl_Heap, X.n_Heap_memory, rfl, a.m, a.dx, MemF a c s, rfl, hh.mem.at_, memF_no (by decide), _, rfl, a, x, c, sh, s, rfl, hh.mem, _, rfl, ?_⟩
    rw [show (inL s.old x || inL s.young x) = true from hx]
    exact iteF q
def spHkind (CH CM : Addr) : Sp := fun vs H Q _ => ∃ (h : Addr) (x : Nat) (w : Int) (a : Ma) (c : Sz) (sh : List (List Bool)) (s : Ms), vs = [.ref h, .int x] ∧ HpAt CH CM H h a c sh s ∧ isOb s x = true ∧ s.words[x]? = some w ∧ Q (.int (w / 64 - 3)) H
theorem ok_hkind {f : Addr} {fd : FuncData} (G : Md K C_Heap "kind" "Heap.kind" s_Heap_kind ["self", "address"] f fd) (X : Lw K mg C_Moving C_Memory C_Heap) : FnOk P w K mg base CX0 3 f fd ["self", "address"] (spHkind C_Heap C_Memory) := by
  obtain ⟨f_Memory_kind, d_Memory_kind, M_Memory_kind⟩ := X.m_Memory_kind
  have H_Memory_kind : FnOk P w K mg base CX0 2 f_Memory_kind d_Memory_kind ["self", "address"] (spMkind C_Memory) := ok_mkind M_Memory_kind X
  obtain ⟨f_Heap_look_at_address, d_Heap_look_at_address, M_Heap_look_at_address⟩ := X.m_Heap_look_at_address
  have H_Heap_look_at_address : FnOk P w K mg base CX0 2 f_Heap_look_at_address d_Heap_look_at_address ["self", "address"] (spHlaa C_Heap C_Memory) := ok_hlaa M_Heap_look_at_address X
  refine G.F.ok sc_Heap_kind (fun vs H Q E h => ?_) (fun cdv A outer s H vs Q E hr h => ?_)
  · obtain ⟨hp, x, u, a, c, sh, s, rfl, _⟩ := h; rfl
  · obtain ⟨hp, x, u, a, c, sh, s, rfl, hh, hx, hw, q⟩ := h
    obtain ⟨dx, hd⟩ := hh.at_
    refine ⟨_, (pss_cons (ps_expr (pe_meth (pv 0) X.cl_Heap M_Heap_look_at_address.m H_Heap_look_at_address hr M_Heap_look_at_address.b .nil pass0 (pa_cons (pv 1) pa_nil)))
      (pss_one (ps_ret (pe_meth (pe_fld (pv 0) rfl) X.cl_Memory M_Memory_kind.m H_Memory_kind hr M_Memory_kind.b .nil pass0 (pa_cons (pv 1) pa_nil))))), ?_⟩
    refine ⟨_, rfl, hp, dx, HpF a, rfl, hd, hpF_no (by decide), _, rfl, hp, x, a, c, sh, s, rfl, hh, hx, ?_⟩
    exact ⟨_, rfl, hp, C_Heap, dx, HpF a, .ref a.m, rfl, hd, X.cl_Heap, X.n_Heap_memory, rfl, a.m, a.dx, MemF a c s, rfl, hh.mem.at_, memF_no (by decide), _, rfl, a, x, u, c, sh, s, rfl, hh.mem, hw, q⟩
def spHslots (CH CM : Addr) : Sp := fun vs H Q _ => ∃ (h : Addr) (x : Nat) (w : Int) (a : Ma) (c : Sz) (sh : List (List Bool)) (s : Ms), vs = [.ref h, .int x] ∧ HpAt CH CM H h a c sh s ∧ isOb s x = true ∧ s.words[x + 1]? = some w ∧ Q (.int w) H
theorem ok_hslots {f : Addr} {fd : FuncData} (G : Md K C_Heap "slots" "Heap.slots" s_Heap_slots ["self", "address"] f fd) (X : Lw K mg C_Moving C_Memory C_Heap) : FnOk P w K mg base CX0 3 f fd ["self", "address"] (spHslots C_Heap C_Memory) := by
  obtain ⟨f_Memory_slots, d_Memory_slots, M_Memory_slots⟩ := X.m_Memory_slots
  have H_Memory_slots : FnOk P w K mg base CX0 1 f_Memory_slots d_Memory_slots ["self", "address"] (spMslots C_Memory) := ok_mslots M_Memory_slots X
  obtain ⟨f_Heap_look_at_address, d_Heap_look_at_address, M_Heap_look_at_address⟩ := X.m_Heap_look_at_address
  have H_Heap_look_at_address : FnOk P w K mg base CX0 2 f_Heap_look_at_address d_Heap_look_at_address ["self", "address"] (spHlaa C_Heap C_Memory) := ok_hlaa M_Heap_look_at_address X
  refine G.F.ok sc_Heap_slots (fun vs H Q E h => ?_) (fun cdv A outer s H vs Q E hr h => ?_)
  · obtain ⟨hp, x, u, a, c, sh, s, rfl, _⟩ := h; rfl
  · obtain ⟨hp, x, u, a, c, sh, s, rfl, hh, hx, hw, q⟩ := h
    obtain ⟨dx, hd⟩ := hh.at_
    refine ⟨_, (pss_cons (ps_expr (pe_meth (pv 0) X.cl_Heap M_Heap_look_at_address.m H_Heap_look_at_address hr M_Heap_look_at_address.b .nil pass0 (pa_cons (pv 1) pa_nil)))
      (pss_one (ps_ret (pe_meth (pe_fld (pv 0) rfl) X.cl_Memory M_Memory_slots.m H_Memory_slots (hr.mono (by decide)) M_Memory_slots.b .nil pass0 (pa_cons (pv 1) pa_nil))))), ?_⟩
    refine ⟨_, rfl, hp, dx, HpF a, rfl, hd, hpF_no (by decide), _, rfl, hp, x, a, c, sh, s, rfl, hh, hx, ?_⟩
    exact ⟨_, rfl, hp, C_Heap, dx, HpF a, .ref a.m, rfl, hd, X.cl_Heap, X.n_Heap_memory, rfl, a.m, a.dx, MemF a c s, rfl, hh.mem.at_, memF_no (by decide), _, rfl, a, x, u, c, sh, s, rfl, hh.mem, hw, q⟩
def whereOf (c : Sz) (x : Nat) : Str := if x < c.fo then (if x < c.1 + 1 then "nursery" else "half") else "old"
def spHwhere (CH CM : Addr) : Sp := fun vs H Q _ => ∃ (h : Addr) (x : Nat) (a : Ma) (c : Sz) (sh : List (List Bool)) (s : Ms), vs = [.ref h, .int x] ∧ HpAt CH CM H h a c sh s ∧ isOb s x = true ∧ 0 < x ∧ Q (.str (whereOf c x)) H
theorem ok_hwhere {f : Addr} {fd : FuncData} (G : Md K C_Heap "where" "Heap.where" s_Heap_where ["self", "address"] f fd) (X : Lw K mg C_Moving C_Memory C_Heap) : FnOk P w K mg base CX0 3 f fd ["self", "address"] (spHwhere C_Heap C_Memory) := by
  obtain ⟨f_Memory_is_young, d_Memory_is_young, M_Memory_is_young⟩ := X.m_Memory_is_young
  have H_Memory_is_young : FnOk P w K mg base CX0 1 f_Memory_is_young d_Memory_is_young ["self", "reference"] (spMisy C_Memory) := ok_misy M_Memory_is_young X
  obtain ⟨f_Heap_look_at_address, d_Heap_look_at_address, M_Heap_look_at_address⟩ := X.m_Heap_look_at_address
  have H_Heap_look_at_address : FnOk P w K mg base CX0 2 f_Heap_look_at_address d_Heap_look_at_address ["self", "address"] (spHlaa C_Heap C_Memory) := ok_hlaa M_Heap_look_at_address X
  refine G.F.ok sc_Heap_where (fun vs H Q E h => ?_) (fun cdv A outer s H vs Q E hr h => ?_)
  · obtain ⟨hp, x, a, c, sh, s, rfl, _⟩ := h; rfl
  · obtain ⟨hp, x, a, c, sh, s, rfl, hh, hx, hx0, q⟩ := h
    obtain ⟨dx, hd⟩ := hh.at_
    refine ⟨_, (pss_cons (ps_expr (pe_meth (pv 0) X.cl_Heap M_Heap_look_at_address.m H_Heap_look_at_address hr M_Heap_look_at_address.b .nil pass0 (pa_cons (pv 1) pa_nil)))
      (pss_cons (ps_if (pt_not (pt_val (pe_meth (pe_fld (pv 0) rfl) X.cl_Memory M_Memory_is_young.m H_Memory_is_young (hr.mono (by decide)) M_Memory_is_young.b .nil pass0 (pa_cons (pv 1) pa_nil))))
        (pss_one (ps_ret pe_str)) pss_nil)
      (pss_one (ps_ret (pe_ifExp (pt_cmpR op_lt (pv 1) (pe_ix ix_tup (pe_fld (pe_fld (pv 0) rfl) rfl) pe_int (fun _ _ => rfl)) (nomark _)) pe_str pe_str))))), ?_⟩
    refine ⟨_, rfl, hp, dx, HpF a, rfl, hd, hpF_no (by decide), _, rfl, hp, x, a, c, sh, s, rfl, hh, hx, ?_⟩
    refine ⟨_, rfl, hp, C_Heap, dx, HpF a, .ref a.m, rfl, hd, X.cl_Heap, X.n_Heap_memory, rfl, a.m, a.dx, MemF a c s, rfl, hh.mem.at_, memF_no (by decide), _, rfl, a, x, c, sh, s, rfl, hh.mem, _, rfl, ?_⟩
    unfold whereOf at q
    by_cases e : x < c.fo
    · rw [if_pos e] at q
      rw [decide_eq_true (show (0 : Int) < (x : Int) ∧ (x : Int) < (c.fo : Int) by omega)]
      refine iteF ?_
      refine ⟨_, rfl, _, rfl, hp, C_Heap, dx, HpF a, .ref a.m, rfl, hd, X.cl_Heap, X.n_Heap_memory, rfl, a.m, C_Memory, a.dx, MemF a c s, .ref a.aFi, rfl, hh.mem.at_, X.cl_Memory, X.n_Memory_firsts, rfl, a.aFi, _, 1, .int ((c.1 + 1 : Nat) : Int), rfl, rfl, SqT.of hh.mem.fi, rfl, _, _, rfl, rfl, ?_⟩
      by_cases e2 : x < c.1 + 1
      · rw [if_pos e2] at q
        exact ⟨true, congrArg V.bl (decide_eq_true (show (x : Int) < ((c.1 + 1 : Nat) : Int) by omega)), iteT q⟩
      · rw [if_neg e2] at q
        exact ⟨false, congrArg V.bl (decide_eq_false (show ¬ (x : Int) < ((c.1 + 1 : Nat) : Int) by omega)), iteF q⟩
    · rw [if_neg e] at q
      rw [decide_eq_false (show ¬ ((0 : Int) < (x : Int) ∧ (x : Int) < (c.fo : Int)) by omega)]
      exact iteT q
def spHroom (CH CM : Addr) : Sp := fun vs H Q _ => ∃ (h : Addr) (n x : Nat) (a : Ma) (c : Sz) (sh : List (List Bool)) (s : Ms), vs = [.ref h, .int n] ∧ HpAt CH CM H h a c sh s ∧ s.nexts[0]? = some x ∧ Q (.bl (decide (c.2.2.1 < 2 + n) || decide (x + (2 + n) ≤ c.1 + 1))) H
theorem ok_hroom {f : Addr} {fd : FuncData} (G : Md K C_Heap "has_room" "Heap.has_room" s_Heap_has_room ["self", "slots"] f fd) (X : Lw K mg C_Moving C_Memory C_Heap) : FnOk P w K mg base CX0 2 f fd ["self", "slots"] (spHroom C_Heap C_Memory) := by
  obtain ⟨f_Memory_fits, d_Memory_fits, M_Memory_fits⟩ := X.m_Memory_fits
  have H_Memory_fits : FnOk P w K mg base CX0 1 f_Memory_fits d_Memory_fits ["self", "room", "many"] (spMfits C_Memory) := ok_mfits M_Memory_fits X
  obtain ⟨_, m_HEAD_WORDS⟩ := X.c_HEAD_WORDS
  obtain ⟨f_Memory_is_great, d_Memory_is_great, M_Memory_is_great⟩ := X.m_Memory_is_great
  have H_Memory_is_great : FnOk P w K mg base CX0 1 f_Memory_is_great d_Memory_is_great ["self", "slots"] (spMgreat C_Memory) := ok_mgreat M_Memory_is_great X
  refine G.F.ok sc_Heap_has_room (fun vs H Q E h => ?_) (fun cdv A outer s H vs Q E hr h => ?_)
  · obtain ⟨hp, n, x, a, c, sh, s, rfl, _⟩ := h; rfl
  · obtain ⟨hp, n, x, a, c, sh, s, rfl, hh, hx, q⟩ := h
    obtain ⟨dx, hd⟩ := hh.at_
    refine ⟨_, (pss_one (ps_ret (pe_or (pe_meth (pe_fld (pv 0) rfl) X.cl_Memory M_Memory_is_great.m H_Memory_is_great hr M_Memory_is_great.b .nil pass0 (pa_cons (pv 1) pa_nil)) (pe_one (pe_meth (pe_fld (pv 0) rfl) X.cl_Memory M_Memory_fits.m H_Memory_fits hr M_Memory_fits.b .nil pass0 (pa_cons pe_int (pa_cons (pe_op op_add (pe_glob (v := .int (2)) (by rfl) m_HEAD_WORDS ⟨_, rfl⟩) (pv 1)) pa_nil))))))), ?_⟩
    refine ⟨_, rfl, hp, C_Heap, dx, HpF a, .ref a.m, rfl, hd, X.cl_Heap, X.n_Heap_memory, rfl, a.m, a.dx, MemF a c s, rfl, hh.mem.at_, memF_no (by decide), _, rfl, a, n, c, sh, s, rfl, hh.mem, _, rfl, ?_⟩
    by_cases e : c.2.2.1 < 2 + n
    · rw [decide_eq_true e] at q ⊢
      exact iteT q
    · rw [decide_eq_false e] at q ⊢
      refine iteF ⟨_, rfl, hp, C_Heap, dx, HpF a, .ref a.m, rfl, hd, X.cl_Heap, X.n_Heap_memory, rfl, a.m, a.dx, MemF a c s, rfl, hh.mem.at_, memF_no (by decide), _, rfl, _, _, rfl, rfl, a, 0, 2 + n, x, c, sh, s, rfl, hh.mem, by omega, hx, ?_⟩
      exact q
def spHmark (CH CM : Addr) : Sp := fun vs H Q _ => ∃ (h : Addr) (a : Ma) (c : Sz) (sh : List (List Bool)) (s : Ms), vs = [.ref h] ∧ HpAt CH CM H h a c sh s ∧ Q (.bl s.marks) H
def spHrem (CH CM : Addr) : Sp := fun vs H Q _ => ∃ (h : Addr) (a : Ma) (c : Sz) (sh : List (List Bool)) (s : Ms), vs = [.ref h] ∧ HpAt CH CM H h a c sh s ∧ s.rem.length ≤ 1000000 ∧
  ∀ (b : Addr) (ns : List Int) (H' : Hp), ns.Perm (s.rem.map fun (n : Nat) => (n : Int)) → ns.Pairwise (· ≤ ·) → H b = none → Same H H' → H' b = some (.tup (ns.map V.int)) → Q (.ref b) H'
theorem ok_hrem {f : Addr} {fd : FuncData} (G : Md K C_Heap "remembered" "Heap.remembered" s_Heap_remembered ["self"] f fd) (X : Lw K mg C_Moving C_Memory C_Heap) : FnOk P w K mg base CX0 1 f fd ["self"] (spHrem C_Heap C_Memory) := by

  refine G.F.ok sc_Heap_remembered (fun vs H Q E h => ?_) (fun cdv A outer s H vs Q E hr h => ?_)
  · obtain ⟨hp, a, c, sh, s, rfl, _⟩ := h; rfl
  · obtain ⟨hp, a, c, sh, s, rfl, hh, hl, q⟩ := h
    obtain ⟨dx, hd⟩ := hh.at_
    refine ⟨_, (pss_one (ps_ret (pe_callTy call_tuple_of (by rfl) X.b_tuple (by decide +kernel) (pa_cons (pe_callB cr_sortedI (by rfl) X.b_sorted (by decide +kernel) (pa_cons (pe_callTy (call_list_dK rfl) (by rfl) X.b_list (by decide +kernel) (pa_cons (pe_fld (pe_fld (pv 0) rfl) rfl) pa_nil)) pa_nil)) pa_nil)))), ?_⟩
    refine ⟨_, rfl, hp, C_Heap, dx, HpF a, .ref a.m, rfl, hd, X.cl_Heap, X.n_Heap_memory, rfl, a.m, C_Memory, a.dx, MemF a c s, .ref a.aR, rfl, hh.mem.at_, X.cl_Memory, X.n_Memory_remembered, rfl, ?_⟩
    refine ⟨a.aR, _, rfl, hh.mem.rem, fun q1 n1 => ?_⟩
    have ek : ((dk s.rem).map fun kv => kV kv.1) = (s.rem.map fun (n : Nat) => (n : Int)).map V.int := by
      unfold dk
      rw [List.map_map, List.map_map]
      rfl
    rw [ek]
    refine ⟨q1, _, rfl, SqL.of upd_same, fun ns q2 pm pw n2 => ⟨q2, _, rfl, .inl ⟨SqL.of upd_same, fun l nl => ?_⟩⟩⟩
    have S := ((same_new (o := .lst ((s.rem.map fun (n : Nat) => (n : Int)).map V.int)) n1).trans (same_new (o := .lst (ns.map V.int)) n2)).trans (same_new (o := .tup (ns.map V.int)) nl)
    have n0 : H l = none := by
      cases e : H l with
      | none => rfl
      | some o => rw [((same_new (o := .lst ((s.rem.map fun (n : Nat) => (n : Int)).map V.int)) n1).trans (same_new (o := .lst (ns.map V.int)) n2)) _ _ e] at nl; cases nl
    exact q l ns _ pm pw n0 S upd_same
def spHcnt (CH CM : Addr) : Sp := fun vs H Q _ => ∃ (h : Addr) (x y : Nat) (a : Ma) (c : Sz) (sh : List (List Bool)) (s : Ms), vs = [.ref h] ∧ HpAt CH CM H h a c sh s ∧ s.half < 2 ∧ s.nexts[0]? = some x ∧ 1 ≤ x ∧ x ≤ s.words.length ∧ s.nexts[1 + s.half]? = some y ∧ c.firsts.getD (1 + s.half) 0 ≤ y ∧ y ≤ s.words.length ∧ c.fo ≤ s.words.length ∧ s.young.length ≤ 1000000 ∧
  ∀ (b : Addr) (H' : Hp), H b = none → Same H H' → H' b = some (.tup [.int ((roomW c s 0).length : Nat), .int ((roomW c s (1 + s.half)).length : Nat), .int ((s.words.drop c.fo).length : Nat), .int ((s.young.filter (· < c.1 + 1)).length : Nat), .int ((s.young.length - (s.young.filter (· < c.1 + 1)).length : Nat)), .int (s.old.length : Nat)]) → Q (.ref b) H'
def spHpic (CH CM : Addr) : Sp := fun vs H Q _ => ∃ (h : Addr) (x y : Nat) (a : Ma) (c : Sz) (sh : List (List Bool)) (s : Ms), vs = [.ref h] ∧ HpAt CH CM H h a c sh s ∧ s.half < 2 ∧ s.nexts[0]? = some x ∧ 1 ≤ x ∧ x ≤ s.words.length ∧ s.nexts[1 + s.half]? = some y ∧ c.firsts.getD (1 + s.half) 0 ≤ y ∧ y ≤ s.words.length ∧ c.fo ≤ s.words.length ∧ s.words.length ≤ 40000 ∧ s.rem.length ≤ 40000 ∧ s.grey.length ≤ 40000 ∧ s.done ≤ s.grey.length ∧
  ∀ (b : Addr) (ns : List Int) (H' : Hp), ns.Perm (s.rem.map fun (n : Nat) => (n : Int)) → ns.Pairwise (· ≤ ·) → Same H H' → Dv H' (.ref b) (.tuple [inPy (roomW c s 0), .int s.half, inPy (roomW c s (1 + s.half)), inPy (s.words.drop c.fo), inPy ns, inPy ((s.grey.drop s.done).map fun (n : Nat) => (n : Int)), .bool s.marks]) → Q (.ref b) H'
theorem ok_hpic {f : Addr} {fd : FuncData} (G : Md K C_Heap "picture" "Heap.picture" s_Heap_picture ["self"] f fd) (X : Lw K mg C_Moving C_Memory C_Heap) : FnOk P w K mg base CX0 2 f fd ["self"] (spHpic C_Heap C_Memory) := by
  obtain ⟨f_Memory_grey_row, d_Memory_grey_row, M_Memory_grey_row⟩ := X.m_Memory_grey_row
  have H_Memory_grey_row : FnOk P w K mg base CX0 1 f_Memory_grey_row d_Memory_grey_row ["self"] (spMgrey C_Memory) := ok_mgrey M_Memory_grey_row X
  obtain ⟨f_Heap_remembered, d_Heap_remembered, M_Heap_remembered⟩ := X.m_Heap_remembered
  have H_Heap_remembered : FnOk P w K mg base CX0 1 f_Heap_remembered d_Heap_remembered ["self"] (spHrem C_Heap C_Memory) := ok_hrem M_Heap_remembered X
  obtain ⟨f_Memory_old_room, d_Memory_old_room, M_Memory_old_room⟩ := X.m_Memory_old_room
  have H_Memory_old_room : FnOk P w K mg base CX0 1 f_Memory_old_room d_Memory_old_room ["self"] (spMold C_Memory) := ok_mold M_Memory_old_room X
  obtain ⟨f_Memory_room, d_Memory_room, M_Memory_room⟩ := X.m_Memory_room
  have H_Memory_room : FnOk P w K mg base CX0 1 f_Memory_room d_Memory_room ["self", "room"] (spMroom C_Memory) := ok_mroom M_Memory_room X
  refine G.F.ok sc_Heap_picture (fun vs H Q E h => ?_) (fun cdv A outer s H vs Q E hr h => ?_)
  · obtain ⟨hp, x, y, a, c, sh, s, rfl, _⟩ := h; rfl
  · obtain ⟨hp, x, y, a, c, sh, s, rfl, hh, h1, h2, h3, h4, h5, h6, h7, h8, h9, h10, h11, h12, q⟩ := h
    obtain ⟨dx, hd⟩ := hh.at_
    refine ⟨_, (pss_cons (ps_set (i := 1) sc_Heap_picture.nd rfl (Or.inl rfl) (pe_fld (pv 0) rfl))
      (pss_one (ps_ret (pe_tup (pa_cons (pe_callTy call_tuple_of (by rfl) X.b_tuple (by decide +kernel) (pa_cons (pe_meth (pv 1) X.cl_Memory M_Memory_room.m H_Memory_room hr M_Memory_room.b .nil pass0 (pa_cons pe_int pa_nil)) pa_nil)) (pa_cons (pe_fld (pv 1) rfl) (pa_cons (pe_callTy call_tuple_of (by rfl) X.b_tuple (by decide +kernel) (pa_cons (pe_meth (pv 1) X.cl_Memory M_Memory_room.m H_Memory_room hr M_Memory_room.b .nil pass0 (pa_cons (pe_op op_add pe_int (pe_fld (pv 1) rfl)) pa_nil)) pa_nil)) (pa_cons (pe_callTy call_tuple_of (by rfl) X.b_tuple (by decide +kernel) (pa_cons (pe_meth0 (pv 1) X.cl_Memory M_Memory_old_room.m H_Memory_old_room hr M_Memory_old_room.b .nil pass0) pa_nil)) (pa_cons (pe_meth0 (pv 0) X.cl_Heap M_Heap_remembered.m H_Heap_remembered hr M_Heap_remembered.b .nil pass0) (pa_cons (pe_callTy call_tuple_of (by rfl) X.b_tuple (by decide +kernel) (pa_cons (pe_meth0 (pv 1) X.cl_Memory M_Memory_grey_row.m H_Memory_grey_row hr M_Memory_grey_row.b .nil pass0) pa_nil)) (pa_cons (pe_fld (pv 1) rfl) pa_nil))))))))))), ?_⟩
    refine ⟨_, rfl, hp, C_Heap, dx, HpF a, .ref a.m, rfl, hd, X.cl_Heap, X.n_Heap_memory, rfl, ?_⟩
    have hm := hh.mem
    refine ⟨_, rfl, a.m, a.dx, MemF a c s, rfl, hm.at_, memF_no (by decide), a, 0, 1, x, c, sh, s, rfl, hm, rfl, h2, h3, h4, fun l1 G1 S1 n1 e1 => ?_⟩
    refine ⟨_, _, rfl, .inl ⟨SqL.of e1, fun t1 nt1 => ?_⟩⟩
    have s1 := S1.trans (same_new (o := .tup ((roomW c s 0).map V.int)) nt1)
    have f1 : upd G1 t1 (.tup ((roomW c s 0).map V.int)) t1 = some (.tup ((roomW c s 0).map V.int)) := upd_same
    revert s1 f1
    generalize upd G1 t1 (.tup ((roomW c s 0).map V.int)) = A1
    intro s1 f1
    have m1 := hm.same s1
    refine ⟨_, rfl, a.m, C_Memory, a.dx, MemF a c s, .int s.half, rfl, m1.at_, X.cl_Memory, X.n_Memory_half, rfl, ?_⟩
    refine ⟨_, rfl, a.m, a.dx, MemF a c s, rfl, m1.at_, memF_no (by decide), _, rfl, a.m, C_Memory, a.dx, MemF a c s, .int s.half, rfl, m1.at_, X.cl_Memory, X.n_Memory_half, rfl, _, _, rfl, rfl, ?_⟩
    have hf : c.firsts[1 + s.half]? = some (c.firsts.getD (1 + s.half) 0) := by
      rw [List.getD_eq_getElem?_getD, List.getElem?_eq_getElem (by show 1 + s.half < 3; omega)]
      rfl
    refine ⟨a, 1 + s.half, _, y, c, sh, s, rfl, m1, hf, h5, h6, h7, fun l2 G2 S2 n2 e2 => ?_⟩
    refine ⟨_, _, rfl, .inl ⟨SqL.of e2, fun t2 nt2 => ?_⟩⟩
    have s2 := S2.trans (same_new (o := .tup ((roomW c s (1 + s.half)).map V.int)) nt2)
    have f2 : upd G2 t2 (.tup ((roomW c s (1 + s.half)).map V.int)) t2 = some (.tup ((roomW c s (1 + s.half)).map V.int)) := upd_same
    revert s2 f2
    generalize upd G2 t2 (.tup ((roomW c s (1 + s.half)).map V.int)) = A2
    intro s2 f2
    have m2 := m1.same s2
    refine ⟨_, rfl, a.m, a.dx, MemF a c s, rfl, m2.at_, memF_no (by decide), a, c, sh, s, rfl, m2, h8, fun l3 G3 S3 n3 e3 => ?_⟩
    refine ⟨_, _, rfl, .inl ⟨SqL.of e3, fun t3 nt3 => ?_⟩⟩
    have s3 := S3.trans (same_new (o := .tup ((s.words.drop c.fo).map V.int)) nt3)
    have f3 : upd G3 t3 (.tup ((s.words.drop c.fo).map V.int)) t3 = some (.tup ((s.words.drop c.fo).map V.int)) := upd_same
    revert s3 f3
    generalize upd G3 t3 (.tup ((s.words.drop c.fo).map V.int)) = A3
    intro s3 f3
    have h3' := ((hh.same s1).same s2).same s3
    refine ⟨_, rfl, hp, dx, HpF a, rfl, s3 _ _ (s2 _ _ (s1 _ _ hd)), hpF_no (by decide), hp, a, c, sh, s, rfl, h3', by omega, fun t4 ns A4 pm pw n4 s4 f4 => ?_⟩
    have m4 := h3'.mem.same s4
    refine ⟨_, rfl, a.m, a.dx, MemF a c s, rfl, m4.at_, memF_no (by decide), a, c, sh, s, rfl, m4, h12, fun l5 G5 S5 n5 e5 => ?_⟩
    refine ⟨_, _, rfl, .inl ⟨SqL.of e5, fun t5 nt5 => ?_⟩⟩
    have s5 := S5.trans (same_new (o := .tup (natI (s.grey.drop s.done))) nt5)
    have f5 : upd G5 t5 (.tup (natI (s.grey.drop s.done))) t5 = some (.tup (natI (s.grey.drop s.done))) := upd_same
    revert s5 f5
    generalize upd G5 t5 (.tup (natI (s.grey.drop s.done))) = A5
    intro s5 f5
    have m5 := m4.same s5
    refine ⟨_, rfl, a.m, C_Memory, a.dx, MemF a c s, .bl s.marks, rfl, m5.at_, X.cl_Memory, X.n_Memory_marks, rfl, ?_⟩
    refine ⟨by show 7 ≤ _; decide, fun b nb => ?_⟩
    have s6 : Same A5 (upd A5 b (.tup [.ref t1, .int s.half, .ref t2, .ref t3, .ref t4, .ref t5, .bl s.marks])) := same_new nb
    have r2 := s2.trans (s3.trans (s4.trans (s5.trans s6)))
    refine q b ns _ pm pw (s1.trans r2) (.tup upd_same (by show 7 ≤ 50000; decide) ?_)
    have lr : ∀ r, (roomW c s r).length ≤ 40000 := fun r => by
      unfold roomW
      rw [List.length_take, List.length_drop]
      omega
    have ln : ns.length ≤ 40000 := by
      rw [pm.length_eq, List.length_map]
      exact h10
    refine .cons (.tup (r2 _ _ f1) ?_ ints_dv) (.cons (.int _) (.cons (.tup ((s3.trans (s4.trans (s5.trans s6))) _ _ f2) ?_ ints_dv) (.cons (.tup ((s4.trans (s5.trans s6)) _ _ f3) ?_ ints_dv) (.cons (.tup ((s5.trans s6) _ _ f4) ?_ ints_dv) (.cons (.tup (s6 _ _ f5) ?_ ?_) (.cons (.bl _) .nil))))))
    · rw [List.length_map]; exact Nat.le_trans (lr 0) (by decide)
    · rw [List.length_map]; exact Nat.le_trans (lr _) (by decide)
    · rw [List.length_map, List.length_drop]; omega
    · rw [List.length_map]; omega
    · unfold natI; rw [List.length_map, List.length_drop]; omega
    · unfold natI
      have : (s.grey.drop s.done).map (fun (n : Nat) => V.int (n : Int)) = ((s.grey.drop s.done).map fun (n : Nat) => (n : Int)).map V.int := by
        rw [List.map_map]
        rfl
      rw [this]
      exact ints_dv
end
end PH

/-! A new memory, a new heap, what is made. -/
namespace PH
open PySem PySem.Spec PyProof.Rows L2 KA KI KK PV T ET
theorem kept_none {H G : Hp} {p x : Addr} (k : KeptL [p] H G) (n : G x = none) : x = p ∨ H x = none := by
  by_cases e : x = p
  · exact .inl e
  · refine .inr ?_
    cases h : H x with
    | none => rfl
    | some o => rw [k _ _ (by rw [List.mem_singleton]; exact e) h] at n; cases n
def s0 (c : Sz) : Ms := ⟨0, List.replicate c.fo 0, c.firsts, [], [], [], [], 0, false, [0, 0, 0]⟩
section
variable {P : Program} {w : World} {K : PySem.W.Frag} {mg : Str → Option Value} {base : Heap} {C_Moving C_Memory C_Heap : Addr}
def spMinit (CM : Addr) : Sp := fun vs H Q _ => ∃ (p dx aSh aSz : Addr) (c : Sz) (sh : List (List Bool)), vs = [.ref p, .ref aSh, .ref aSz] ∧ H p = some (.ins CM dx []) ∧ Dv H (.ref aSh) (shPy sh) ∧ Dv H (.ref aSz) (szPy c) ∧ szOk c ∧ sh.length ≤ 60 ∧ (∀ r ∈ sh, r.length ≤ 100) ∧
  ∀ (a : Ma) (H' : Hp), MemAt CM H' a c sh (s0 c) → a.m = p → (∀ b ∈ a.own, b = p ∨ H b = none) → KeptL [p] H H' → Q .non H'
theorem ok_minit {f : Addr} {fd : FuncData} (F : Fun K "__init__" "Memory.__init__" s_Memory_init f fd) (X : Lw K mg C_Moving C_Memory C_Heap) : FnOk P w K mg base CX0 2 f fd ["self", "shapes", "sizes"] (spMinit C_Memory) := by
  obtain ⟨f_shape_links, d_shape_links, G_shape_links⟩ := X.f_shape_links
  have H_shape_links : FnOk P w K mg base CX0 1 f_shape_links d_shape_links ["shape"] (spShl) := ok_shl G_shape_links X
  refine F.ok sc_Memory_init (fun vs H Q E h => ?_) (fun cdv A outer s H vs Q E hr h => ?_)
  · obtain ⟨p, dx, aSh, aSz, c, sh, rfl, _⟩ := h; rfl
  · obtain ⟨p, dx, aSh, aSz, c, sh, rfl, hp, hv, hz, hc, hl, hr2, q⟩ := h
    refine ⟨_, (pss_cons (ps_fld (pv 0) (pv 1) rfl)
      (pss_cons (ps_fld (pv 0) (pv 2) rfl)
      (pss_cons (ps_asg (pv 2) (pg_tup rfl (pgs_cons (pg_name (i := 3) sc_Memory_init.nd rfl (Or.inl rfl)) (pgs_cons (pg_name (i := 4) sc_Memory_init.nd rfl (Or.inl rfl)) (pgs_cons (pg_name (i := 5) sc_Memory_init.nd rfl (Or.inl rfl)) (pgs_cons (pg_name (i := 6) sc_Memory_init.nd rfl (Or.inl rfl)) pgs_nil))))))
      (pss_cons (ps_fld (pv 0) (pv 5) rfl)
      (pss_cons (ps_fld (pv 0) (pv 6) rfl)
      (pss_cons (ps_fld (pv 0) (pe_tup (pa_cons pe_int (pa_cons (pe_op op_add (pv 3) pe_int) (pa_cons (pe_op op_add (pe_op op_add (pv 3) (pv 4)) pe_int) pa_nil)))) rfl)
      (pss_cons (ps_fld (pv 0) (pe_op op_add (pe_op op_add (pv 3) (pe_op op_mul pe_int (pv 4))) pe_int) rfl)
      (pss_cons (ps_fld (pv 0) (pe_lc (own := [("shape", 7)]) (g := (gName 7)) (tt := tYes) rfl sc_Memory_init.nd (pi_tup (pv 1)) (blkOk_by (own := [("shape", 7)]) (N := ["self", "shapes", "sizes", "nursery", "half", "great", "age", "shape"]) (sc := defScope s_Memory_init) (by decide +kernel)) (fun _ _ _ _ _ => (pg_name (i := 7) sc_Memory_init.nd rfl (Or.inl rfl))) (fun _ _ _ _ _ => pts_nil) (fun _ _ _ _ _ => (pe_call H_shape_links hr (by rfl) G_shape_links.g G_shape_links.F.kp G_shape_links.b .nil pass0 (pa_cons (pv 7) pa_nil)))) rfl)
      (pss_cons (ps_fld (pv 0) (pe_op op_rep (pe_lst (pa_cons pe_int pa_nil)) (pe_fld (pv 0) rfl)) rfl)
      (pss_cons (ps_fld (pv 0) (pe_callTy call_list_of (by rfl) X.b_list (by decide +kernel) (pa_cons (pe_fld (pv 0) rfl) pa_nil)) rfl)
      (pss_cons (ps_fld (pv 0) pe_int rfl)
      (pss_cons (ps_fld (pv 0) pe_dnewK rfl)
      (pss_cons (ps_fld (pv 0) pe_dnewK rfl)
      (pss_cons (ps_fld (pv 0) pe_dnewK rfl)
      (pss_cons (ps_fld (pv 0) (pe_lst pa_nil) rfl)
      (pss_cons (ps_fld (pv 0) pe_int rfl)
      (pss_cons (ps_fld (pv 0) pe_bl rfl)
      (pss_one (ps_fld (pv 0) (pe_lst (pa_cons pe_int (pa_cons pe_int (pa_cons pe_int pa_nil)))) rfl))))))))))))))))))), ?_⟩
    have P0 := hp
    obtain ⟨H1, g1⟩ : ∃ G : Hp, G = upd H p (.ins C_Memory dx [("shapes", .ref aSh)]) := ⟨_, rfl⟩
    refine ⟨_, rfl, _, rfl, p, C_Memory, dx, _, rfl, P0, X.cl_Memory, X.n_Memory_shapes, by decide, ?_⟩
    refine at_nx g1 ?_
    have P1 : H1 p = some (.ins C_Memory dx [("shapes", .ref aSh)]) := by rw [g1]; exact upd_same
    have k1 : KeptL [p] H H1 := by rw [g1]; exact kept_upd (by simp)
    obtain ⟨H2, g2⟩ : ∃ G : Hp, G = upd H1 p (.ins C_Memory dx [("shapes", .ref aSh), ("sizes", .ref aSz)]) := ⟨_, rfl⟩
    refine ⟨_, rfl, _, rfl, p, C_Memory, dx, _, rfl, P1, X.cl_Memory, X.n_Memory_sizes, by show 1 < _; decide, ?_⟩
    refine at_nx g2 ?_
    have P2 : H2 p = some (.ins C_Memory dx [("shapes", .ref aSh), ("sizes", .ref aSz)]) := by rw [g2]; exact upd_same
    have k2 : KeptL [p] H1 H2 := by rw [g2]; exact kept_upd (by simp)
    obtain ⟨_, ez, hz1⟩ := szPy_at hz
    cases ez
    have kz := k1.trans k2
    have z1 := kz _ _ (by intro z; rw [List.mem_singleton] at z; rw [z, hp] at hz1; cases hz1) hz1
    refine ⟨_, rfl, aSz, _, rfl, SqT.of z1, rfl, _, _, rfl, _, _, rfl, _, _, rfl, _, _, rfl, rfl, ?_⟩
    obtain ⟨H3, g3⟩ : ∃ G : Hp, G = upd H2 p (.ins C_Memory dx [("shapes", .ref aSh), ("sizes", .ref aSz), ("great", .int c.2.2.1)]) := ⟨_, rfl⟩
    refine ⟨_, rfl, _, rfl, p, C_Memory, dx, _, rfl, P2, X.cl_Memory, X.n_Memory_great, by show 2 < _; decide, ?_⟩
    refine at_nx g3 ?_
    have P3 : H3 p = some (.ins C_Memory dx [("shapes", .ref aSh), ("sizes", .ref aSz), ("great", .int c.2.2.1)]) := by rw [g3]; exact upd_same
    have k3 : KeptL [p] H2 H3 := by rw [g3]; exact kept_upd (by simp)
    obtain ⟨H4, g4⟩ : ∃ G : Hp, G = upd H3 p (.ins C_Memory dx [("shapes", .ref aSh), ("sizes", .ref aSz), ("great", .int c.2.2.1), ("age", .int c.2.2.2)]) := ⟨_, rfl⟩
    refine ⟨_, rfl, _, rfl, p, C_Memory, dx, _, rfl, P3, X.cl_Memory, X.n_Memory_age, by show 3 < _; decide, ?_⟩
    refine at_nx g4 ?_
    have P4 : H4 p = some (.ins C_Memory dx [("shapes", .ref aSh), ("sizes", .ref aSz), ("great", .int c.2.2.1), ("age", .int c.2.2.2)]) := by rw [g4]; exact upd_same
    have k4 : KeptL [p] H3 H4 := by rw [g4]; exact kept_upd (by simp)
    refine ⟨_, rfl, _, _, rfl, rfl, _, rfl, _, rfl, _, _, rfl, rfl, _, _, rfl, rfl, by show 3 ≤ _; decide, fun aFi naFi => ?_⟩
    have eaFi : p ≠ aFi := ne_of_none P4 naFi
    obtain ⟨H5, g5⟩ : ∃ G : Hp, G = upd (upd H4 aFi (.tup (natI c.firsts))) p (.ins C_Memory dx [("shapes", .ref aSh), ("sizes", .ref aSz), ("great", .int c.2.2.1), ("age", .int c.2.2.2), ("firsts", .ref aFi)]) := ⟨_, rfl⟩
    refine ⟨_, rfl, p, C_Memory, dx, _, rfl, (by rw [upd_ne eaFi]; exact P4), X.cl_Memory, X.n_Memory_firsts, by show 4 < _; decide, ?_⟩
    refine at_nx g5 ?_
    have P5 : H5 p = some (.ins C_Memory dx [("shapes", .ref aSh), ("sizes", .ref aSz), ("great", .int c.2.2.1), ("age", .int c.2.2.2), ("firsts", .ref aFi)]) := by rw [g5]; exact upd_same
    have k5 : KeptL [p] H4 H5 := by rw [g5]; exact (KeptL.of_same (same_new naFi)).trans (kept_upd (by simp))
    have faFi : H5 aFi = some (.tup (natI c.firsts)) := by rw [g5, upd_ne eaFi.symm]; exact upd_same
    obtain ⟨H6, g6⟩ : ∃ G : Hp, G = upd H5 p (.ins C_Memory dx [("shapes", .ref aSh), ("sizes", .ref aSz), ("great", .int c.2.2.1), ("age", .int c.2.2.2), ("firsts", .ref aFi), ("first_old", .int c.fo)]) := ⟨_, rfl⟩
    refine ⟨_, rfl, _, rfl, _, _, rfl, rfl, .inl ⟨by omega, by omega⟩, _, _, rfl, rfl, _, _, rfl, rfl, _, rfl, p, C_Memory, dx, _, rfl, P5, X.cl_Memory, X.n_Memory_first_old, by show 5 < _; decide, ?_⟩
    refine at_nx g6 ?_
    have P6 : H6 p = some (.ins C_Memory dx [("shapes", .ref aSh), ("sizes", .ref aSz), ("great", .int c.2.2.1), ("age", .int c.2.2.2), ("firsts", .ref aFi), ("first_old", .int c.fo)]) := by rw [g6]; exact upd_same
    have k6 : KeptL [p] H5 H6 := by rw [g6]; exact kept_upd (by simp)
    obtain ⟨aS0, vs, es, hvs, hvl, hve⟩ := shPy_at hv
    cases es
    have K6 := ((((k1.trans k2).trans k3).trans k4).trans k5).trans k6
    have st : ∀ {b : Addr} {xs : List V}, H b = some (.tup xs) → H6 b = some (.tup xs) := fun e => K6 _ _ (by intro z; rw [List.mem_singleton] at z; rw [z, hp] at e; cases e) e
    refine ⟨_, rfl, aSh, rfl, ⟨_, SqT.of (st hvs)⟩, fun aL naL => lc_tup (K := K) (xs := vs) (fun i H2 => LinksAt H2 aL (sh.take i) ∧ Same H6 H2) ⟨⟨[], upd_same, by simp, fun i r b e => by simp at e⟩, same_new naL⟩ ?_ ?_ ?_⟩
    · rintro i H2 _ ⟨_, s2⟩
      exact SqT.of (s2 _ _ (st hvs))
    · rintro i v H2 hi ⟨⟨ls, l1, l2, l3⟩, s2⟩
      have hil : i < sh.length := by rw [← hvl]; exact (List.getElem?_eq_some_iff.mp hi).1
      obtain ⟨b, hb, hbb⟩ := hve i sh[i] (List.getElem?_eq_getElem hil)
      rw [hb] at hi
      cases hi
      have hr1 := hr2 sh[i] (List.getElem_mem hil)
      rw [List.length_take, Nat.min_eq_left (Nat.le_of_lt hil)] at l2
      refine ⟨rfl, _, rfl, .ref b, sh[i], rfl, .tup (s2 _ _ (st hbb)) (by rw [List.length_map]; omega) bools_dv, by omega, fun b2 H' nb S e => ⟨ls.map V.ref, S _ _ l1, by rw [List.length_map]; exact small1000 (by omega), ⟨⟨ls ++ [b2], by rw [upd_same, List.map_append]; rfl, by rw [List.length_append, List.length_take, l2, Nat.min_eq_left (by omega)]; rfl, fun j r b' e1 e2 => ?_⟩, same_at naL (s2.trans S)⟩⟩⟩
      have hj : j < ls.length + 1 := by
        have := (List.getElem?_eq_some_iff.mp e2).1
        rwa [List.length_append] at this
      rw [List.getElem?_take] at e1
      by_cases hji : j < i
      · rw [if_pos (by omega)] at e1
        rw [List.getElem?_append_left (by omega)] at e2
        have := S _ _ (l3 j r b' (by rw [List.getElem?_take, if_pos hji]; exact e1) e2)
        rw [upd_ne (ne_of this (S _ _ l1) (by intro z; cases z))]
        exact this
      · have ej : j = i := by omega
        subst ej
        rw [if_pos (by omega), List.getElem?_eq_getElem hil] at e1
        cases e1
        rw [List.getElem?_append_right (by omega), l2, Nat.sub_self] at e2
        cases e2
        rw [upd_ne (ne_of e (S _ _ l1) (by intro z; cases z))]
        exact e
    · rintro G6 ⟨L6, s6⟩
      rw [hvl, List.take_length] at L6
      have Q6 := s6 _ _ P6
      obtain ⟨H7, g7⟩ : ∃ G : Hp, G = upd G6 p (.ins C_Memory dx [("shapes", .ref aSh), ("sizes", .ref aSz), ("great", .int c.2.2.1), ("age", .int c.2.2.2), ("firsts", .ref aFi), ("first_old", .int c.fo), ("shapes_links", .ref aL)]) := ⟨_, rfl⟩
      refine ⟨_, rfl, p, C_Memory, dx, _, rfl, Q6, X.cl_Memory, X.n_Memory_shapes_links, by show 6 < _; decide, ?_⟩
      refine at_nx g7 ?_
      have P7 : H7 p = some (.ins C_Memory dx [("shapes", .ref aSh), ("sizes", .ref aSz), ("great", .int c.2.2.1), ("age", .int c.2.2.2), ("firsts", .ref aFi), ("first_old", .int c.fo), ("shapes_links", .ref aL)]) := by rw [g7]; exact upd_same
      have k7 : KeptL [p] H6 H7 := by rw [g7]; exact (KeptL.of_same s6).trans (kept_upd (by simp))
      have kL : KeptL [p] G6 H7 := by rw [g7]; exact kept_upd (by simp)
      have K7 := K6.trans k7
      obtain ⟨c1, c2, c3, c4, c5, c6, c7⟩ := hc
      have eaL : p ≠ aL := ne_of_none P6 naL
      obtain ⟨ls, L1, L2, L3⟩ := L6
      have faL : H7 aL = some (.lst (ls.map V.ref)) := kL _ _ (by rw [List.mem_singleton]; exact eaL.symm) L1
      refine ⟨by show 1 ≤ _; decide, fun q0 nq => ⟨_, rfl, p, C_Memory, dx, _, .int c.fo, rfl, by rw [upd_ne (ne_of_none P7 nq)]; exact P7, X.cl_Memory, X.n_Memory_first_old, rfl, q0, c.fo, _, rfl, rfl, upd_same, ?_, ?_, ?_, fun aW naW => ?_⟩⟩
      · omega
      · have : c.fo < 100000 := by unfold Sz.fo; omega
        omega
      · show 1 * ((c.fo : Nat) : Int).toNat ≤ _
        rw [Int.toNat_natCast, Nat.one_mul]
        exact Nat.le_of_lt (big (by unfold Sz.fo; omega))
      have sq := same_new (o := .lst [V.int 0]) nq
      have eaW : p ≠ aW := ne_of_none (sq _ _ P7) naW
      have Ew : (List.replicate ((c.fo : Nat) : Int).toNat [V.int 0]).flatten = (List.replicate c.fo (0 : Int)).map V.int := by rw [Int.toNat_natCast, List.map_replicate, List.flatten_replicate_singleton]
      rw [Ew]
      obtain ⟨H8, g8⟩ : ∃ G : Hp, G = upd (upd (upd H7 q0 (.lst [V.int 0])) aW (.lst ((List.replicate c.fo (0 : Int)).map V.int))) p (.ins C_Memory dx [("shapes", .ref aSh), ("sizes", .ref aSz), ("great", .int c.2.2.1), ("age", .int c.2.2.2), ("firsts", .ref aFi), ("first_old", .int c.fo), ("shapes_links", .ref aL), ("words", .ref aW)]) := ⟨_, rfl⟩
      refine ⟨_, rfl, p, C_Memory, dx, _, rfl, by rw [upd_ne eaW]; exact sq _ _ P7, X.cl_Memory, X.n_Memory_words, by show 7 < _; decide, ?_⟩
      refine at_nx g8 ?_
      have P8 : H8 p = some (.ins C_Memory dx [("shapes", .ref aSh), ("sizes", .ref aSz), ("great", .int c.2.2.1), ("age", .int c.2.2.2), ("firsts", .ref aFi), ("first_old", .int c.fo), ("shapes_links", .ref aL), ("words", .ref aW)]) := by rw [g8]; exact upd_same
      have k8 : KeptL [p] H7 H8 := by rw [g8]; exact (KeptL.of_same (sq.trans (same_new naW))).trans (kept_upd (by simp))
      have faW : H8 aW = some (.lst ((List.replicate c.fo (0 : Int)).map V.int)) := by rw [g8, upd_ne eaW.symm]; exact upd_same
      have d_aL_aW : aL ≠ aW := ne_of_none (sq _ _ faL) naW
      have K8 := K7.trans k8
      refine ⟨_, rfl, p, C_Memory, dx, _, .ref aFi, rfl, P8, X.cl_Memory, X.n_Memory_firsts, rfl, aFi, _, rfl, .inr (SqT.of (((k6.trans k7).trans k8) _ _ (by rw [List.mem_singleton]; exact eaFi.symm) faFi)), fun aN naN => ?_⟩
      have eaN : p ≠ aN := ne_of_none P8 naN
      obtain ⟨H9, g9⟩ : ∃ G : Hp, G = upd (upd H8 aN (.lst (natI c.firsts))) p (.ins C_Memory dx [("shapes", .ref aSh), ("sizes", .ref aSz), ("great", .int c.2.2.1), ("age", .int c.2.2.2), ("firsts", .ref aFi), ("first_old", .int c.fo), ("shapes_links", .ref aL), ("words", .ref aW), ("nexts", .ref aN)]) := ⟨_, rfl⟩
      refine ⟨_, rfl, p, C_Memory, dx, _, rfl, (by rw [upd_ne eaN]; exact P8), X.cl_Memory, X.n_Memory_nexts, by show 8 < _; decide, ?_⟩
      refine at_nx g9 ?_
      have P9 : H9 p = some (.ins C_Memory dx [("shapes", .ref aSh), ("sizes", .ref aSz), ("great", .int c.2.2.1), ("age", .int c.2.2.2), ("firsts", .ref aFi), ("first_old", .int c.fo), ("shapes_links", .ref aL), ("words", .ref aW), ("nexts", .ref aN)]) := by rw [g9]; exact upd_same
      have k9 : KeptL [p] H8 H9 := by rw [g9]; exact (KeptL.of_same (same_new naN)).trans (kept_upd (by simp))
      have faN : H9 aN = some (.lst (natI c.firsts)) := by rw [g9, upd_ne eaN.symm]; exact upd_same
      have d_aL_aN : aL ≠ aN := ne_of_none (k8 _ _ (by rw [List.mem_singleton]; exact eaL.symm) faL) naN
      have d_aW_aN : aW ≠ aN := ne_of_none faW naN
      have K9 := K8.trans k9
      obtain ⟨H10, g10⟩ : ∃ G : Hp, G = upd H9 p (.ins C_Memory dx [("shapes", .ref aSh), ("sizes", .ref aSz), ("great", .int c.2.2.1), ("age", .int c.2.2.2), ("firsts", .ref aFi), ("first_old", .int c.fo), ("shapes_links", .ref aL), ("words", .ref aW), ("nexts", .ref aN), ("half", .int 0)]) := ⟨_, rfl⟩
      refine ⟨_, rfl, p, C_Memory, dx, _, rfl, P9, X.cl_Memory, X.n_Memory_half, by show 9 < _; decide, ?_⟩
      refine at_nx g10 ?_
      have P10 : H10 p = some (.ins C_Memory dx [("shapes", .ref aSh), ("sizes", .ref aSz), ("great", .int c.2.2.1), ("age", .int c.2.2.2), ("firsts", .ref aFi), ("first_old", .int c.fo), ("shapes_links", .ref aL), ("words", .ref aW), ("nexts", .ref aN), ("half", .int 0)]) := by rw [g10]; exact upd_same
      have k10 : KeptL [p] H9 H10 := by rw [g10]; exact kept_upd (by simp)
      have K10 := K9.trans k10
      refine fun aY naY => ?_
      have eaY : p ≠ aY := ne_of_none P10 naY
      obtain ⟨H11, g11⟩ : ∃ G : Hp, G = upd (upd H10 aY (.dK [])) p (.ins C_Memory dx [("shapes", .ref aSh), ("sizes", .ref aSz), ("great", .int c.2.2.1), ("age", .int c.2.2.2), ("firsts", .ref aFi), ("first_old", .int c.fo), ("shapes_links", .ref aL), ("words", .ref aW), ("nexts", .ref aN), ("half", .int 0), ("young", .ref aY)]) := ⟨_, rfl⟩
      refine ⟨_, rfl, p, C_Memory, dx, _, rfl, (by rw [upd_ne eaY]; exact P10), X.cl_Memory, X.n_Memory_young, by show 10 < _; decide, ?_⟩
      refine at_nx g11 ?_
      have P11 : H11 p = some (.ins C_Memory dx [("shapes", .ref aSh), ("sizes", .ref aSz), ("great", .int c.2.2.1), ("age", .int c.2.2.2), ("firsts", .ref aFi), ("first_old", .int c.fo), ("shapes_links", .ref aL), ("words", .ref aW), ("nexts", .ref aN), ("half", .int 0), ("young", .ref aY)]) := by rw [g11]; exact upd_same
      have k11 : KeptL [p] H10 H11 := by rw [g11]; exact (KeptL.of_same (same_new naY)).trans (kept_upd (by simp))
      have faY : H11 aY = some (.dK []) := by rw [g11, upd_ne eaY.symm]; exact upd_same
      have K11 := K10.trans k11
      refine fun aO naO => ?_
      have eaO : p ≠ aO := ne_of_none P11 naO
      obtain ⟨H12, g12⟩ : ∃ G : Hp, G = upd (upd H11 aO (.dK [])) p (.ins C_Memory dx [("shapes", .ref aSh), ("sizes", .ref aSz), ("great", .int c.2.2.1), ("age", .int c.2.2.2), ("firsts", .ref aFi), ("first_old", .int c.fo), ("shapes_links", .ref aL), ("words", .ref aW), ("nexts", .ref aN), ("half", .int 0), ("young", .ref aY), ("old", .ref aO)]) := ⟨_, rfl⟩
      refine ⟨_, rfl, p, C_Memory, dx, _, rfl, (by rw [upd_ne eaO]; exact P11), X.cl_Memory, X.n_Memory_old, by show 11 < _; decide, ?_⟩
      refine at_nx g12 ?_
      have P12 : H12 p = some (.ins C_Memory dx [("shapes", .ref aSh), ("sizes", .ref aSz), ("great", .int c.2.2.1), ("age", .int c.2.2.2), ("firsts", .ref aFi), ("first_old", .int c.fo), ("shapes_links", .ref aL), ("words", .ref aW), ("nexts", .ref aN), ("half", .int 0), ("young", .ref aY), ("old", .ref aO)]) := by rw [g12]; exact upd_same
      have k12 : KeptL [p] H11 H12 := by rw [g12]; exact (KeptL.of_same (same_new naO)).trans (kept_upd (by simp))
      have faO : H12 aO = some (.dK []) := by rw [g12, upd_ne eaO.symm]; exact upd_same
      have d_aY_aO : aY ≠ aO := ne_of_none faY naO
      have K12 := K11.trans k12
      refine fun aR naR => ?_
      have eaR : p ≠ aR := ne_of_none P12 naR
      obtain ⟨H13, g13⟩ : ∃ G : Hp, G = upd (upd H12 aR (.dK [])) p (.ins C_Memory dx [("shapes", .ref aSh), ("sizes", .ref aSz), ("great", .int c.2.2.1), ("age", .int c.2.2.2), ("firsts", .ref aFi), ("first_old", .int c.fo), ("shapes_links", .ref aL), ("words", .ref aW), ("nexts", .ref aN), ("half", .int 0), ("young", .ref aY), ("old", .ref aO), ("remembered", .ref aR)]) := ⟨_, rfl⟩
      refine ⟨_, rfl, p, C_Memory, dx, _, rfl, (by rw [upd_ne eaR]; exact P12), X.cl_Memory, X.n_Memory_remembered, by show 12 < _; decide, ?_⟩
      refine at_nx g13 ?_
      have P13 : H13 p = some (.ins C_Memory dx [("shapes", .ref aSh), ("sizes", .ref aSz), ("great", .int c.2.2.1), ("age", .int c.2.2.2), ("firsts", .ref aFi), ("first_old", .int c.fo), ("shapes_links", .ref aL), ("words", .ref aW), ("nexts", .ref aN), ("half", .int 0), ("young", .ref aY), ("old", .ref aO), ("remembered", .ref aR)]) := by rw [g13]; exact upd_same
      have k13 : KeptL [p] H12 H13 := by rw [g13]; exact (KeptL.of_same (same_new naR)).trans (kept_upd (by simp))
      have faR : H13 aR = some (.dK []) := by rw [g13, upd_ne eaR.symm]; exact upd_same
      have d_aY_aR : aY ≠ aR := ne_of_none (k12 _ _ (by rw [List.mem_singleton]; exact eaY.symm) faY) naR
      have d_aO_aR : aO ≠ aR := ne_of_none faO naR
      have K13 := K12.trans k13
      refine ⟨by show 0 ≤ sizeLine; decide, fun aG naG => ?_⟩
      have eaG : p ≠ aG := ne_of_none P13 naG
      obtain ⟨H14, g14⟩ : ∃ G : Hp, G = upd (upd H13 aG (.lst [])) p (.ins C_Memory dx [("shapes", .ref aSh), ("sizes", .ref aSz), ("great", .int c.2.2.1), ("age", .int c.2.2.2), ("firsts", .ref aFi), ("first_old", .int c.fo), ("shapes_links", .ref aL), ("words", .ref aW), ("nexts", .ref aN), ("half", .int 0), ("young", .ref aY), ("old", .ref aO), ("remembered", .ref aR), ("grey", .ref aG)]) := ⟨_, rfl⟩
      refine ⟨_, rfl, p, C_Memory, dx, _, rfl, (by rw [upd_ne eaG]; exact P13), X.cl_Memory, X.n_Memory_grey, by show 13 < _; decide, ?_⟩
      refine at_nx g14 ?_
      have P14 : H14 p = some (.ins C_Memory dx [("shapes", .ref aSh), ("sizes", .ref aSz), ("great", .int c.2.2.1), ("age", .int c.2.2.2), ("firsts", .ref aFi), ("first_old", .int c.fo), ("shapes_links", .ref aL), ("words", .ref aW), ("nexts", .ref aN), ("half", .int 0), ("young", .ref aY), ("old", .ref aO), ("remembered", .ref aR), ("grey", .ref aG)]) := by rw [g14]; exact upd_same
      have k14 : KeptL [p] H13 H14 := by rw [g14]; exact (KeptL.of_same (same_new naG)).trans (kept_upd (by simp))
      have faG : H14 aG = some (.lst []) := by rw [g14, upd_ne eaG.symm]; exact upd_same
      have d_aL_aG : aL ≠ aG := ne_of_none ((((((k8.trans k9).trans k10).trans k11).trans k12).trans k13) _ _ (by rw [List.mem_singleton]; exact eaL.symm) faL) naG
      have d_aW_aG : aW ≠ aG := ne_of_none (((((k9.trans k10).trans k11).trans k12).trans k13) _ _ (by rw [List.mem_singleton]; exact eaW.symm) faW) naG
      have d_aN_aG : aN ≠ aG := ne_of_none ((((k10.trans k11).trans k12).trans k13) _ _ (by rw [List.mem_singleton]; exact eaN.symm) faN) naG
      have K14 := K13.trans k14
      obtain ⟨H15, g15⟩ : ∃ G : Hp, G = upd H14 p (.ins C_Memory dx [("shapes", .ref aSh), ("sizes", .ref aSz), ("great", .int c.2.2.1), ("age", .int c.2.2.2), ("firsts", .ref aFi), ("first_old", .int c.fo), ("shapes_links", .ref aL), ("words", .ref aW), ("nexts", .ref aN), ("half", .int 0), ("young", .ref aY), ("old", .ref aO), ("remembered", .ref aR), ("grey", .ref aG), ("done", .int 0)]) := ⟨_, rfl⟩
      refine ⟨_, rfl, p, C_Memory, dx, _, rfl, P14, X.cl_Memory, X.n_Memory_done, by show 14 < _; decide, ?_⟩
      refine at_nx g15 ?_
      have P15 : H15 p = some (.ins C_Memory dx [("shapes", .ref aSh), ("sizes", .ref aSz), ("great", .int c.2.2.1), ("age", .int c.2.2.2), ("firsts", .ref aFi), ("first_old", .int c.fo), ("shapes_links", .ref aL), ("words", .ref aW), ("nexts", .ref aN), ("half", .int 0), ("young", .ref aY), ("old", .ref aO), ("remembered", .ref aR), ("grey", .ref aG), ("done", .int 0)]) := by rw [g15]; exact upd_same
      have k15 : KeptL [p] H14 H15 := by rw [g15]; exact kept_upd (by simp)
      have K15 := K14.trans k15
      obtain ⟨H16, g16⟩ : ∃ G : Hp, G = upd H15 p (.ins C_Memory dx [("shapes", .ref aSh), ("sizes", .ref aSz), ("great", .int c.2.2.1), ("age", .int c.2.2.2), ("firsts", .ref aFi), ("first_old", .int c.fo), ("shapes_links", .ref aL), ("words", .ref aW), ("nexts", .ref aN), ("half", .int 0), ("young", .ref aY), ("old", .ref aO), ("remembered", .ref aR), ("grey", .ref aG), ("done", .int 0), ("marks", .bl false)]) := ⟨_, rfl⟩
      refine ⟨_, rfl, p, C_Memory, dx, _, rfl, P15, X.cl_Memory, X.n_Memory_marks, by show 15 < _; decide, ?_⟩
      refine at_nx g16 ?_
      have P16 : H16 p = some (.ins C_Memory dx [("shapes", .ref aSh), ("sizes", .ref aSz), ("great", .int c.2.2.1), ("age", .int c.2.2.2), ("firsts", .ref aFi), ("first_old", .int c.fo), ("shapes_links", .ref aL), ("words", .ref aW), ("nexts", .ref aN), ("half", .int 0), ("young", .ref aY), ("old", .ref aO), ("remembered", .ref aR), ("grey", .ref aG), ("done", .int 0), ("marks", .bl false)]) := by rw [g16]; exact upd_same
      have k16 : KeptL [p] H15 H16 := by rw [g16]; exact kept_upd (by simp)
      have K16 := K15.trans k16
      refine ⟨by show 3 ≤ _; decide, fun aE naE => ?_⟩
      have eaE : p ≠ aE := ne_of_none P16 naE
      obtain ⟨H17, g17⟩ : ∃ G : Hp, G = upd (upd H16 aE (.lst [.int 0, .int 0, .int 0])) p (.ins C_Memory dx [("shapes", .ref aSh), ("sizes", .ref aSz), ("great", .int c.2.2.1), ("age", .int c.2.2.2), ("firsts", .ref aFi), ("first_old", .int c.fo), ("shapes_links", .ref aL), ("words", .ref aW), ("nexts", .ref aN), ("half", .int 0), ("young", .ref aY), ("old", .ref aO), ("remembered", .ref aR), ("grey", .ref aG), ("done", .int 0), ("marks", .bl false), ("ended", .ref aE)]) := ⟨_, rfl⟩
      refine ⟨_, rfl, p, C_Memory, dx, _, rfl, (by rw [upd_ne eaE]; exact P16), X.cl_Memory, X.n_Memory_ended, by show 16 < _; decide, ?_⟩
      refine at_nx g17 ?_
      have P17 : H17 p = some (.ins C_Memory dx [("shapes", .ref aSh), ("sizes", .ref aSz), ("great", .int c.2.2.1), ("age", .int c.2.2.2), ("firsts", .ref aFi), ("first_old", .int c.fo), ("shapes_links", .ref aL), ("words", .ref aW), ("nexts", .ref aN), ("half", .int 0), ("young", .ref aY), ("old", .ref aO), ("remembered", .ref aR), ("grey", .ref aG), ("done", .int 0), ("marks", .bl false), ("ended", .ref aE)]) := by rw [g17]; exact upd_same
      have k17 : KeptL [p] H16 H17 := by rw [g17]; exact (KeptL.of_same (same_new naE)).trans (kept_upd (by simp))
      have faE : H17 aE = some (.lst [.int 0, .int 0, .int 0]) := by rw [g17, upd_ne eaE.symm]; exact upd_same
      have d_aL_aE : aL ≠ aE := ne_of_none (((((((((k8.trans k9).trans k10).trans k11).trans k12).trans k13).trans k14).trans k15).trans k16) _ _ (by rw [List.mem_singleton]; exact eaL.symm) faL) naE
      have d_aW_aE : aW ≠ aE := ne_of_none ((((((((k9.trans k10).trans k11).trans k12).trans k13).trans k14).trans k15).trans k16) _ _ (by rw [List.mem_singleton]; exact eaW.symm) faW) naE
      have d_aN_aE : aN ≠ aE := ne_of_none (((((((k10.trans k11).trans k12).trans k13).trans k14).trans k15).trans k16) _ _ (by rw [List.mem_singleton]; exact eaN.symm) faN) naE
      have d_aG_aE : aG ≠ aE := ne_of_none ((k15.trans k16) _ _ (by rw [List.mem_singleton]; exact eaG.symm) faG) naE
      have K17 := K16.trans k17
      refine q ⟨p, dx, aSh, aSz, aFi, aL, aW, aN, aY, aO, aR, aG, aE⟩ H17 ⟨P17, ?_, ((((((((((((k6.trans k7).trans k8).trans k9).trans k10).trans k11).trans k12).trans k13).trans k14).trans k15).trans k16).trans k17) _ _ (by rw [List.mem_singleton]; exact eaFi.symm) faFi), ⟨ls, ((((((((((k8.trans k9).trans k10).trans k11).trans k12).trans k13).trans k14).trans k15).trans k16).trans k17) _ _ (by rw [List.mem_singleton]; exact eaL.symm) faL), L2, ?_⟩, (((((((((k9.trans k10).trans k11).trans k12).trans k13).trans k14).trans k15).trans k16).trans k17) _ _ (by rw [List.mem_singleton]; exact eaW.symm) faW), ((((((((k10.trans k11).trans k12).trans k13).trans k14).trans k15).trans k16).trans k17) _ _ (by rw [List.mem_singleton]; exact eaN.symm) faN), ((((((k12.trans k13).trans k14).trans k15).trans k16).trans k17) _ _ (by rw [List.mem_singleton]; exact eaY.symm) faY), (((((k13.trans k14).trans k15).trans k16).trans k17) _ _ (by rw [List.mem_singleton]; exact eaO.symm) faO), ((((k14.trans k15).trans k16).trans k17) _ _ (by rw [List.mem_singleton]; exact eaR.symm) faR), (((k15.trans k16).trans k17) _ _ (by rw [List.mem_singleton]; exact eaG.symm) faG), faE, ?_, ?_⟩ rfl ?_ K17
      · exact hv.same fun b xs e => K17 _ _ (by intro z; rw [List.mem_singleton] at z; rw [z, hp] at e; cases e) e
      · intro i r b e1 e2
        have hb := L3 i r b e1 e2
        exact (kL.trans (((((((((k8.trans k9).trans k10).trans k11).trans k12).trans k13).trans k14).trans k15).trans k16).trans k17)) _ _ (by intro z; rw [List.mem_singleton] at z; rw [z, Q6] at hb; cases hb) hb
      · simp [d_aL_aW, d_aL_aN, d_aL_aG, d_aL_aE, d_aW_aN, d_aW_aG, d_aW_aE, d_aN_aG, d_aN_aE, d_aG_aE]
      · simp [d_aY_aO, d_aY_aR, d_aO_aR]
      · intro b hb
        have hb : b ∈ [p, aL, aW, aN, aY, aO, aR, aG, aE] := hb
        simp only [List.mem_cons, List.not_mem_nil, or_false] at hb
        rcases hb with rfl | rfl | rfl | rfl | rfl | rfl | rfl | rfl | rfl
        · exact .inl rfl
        · exact kept_none K6 naL
        · exact kept_none (K7.trans (KeptL.of_same sq)) naW
        · exact kept_none K8 naN
        · exact kept_none K10 naY
        · exact kept_none K11 naO
        · exact kept_none K12 naR
        · exact kept_none K13 naG
        · exact kept_none K16 naE
end
end PH

/-! A new heap, what it makes. -/
namespace PH
open PySem PySem.Spec PyProof.Rows L2 KA KI KK PV T ET
def mkS (c : Sz) (s : Ms) (k : Int) (n x : Nat) : Nat × Ms := if c.2.2.1 < 2 + n then (s.words.length, layO s (objW k (if s.marks = true then 2 else 0) n)) else (x, layY s 0 x (objW k 0 n))
section
variable {P : Program} {w : World} {K : PySem.W.Frag} {mg : Str → Option Value} {base : Heap} {C_Moving C_Memory C_Heap : Addr}
def spHinit (CH CM : Addr) : Sp := fun vs H Q _ => ∃ (h dx aSh aSz : Addr) (c : Sz) (sh : List (List Bool)), vs = [.ref h, .ref aSh, .ref aSz] ∧ H h = some (.ins CH dx []) ∧ Dv H (.ref aSh) (shPy sh) ∧ Dv H (.ref aSz) (szPy c) ∧ szOk c ∧ sh.length ≤ 60 ∧ (∀ r ∈ sh, r.length ≤ 100) ∧
  ∀ (a : Ma) (H' : Hp), HpAt CH CM H' h a c sh (s0 c) → (∀ b ∈ a.own, H b = none) → KeptL [h] H H' → Q .non H'
theorem ok_hinit {f : Addr} {fd : FuncData} (F : Fun K "__init__" "Heap.__init__" s_Heap_init f fd) (X : Lw K mg C_Moving C_Memory C_Heap) : FnOk P w K mg base CX0 4 f fd ["self", "shapes", "sizes"] (spHinit C_Heap C_Memory) := by
  obtain ⟨f_Memory___init__, d_Memory___init__, K_Memory, F_Memory___init__, b_Memory___init__⟩ := X.i_Memory
  have H_Memory___init__ : FnOk P w K mg base CX0 2 f_Memory___init__ d_Memory___init__ ["self", "shapes", "sizes"] (spMinit C_Memory) := ok_minit F_Memory___init__ X
  obtain ⟨f_look_at_sizes, d_look_at_sizes, G_look_at_sizes⟩ := X.f_look_at_sizes
  have H_look_at_sizes : FnOk P w K mg base CX0 3 f_look_at_sizes d_look_at_sizes ["sizes"] (spLasz) := ok_lasz G_look_at_sizes X
  obtain ⟨f_look_at_shapes, d_look_at_shapes, G_look_at_shapes⟩ := X.f_look_at_shapes
  have H_look_at_shapes : FnOk P w K mg base CX0 2 f_look_at_shapes d_look_at_shapes ["shapes"] (spLas) := ok_las G_look_at_shapes X
  refine F.ok sc_Heap_init (fun vs H Q E h => ?_) (fun cdv A outer s H vs Q E hr h => ?_)
  · obtain ⟨hp, dx, aSh, aSz, c, sh, rfl, _⟩ := h; rfl
  · obtain ⟨hp, dx, aSh, aSz, c, sh, rfl, hh, hv, hz, hc, hl, hr2, q⟩ := h
    refine ⟨_, (pss_cons (ps_expr (pe_call H_look_at_shapes (hr.mono (by decide)) (by rfl) G_look_at_shapes.g G_look_at_shapes.F.kp G_look_at_shapes.b .nil pass0 (pa_cons (pv 1) pa_nil)))
      (pss_cons (ps_expr (pe_call H_look_at_sizes hr (by rfl) G_look_at_sizes.g G_look_at_sizes.F.kp G_look_at_sizes.b .nil pass0 (pa_cons (pv 2) pa_nil)))
      (pss_one (ps_fld (pv 0) (pe_make K_Memory H_Memory___init__ (hr.mono (by decide)) (by rfl) X.g_Memory b_Memory___init__ .nil pass0 (pa_cons (pv 1) (pa_cons (pv 2) pa_nil))) rfl)))), ?_⟩
    refine ⟨_, rfl, .ref aSh, sh, rfl, hv, hl, hr2, ?_⟩
    refine ⟨_, rfl, .ref aSz, c, rfl, hz, hc, ?_⟩
    refine ⟨_, rfl, _, rfl, fun m md nm nmd ne => ?_⟩
    have S1 : Same H (upd (upd H md (.own m)) m (.ins C_Memory md [])) := same_at nm (same_new nmd)
    refine ⟨m, md, aSh, aSz, c, sh, rfl, upd_same, hv.same (TupSame.of S1), hz.same (TupSame.of S1), hc, hl, hr2, fun a H2 hm e own k => ⟨rfl, ?_⟩⟩
    have ow : ∀ b ∈ a.own, H b = none := fun b hb => by
      rcases own b hb with z | z
      · rw [z]; exact nm
      · cases e : H b with
        | none => rfl
        | some o => rw [S1 _ _ e] at z; cases z
    have hm1 : hp ≠ m := ne_of_none hh nm
    have h2 : H2 hp = some (.ins C_Heap dx []) := k _ _ (by rw [List.mem_singleton]; exact hm1) (S1 _ _ hh)
    refine ⟨_, rfl, hp, C_Heap, dx, _, rfl, h2, X.cl_Heap, X.n_Heap_memory, by decide, ?_⟩
    have S2 : Same H H2 := fun b o e => k _ _ (by rw [List.mem_singleton]; exact ne_of_none e nm) (S1 _ _ e)
    refine q a _ ⟨⟨dx, by rw [← e]; exact upd_same⟩, hm.kept (l := [hp]) (kept_upd (by simp)) (fun b xs e => by rw [upd_ne (ne_of e h2 (by intro z; cases z))]; exact e) fun b hb z => ?_⟩ ow ((KeptL.of_same S2).trans (kept_upd (by simp)))
    rw [List.mem_singleton] at z
    have := ow b hb
    rw [z, hh] at this
    cases this
end
end PH

/-! The memory's deeds on plain data. -/
namespace PH
open PySem PySem.Spec PyProof.Rows L2 KA KI KK PV T ET
/-- the addresses of an object's reference slots -/
def linkM (sh : List (List Bool)) (s : Ms) (x : Nat) : Option (List Nat) :=
  match s.words[x]? with
  | none => none
  | some h =>
    if 0 ≤ h / 64 - 3 then
      match sh[(h / 64 - 3).toNat]? with
      | none => none
      | some r => if r.length ≤ 100 then some ((idxOf r.length fun j => r[j]?.getD false).map fun j => x + 2 + j) else none
    else if h / 64 - 3 = -2 then
      match s.words[x + 1]? with
      | none => none
      | some n => if 0 ≤ n ∧ n ≤ 1000 ∧ x ≤ 1000000 then some ((List.range n.toNat).map fun j => x + 2 + j) else none
    else some []
def whiteM (c : Sz) (s : Ms) (x : Int) : Option Bool :=
  if (c.fo : Int) ≤ x then (s.words[x.toNat]?).map fun h => decide (h % 4 = 0) else some false
def shadeM (c : Sz) (s : Ms) (x : Int) : Option Ms :=
  if (c.fo : Int) ≤ x then
    match s.words[x.toNat]? with
    | none => none
    | some h => if h % 4 = 0 then (if s.grey.length ≤ 500000 then some { s with words := s.words.set x.toNat (h + 1), grey := s.grey ++ [x.toNat] } else none) else some s
  else some s
def setLinkM (c : Sz) (s : Ms) (a p : Nat) (x : Int) : Option Ms :=
  if p < s.words.length then
    if a < c.fo then some { s with words := s.words.set p x }
    else if 0 < x ∧ x < c.fo then (if s.rem.length ≤ 500000 then some { s with words := s.words.set p x, rem := if p ∈ s.rem then s.rem else s.rem ++ [p] } else none)
    else if s.marks = true then shadeM c { s with words := s.words.set p x, rem := s.rem.filter (· != p) } x
    else some { s with words := s.words.set p x, rem := s.rem.filter (· != p) }
  else none
end PH

/-! A moving on plain data. -/
namespace PH
open PySem PySem.Spec PyProof.Rows L2 KA KI KK PV T ET
structure Mv where
  s : Ms
  mv : List (Nat × Nat)
  th : List Nat
  to : List Nat
def okB (s : Ms) : Prop := s.words.length ≤ 500000 ∧ s.young.length ≤ 500000 ∧ s.old.length ≤ 500000 ∧ s.grey.length ≤ 500000 ∧ s.rem.length ≤ 500000
instance (s : Ms) : Decidable (okB s) := by unfold okB; exact inferInstance
/-- where it goes is known: its words are laid there -/
def moveM (c : Sz) (st : Bool) (hf : Nat) (m : Mv) (x : Nat) : Option (Mv × Nat) :=
  match m.s.words[x]?, m.s.words[x + 1]?, m.s.nexts[1 + hf]? with
  | some h, some n, some nx =>
    if 0 ≤ n ∧ n ≤ 1000 ∧ x + (n.toNat + 2) ≤ m.s.words.length ∧ (h / 64 - 3).natAbs < 1000 ∧ okB m.s ∧ m.th.length ≤ 500000 ∧ m.to.length ≤ 500000 ∧ hf < 2 then
      if st = false ∧ h / 4 % 16 + 1 < (c.2.2.2 : Int) ∧ nx + (n.toNat + 2) ≤ endOf c (1 + hf) then
        if nx + (n.toNat + 2) ≤ m.s.words.length ∧ nx ∉ m.s.young then
          some ({ m with s := layY m.s (1 + hf) nx (((m.s.words.drop x).take (n.toNat + 2)).set 0 (headW (h / 64 - 3) ((h / 4 % 16).toNat + 1) 0)), th := m.th ++ [nx] }, nx)
        else none
      else if m.s.words.length ∉ m.s.old then
        some ({ m with s := { layO m.s (((m.s.words.drop x).take (n.toNat + 2)).set 0 (headW (h / 64 - 3) 0 (if m.s.marks = true then 1 else 0))) with grey := if m.s.marks = true then m.s.grey ++ [m.s.words.length] else m.s.grey }, to := m.to ++ [m.s.words.length] }, m.s.words.length)
      else none
    else none
  | _, _, _ => none
def ledM (c : Sz) (st : Bool) (hf : Nat) (m : Mv) (x : Int) : Option (Mv × Int) :=
  if 0 < x ∧ x < c.fo then
    match m.mv.lookup x.toNat with
    | some y => some (m, (y : Int))
    | none =>
      match moveM c st hf m x.toNat with
      | some (m', y) => if m'.mv = m.mv ∧ m.mv.length ≤ 500000 then some ({ m' with mv := m'.mv ++ [(x.toNat, y)] }, (y : Int)) else none
      | none => none
  else some (m, x)
def leadM (c : Sz) (st : Bool) (hf : Nat) (m : Mv) (p : Nat) : Option Mv :=
  match m.s.words[p]? with
  | none => none
  | some w =>
    match ledM c st hf m w with
    | none => none
    | some (m', y) => if p < m'.s.words.length then some { m' with s := { m'.s with words := m'.s.words.set p y } } else none
def foldO {α β : Type} (f : α → β → Option α) : α → List β → Option α
  | a, [] => some a
  | a, b :: r => (f a b).bind fun a' => foldO f a' r
theorem foldO_app {α β : Type} {f : α → β → Option α} : ∀ {xs ys : List β} {a : α}, foldO f a (xs ++ ys) = (foldO f a xs).bind fun a' => foldO f a' ys
  | [], ys, a => rfl
  | x :: xs, ys, a => by
    show (f a x).bind (fun a' => foldO f a' (xs ++ ys)) = ((f a x).bind fun a' => foldO f a' xs).bind fun a' => foldO f a' ys
    cases f a x with
    | none => rfl
    | some b => exact foldO_app
/-- on the way -/
theorem foldO_at {α β : Type} {f : α → β → Option α} {xs : List β} {a z : α} (h : foldO f a xs = some z) (i : Nat) : ∃ b, foldO f a (xs.take i) = some b ∧ foldO f b (xs.drop i) = some z := by
  have : foldO f a (xs.take i ++ xs.drop i) = some z := by rw [List.take_append_drop]; exact h
  rw [foldO_app] at this
  cases e : foldO f a (xs.take i) with
  | none => rw [e] at this; cases this
  | some b => rw [e] at this; exact ⟨b, rfl, this⟩
theorem foldO_go {α β : Type} {f : α → β → Option α} {xs : List β} {a b z : α} {i : Nat} {x : β} (hx : xs[i]? = some x) (h1 : foldO f a (xs.take i) = some b) (h2 : foldO f b (xs.drop i) = some z) : ∃ d, f b x = some d ∧ foldO f a (xs.take (i + 1)) = some d ∧ foldO f d (xs.drop (i + 1)) = some z := by
  have hl := (List.getElem?_eq_some_iff.mp hx).1
  rw [List.drop_eq_getElem_cons hl] at h2
  have ex : xs[i] = x := (List.getElem?_eq_some_iff.mp hx).2
  rw [ex] at h2
  have h2 : (f b x).bind (fun a' => foldO f a' (xs.drop (i + 1))) = some z := h2
  cases e : f b x with
  | none => rw [e] at h2; cases h2
  | some d =>
    rw [e] at h2
    refine ⟨d, rfl, ?_, h2⟩
    rw [List.take_succ_eq_append_getElem hl, foldO_app, h1, ex]
    show (f b x).bind (fun a' => foldO f a' []) = _
    rw [e]
    rfl
def leadSlotsM (c : Sz) (sh : List (List Bool)) (st : Bool) (hf : Nat) (m : Mv) (x : Nat) : Option Mv := (linkM sh m.s x).bind fun ps => foldO (leadM c st hf) m ps
def scanM (c : Sz) (sh : List (List Bool)) (st : Bool) (hf : Nat) : Nat → Mv → Nat → Nat → Option Mv
  | 0, _, _, _ => none
  | f + 1, m, i, j =>
    if i < m.th.length then (leadSlotsM c sh st hf m (m.th.getD i 0)).bind fun m' => scanM c sh st hf f m' (i + 1) j
    else if j < m.to.length then (leadSlotsM c sh st hf m (m.to.getD j 0)).bind fun m' => scanM c sh st hf f m' i (j + 1)
    else some m
/-- the roots, one by one -/
def ledsM (c : Sz) (st : Bool) (hf : Nat) : Mv → List Int → Option (Mv × List Int)
  | m, [] => some (m, [])
  | m, x :: r => (ledM c st hf m x).bind fun p => (ledsM c st hf p.1 r).map fun q => (q.1, p.2 :: q.2)
def placesM (sh : List (List Bool)) (s : Ms) : List Nat → Option (List Nat)
  | [] => some []
  | x :: r => (linkM sh s x).bind fun ps => (placesM sh s r).map fun qs => ps ++ qs
def youngW (c : Sz) (s : Ms) (p : Nat) : Bool := decide (0 < s.words.getD p 0 ∧ s.words.getD p 0 < c.fo)
def finishM (c : Sz) (sh : List (List Bool)) (hf : Nat) (m : Mv) : Option Ms :=
  match placesM sh m.s m.to with
  | none => none
  | some ps =>
    if (m.s.rem ++ ps).Nodup ∧ (∀ p ∈ m.s.rem ++ ps, p < m.s.words.length) ∧ m.th.Nodup ∧ (m.s.rem ++ ps).length ≤ 500000 ∧ m.th.length ≤ 500000 ∧ m.s.half < 2 ∧ m.s.nexts.length = 3 then
      some { m.s with half := hf, young := m.th, nexts := (m.s.nexts.set 0 1).set (1 + m.s.half) (c.firsts.getD (1 + m.s.half) 0), rem := (m.s.rem ++ ps).filter (youngW c { m.s with young := m.th, nexts := (m.s.nexts.set 0 1).set (1 + m.s.half) (c.firsts.getD (1 + m.s.half) 0), half := hf }) }
    else none
/-- ascending -/
def insN (x : Nat) : List Nat → List Nat
  | [] => [x]
  | y :: r => if x ≤ y then x :: y :: r else y :: insN x r
def sortN : List Nat → List Nat
  | [] => []
  | x :: r => insN x (sortN r)
theorem insN_perm (x : Nat) : ∀ l : List Nat, (insN x l).Perm (x :: l)
  | [] => .refl _
  | y :: r => by
    unfold insN
    split
    · exact .refl _
    · exact ((insN_perm x r).cons y).trans (.swap x y r)
theorem sortN_perm : ∀ l : List Nat, (sortN l).Perm l
  | [] => .refl _
  | x :: r => (insN_perm x _).trans ((sortN_perm r).cons x)
theorem insN_sorted (x : Nat) : ∀ {l : List Nat}, l.Pairwise (· ≤ ·) → (insN x l).Pairwise (· ≤ ·)
  | [], _ => List.pairwise_singleton _ _
  | y :: r, h => by
    unfold insN
    obtain ⟨h1, h2⟩ := List.pairwise_cons.mp h
    split
    · rename_i e
      refine List.pairwise_cons.mpr ⟨fun z hz => ?_, h⟩
      rcases List.mem_cons.mp hz with rfl | hz
      · exact e
      · exact Nat.le_trans e (h1 z hz)
    · rename_i e
      refine List.pairwise_cons.mpr ⟨fun z hz => ?_, insN_sorted x h2⟩
      rcases List.mem_cons.mp ((insN_perm x r).mem_iff.mp hz) with rfl | hz
      · omega
      · exact h1 z hz
theorem sortN_sorted : ∀ l : List Nat, (sortN l).Pairwise (· ≤ ·)
  | [] => .nil
  | x :: r => insN_sorted x (sortN_sorted r)
theorem sorted_one : ∀ {a b : List Nat}, a.Perm b → a.Pairwise (· ≤ ·) → b.Pairwise (· ≤ ·) → a = b
  | [], b, p, _, _ => (List.perm_nil.mp p.symm).symm
  | x :: a, [], p, _, _ => nomatch List.perm_nil.mp p
  | x :: a, y :: b, p, h1, h2 => by
    obtain ⟨h3, h4⟩ := List.pairwise_cons.mp h1
    obtain ⟨h5, h6⟩ := List.pairwise_cons.mp h2
    have e : x = y := by
      have hx : x ∈ y :: b := p.mem_iff.mp List.mem_cons_self
      have hy : y ∈ x :: a := p.mem_iff.mpr List.mem_cons_self
      have a1 : y ≤ x := by
        rcases List.mem_cons.mp hx with z | z
        · omega
        · exact h5 x z
      have a2 : x ≤ y := by
        rcases List.mem_cons.mp hy with z | z
        · omega
        · exact h3 y z
      omega
    subst e
    rw [sorted_one ((List.perm_cons x).mp p) h4 h6]
def moveYoungM (c : Sz) (sh : List (List Bool)) (st : Bool) (s : Ms) (rs : List Int) : Option (Ms × List Int) :=
  (ledsM c st (1 - s.half) ⟨s, [], [], []⟩ rs).bind fun p =>
    if p.1.s.rem.length ≤ 500000 ∧ p.1.s.half = s.half then
      (foldO (leadM c st (1 - s.half)) p.1 (sortN p.1.s.rem)).bind fun m2 =>
        (scanM c sh st (1 - s.half) 500000 m2 0 0).bind fun m3 => (finishM c sh (1 - s.half) m3).map fun s' => (s', p.2)
    else none
end PH

/-! A heap's deeds on plain data. -/
namespace PH
open PySem PySem.Spec PyProof.Rows L2 KA KI KK PV T ET
def endedM (s : Ms) (i : Nat) : Option Ms := match s.ended[i]? with
  | some e => some { s with ended := s.ended.set i (e + 1) }
  | none => none
def minorM (c : Sz) (sh : List (List Bool)) (s : Ms) (rs : List Int) : Option (Ms × List Int) :=
  if s.half < 2 then (endedM s 0).bind fun s1 => moveYoungM c sh false s1 rs else none
def settleM (c : Sz) (sh : List (List Bool)) (s : Ms) (rs : List Int) : Option (Ms × List Int) :=
  if s.half < 2 then (endedM s 1).bind fun s1 => moveYoungM c sh true s1 rs else none
def layM (c : Sz) (s : Ms) (k : Int) (n : Nat) : Option (Ms × Nat) :=
  if okB s ∧ k.natAbs < 1000 ∧ n ≤ 1000 ∧ s.words.length ∉ s.old then
    if c.2.2.1 < 2 + n then some (layO s (objW k (if s.marks = true then 2 else 0) n), s.words.length)
    else match s.nexts[0]? with
      | some x => if x + (n + 2) ≤ s.words.length ∧ x ∉ s.young then some (layY s 0 x (objW k 0 n), x) else none
      | none => none
  else none
def roomM (c : Sz) (s : Ms) (n : Nat) : Option Bool := match s.nexts[0]? with
  | some x => some (decide (c.2.2.1 < 2 + n) || decide (x + (2 + n) ≤ c.1 + 1))
  | none => none
/-- (address, roots) -/
def makeM (c : Sz) (sh : List (List Bool)) (s : Ms) (k : Int) (n : Nat) (rs : List Int) : Option (Ms × Nat × List Int) :=
  match roomM c s n with
  | none => none
  | some true => (layM c s k n).map fun p => (p.1, p.2, rs)
  | some false => (minorM c sh s rs).bind fun p => (layM c p.1 k n).map fun q => (q.1, q.2, p.2)
def slotM (s : Ms) (x j : Nat) : Option Int := match s.words[x]?, s.words[x + 1]? with
  | some h, some n => if isOb s x = true ∧ (j : Int) < n then some h else none
  | _, _ => none
def getM (s : Ms) (x j : Nat) : Option Int := match slotM s x j with
  | some _ => s.words[x + 2 + j]?
  | none => none
def linkB (sh : List (List Bool)) (k : Int) (j : Nat) : Bool := if 0 ≤ k then (match sh[k.toNat]? with
  | some r => decide (j < r.length)
  | none => false) else true
def putM (c : Sz) (sh : List (List Bool)) (s : Ms) (x j : Nat) (v : Int) : Option Ms := match slotM s x j with
  | some h =>
    if linkB sh (h / 64 - 3) j = false then none
    else if flag sh (h / 64 - 3) j = true then
      (if v = 0 ∨ isOb s v = true then setLinkM c s x (x + 2 + j) v else none)
    else if -2147483648 ≤ v ∧ v ≤ 2147483647 ∧ x + 2 + j < s.words.length then some { s with words := s.words.set (x + 2 + j) v } else none
  | none => none
end PH

/-! The memory's methods. -/
namespace KK
open PySem PySem.Spec PyProof.Rows L2 KA KI PV T ET
theorem get_list {X : Cx} : PGet X (rIxL X.K) := by
  intro pins s σ H x y v u Q I rx ry h
  obtain ⟨p, xs, i, z, rfl, rfl, hq, he, q⟩ := h
  cases rx
  obtain ⟨t, rfl⟩ := ry
  obtain ⟨its, r, pl, hz⟩ := I.list hq
  obtain ⟨j, h1, h2, h3, h4, h5⟩ := atI_get he
  obtain ⟨w, ew, rw'⟩ := r.get h2
  have hl := r.length
  have hn := line63
  by_cases h0 : 0 ≤ i
  · have hj : i.toNat = j := by
      have := seqIndex_of h0 h5
      rw [this] at h1
      exact Option.some.inj h1
    exact wpAny_getItem_list pl.isList h0 (by omega) (by rw [hj]; simpa using ew) ⟨z, H, I, rw', q⟩
  · have hj : (i + (its.toArray.size : Int)).toNat = j := by
      have := seqIndex_neg (by omega) h4
      rw [this] at h1
      rw [List.size_toArray, ← hl]
      exact Option.some.inj h1
    exact wpAny_getItem_list_neg pl.isList (by omega) (by rw [List.size_toArray]; omega) (by omega) (by rw [hj]; simpa using ew) ⟨z, H, I, rw', q⟩
end KK
namespace PH
open PySem PySem.Spec PyProof.Rows L2 KA KI KK PV T ET
theorem dk_putIn {l : List Nat} {n : Nat} (h : n ∈ l) : putK (dk l) (Sum.inl (n : Int) : Key) (V.bl true) = dk l := by
  unfold putK
  rw [if_pos]
  · rw [List.map_congr_left (g := id)]
    · simp
    · intro kv hkv
      obtain ⟨m, _, rfl⟩ := List.mem_map.mp hkv
      split <;> rfl
  · rw [List.any_eq_true]
    exact ⟨_, List.mem_map.mpr ⟨n, h, rfl⟩, by simp⟩
theorem dk_drop (l : List Nat) (n : Nat) : dropK (dk l) (Sum.inl (n : Int) : Key) = dk (l.filter (· != n)) := by
  unfold dropK dk
  rw [List.filter_map]
  congr 1
  apply List.filter_congr
  intro m _
  simp only [Function.comp]
  by_cases e : m = n
  · simp [e]
  · have : ¬ (Sum.inl (m : Int) : Key) = Sum.inl (n : Int) := fun z => e (by injection z; omega)
    simp [e, this]
theorem inL_nat {l : List Nat} {n : Nat} : inL l (n : Int) = decide (n ∈ l) := by
  unfold inL
  by_cases e : n ∈ l
  · rw [decide_eq_true e]
    exact decide_eq_true (List.mem_map.mpr ⟨n, e, rfl⟩)
  · rw [decide_eq_false e]
    refine decide_eq_false fun z => e ?_
    obtain ⟨m, hm, e2⟩ := List.mem_map.mp z
    have : m = n := by omega
    exact this ▸ hm
theorem MemAt.setR {CM : Addr} {H : Hp} {a : Ma} {c : Sz} {sh : List (List Bool)} {s : Ms} (h : MemAt CM H a c sh s) (ys : List Nat) : MemAt CM (upd H a.aR (.dK (dk ys))) a c sh { s with rem := ys } := by
  have nl := h.nd
  simp only [List.nodup_cons, List.mem_cons, List.not_mem_nil, or_false, not_or, not_false_eq_true, List.nodup_nil, and_true] at nl
  obtain ⟨⟨n1, n2⟩, n3⟩ := nl
  obtain ⟨ls, hL, ll, he⟩ := h.links
  have ne : ∀ {b : Addr} {o : HO}, H b = some o → (∀ k, o ≠ .dK k) → upd H a.aR (.dK (dk ys)) b = some o := fun e n => by
    rw [upd_ne (fun z => by rw [z, h.rem] at e; cases e; exact n _ rfl)]
    exact e
  have tt : TupSame H (upd H a.aR (.dK (dk ys))) := fun b xs e => ne e (by intro k z; cases z)
  refine ⟨ne h.at_ (by intro k z; cases z), h.shp.same tt, tt _ _ h.fi, ⟨ls, ne hL (by intro k z; cases z), ll, fun i r b e1 e2 => tt _ _ (he i r b e1 e2)⟩, ne h.words (by intro k z; cases z), ne h.nexts (by intro k z; cases z), ?_, ?_, upd_same, ne h.grey (by intro k z; cases z), ne h.ended (by intro k z; cases z), h.nl, h.nd⟩
  · rw [upd_ne n2]; exact h.young
  · rw [upd_ne n3]; exact h.old
theorem MemAt.setG {CM : Addr} {H : Hp} {a : Ma} {c : Sz} {sh : List (List Bool)} {s : Ms} (h : MemAt CM H a c sh s) (gs : List Nat) : MemAt CM (upd H a.aG (.lst (natI gs))) a c sh { s with grey := gs } := by
  have nl := h.nl
  simp only [List.nodup_cons, List.mem_cons, List.not_mem_nil, or_false, not_or, not_false_eq_true, List.nodup_nil, and_true] at nl
  obtain ⟨⟨n1, n2, n3, n4⟩, ⟨n5, n6, n7⟩, ⟨n8, n9⟩, n10⟩ := nl
  obtain ⟨ls, hL, ll, he⟩ := h.links
  have ne : ∀ {b : Addr} {o : HO}, H b = some o → (∀ k, o ≠ .lst k) → upd H a.aG (.lst (natI gs)) b = some o := fun e n => by
    rw [upd_ne (fun z => by rw [z, h.grey] at e; cases e; exact n _ rfl)]
    exact e
  have tt : TupSame H (upd H a.aG (.lst (natI gs))) := fun b xs e => ne e (by intro k z; cases z)
  refine ⟨ne h.at_ (by intro k z; cases z), h.shp.same tt, tt _ _ h.fi, ⟨ls, ?_, ll, fun i r b e1 e2 => tt _ _ (he i r b e1 e2)⟩, ?_, ?_, ne h.young (by intro k z; cases z), ne h.old (by intro k z; cases z), ne h.rem (by intro k z; cases z), upd_same, ?_, h.nl, h.nd⟩
  · rw [upd_ne n3]; exact hL
  · rw [upd_ne n6]; exact h.words
  · rw [upd_ne n8]; exact h.nexts
  · rw [upd_ne (fun z => n10 z.symm)]; exact h.ended
theorem ixN_nat {n k : Nat} (h : k < n) : ixN n (k : Int) = some k := by
  unfold ixN
  rw [if_pos (by omega), if_pos (by omega)]
  rfl
section
variable {P : Program} {w : World} {K : PySem.W.Frag} {mg : Str → Option Value} {base : Heap} {C_Moving C_Memory C_Heap : Addr}
def spAgt : Sp := fun vs H Q _ => ∃ h : Int, vs = [.int h] ∧ Q (.int (h / 4 % 16)) H
theorem ok_agt {f : Addr} {fd : FuncData} (G : Gd K mg "age_told" s_age_told ["head"] f fd) (X : Lw K mg C_Moving C_Memory C_Heap) : FnOk P w K mg base CX0 1 f fd ["head"] (spAgt) := by

  refine G.F.ok sc_age_told (fun vs H Q E h => ?_) (fun cdv A outer s H vs Q E hr h => ?_)
  · obtain ⟨h, rfl, _⟩ := h; rfl
  · obtain ⟨h, rfl, q⟩ := h
    refine ⟨_, (pss_one (ps_ret (pe_op op_mod (pe_op op_fdiv (pv 0) pe_int) pe_int))), ?_⟩
    exact ⟨_, rfl, _, _, rfl, rfl, ⟨by decide, by decide⟩, _, _, rfl, rfl, (show (0 : Int) < 16 by decide), q⟩
def spCt : Sp := fun vs H Q _ => ∃ h : Int, vs = [.int h] ∧ Q (.int (h % 4)) H
theorem ok_ct {f : Addr} {fd : FuncData} (G : Gd K mg "colour_told" s_colour_told ["head"] f fd) (X : Lw K mg C_Moving C_Memory C_Heap) : FnOk P w K mg base CX0 1 f fd ["head"] (spCt) := by

  refine G.F.ok sc_colour_told (fun vs H Q E h => ?_) (fun cdv A outer s H vs Q E hr h => ?_)
  · obtain ⟨h, rfl, _⟩ := h; rfl
  · obtain ⟨h, rfl, q⟩ := h
    refine ⟨_, (pss_one (ps_ret (pe_op op_mod (pv 0) pe_int))), ?_⟩
    exact ⟨_, rfl, _, _, rfl, rfl, (show (0 : Int) < 4 by decide), q⟩
def spMage (CM : Addr) : Sp := fun vs H Q _ => ∃ (a : Ma) (x : Nat) (h : Int) (c : Sz) (sh : List (List Bool)) (s : Ms), vs = [.ref a.m, .int x] ∧ MemAt CM H a c sh s ∧ s.words[x]? = some h ∧ Q (.int (h / 4 % 16)) H
theorem ok_mage {f : Addr} {fd : FuncData} (G : Md K C_Memory "age_of" "Memory.age_of" s_Memory_age_of ["self", "address"] f fd) (X : Lw K mg C_Moving C_Memory C_Heap) : FnOk P w K mg base CX0 2 f fd ["self", "address"] (spMage C_Memory) := by
  obtain ⟨f_age_told, d_age_told, G_age_told⟩ := X.f_age_told
  have H_age_told : FnOk P w K mg base CX0 1 f_age_told d_age_told ["head"] (spAgt) := ok_agt G_age_told X
  refine G.F.ok sc_Memory_age_of (fun vs H Q E h => ?_) (fun cdv A outer s H vs Q E hr h => ?_)
  · obtain ⟨a, x, h, c, sh, s, rfl, _⟩ := h; rfl
  · obtain ⟨a, x, hd, c, sh, s, rfl, hm, hx, q⟩ := h
    refine ⟨_, (pss_one (ps_ret (pe_call H_age_told hr (by rfl) G_age_told.g G_age_told.F.kp G_age_told.b .nil pass0 (pa_cons (pe_ix ix_list (pe_fld (pv 0) rfl) (pv 1) (fun _ _ => rfl)) pa_nil)))), ?_⟩
    exact ⟨_, rfl, a.m, C_Memory, a.dx, MemF a c s, .ref a.aW, rfl, hm.at_, X.cl_Memory, X.n_Memory_words, rfl, _, rfl, a.aW, _, x, .int hd, rfl, rfl, SqL.of hm.words, atI_nat (by rw [List.getElem?_map, hx]; rfl), hd, rfl, q⟩
def spMsize (CM : Addr) : Sp := fun vs H Q _ => ∃ (a : Ma) (x : Nat) (n : Int) (c : Sz) (sh : List (List Bool)) (s : Ms), vs = [.ref a.m, .int x] ∧ MemAt CM H a c sh s ∧ s.words[x + 1]? = some n ∧ Q (.int (2 + n)) H
theorem ok_msize {f : Addr} {fd : FuncData} (G : Md K C_Memory "size" "Memory.size" s_Memory_size ["self", "address"] f fd) (X : Lw K mg C_Moving C_Memory C_Heap) : FnOk P w K mg base CX0 1 f fd ["self", "address"] (spMsize C_Memory) := by
  obtain ⟨_, m_HEAD_WORDS⟩ := X.c_HEAD_WORDS
  refine G.F.ok sc_Memory_size (fun vs H Q E h => ?_) (fun cdv A outer s H vs Q E hr h => ?_)
  · obtain ⟨a, x, h, c, sh, s, rfl, _⟩ := h; rfl
  · obtain ⟨a, x, n, c, sh, s, rfl, hm, hx, q⟩ := h
    refine ⟨_, (pss_one (ps_ret (pe_op op_add (pe_glob (v := .int (2)) (by rfl) m_HEAD_WORDS ⟨_, rfl⟩) (pe_ix ix_list (pe_fld (pv 0) rfl) (pe_op op_add (pv 1) pe_int) (fun _ _ => rfl))))), ?_⟩
    exact ⟨_, rfl, a.m, C_Memory, a.dx, MemF a c s, .ref a.aW, rfl, hm.at_, X.cl_Memory, X.n_Memory_words, rfl, _, rfl, _, _, rfl, rfl, a.aW, _, ((x + 1 : Nat) : Int), .int n, rfl, rfl, SqL.of hm.words, atI_nat (by rw [List.getElem?_map, hx]; rfl), _, _, rfl, rfl, q⟩
def spMwh (CM : Addr) : Sp := fun vs H Q _ => ∃ (a : Ma) (x : Int) (b : Bool) (c : Sz) (sh : List (List Bool)) (s : Ms), vs = [.ref a.m, .int x] ∧ MemAt CM H a c sh s ∧ whiteM c s x = some b ∧ Q (.bl b) H
theorem ok_mwh {f : Addr} {fd : FuncData} (G : Md K C_Memory "is_white" "Memory.is_white" s_Memory_is_white ["self", "reference"] f fd) (X : Lw K mg C_Moving C_Memory C_Heap) : FnOk P w K mg base CX0 2 f fd ["self", "reference"] (spMwh C_Memory) := by
  obtain ⟨f_colour_told, d_colour_told, G_colour_told⟩ := X.f_colour_told
  have H_colour_told : FnOk P w K mg base CX0 1 f_colour_told d_colour_told ["head"] (spCt) := ok_ct G_colour_told X
  obtain ⟨_, m_WHITE⟩ := X.c_WHITE
  refine G.F.ok sc_Memory_is_white (fun vs H Q E h => ?_) (fun cdv A outer s H vs Q E hr h => ?_)
  · obtain ⟨a, x, b, c, sh, s, rfl, _⟩ := h; rfl
  · obtain ⟨a, x, b, c, sh, s, rfl, hm, hx, q⟩ := h
    refine ⟨_, (pss_one (ps_ret (pe_and (pe_cmpR op_ge (pv 1) (pe_fld (pv 0) rfl) (nomark _)) (pe_one (pe_cmpR op_eq (pe_call H_colour_told hr (by rfl) G_colour_told.g G_colour_told.F.kp G_colour_told.b .nil pass0 (pa_cons (pe_ix ix_list (pe_fld (pv 0) rfl) (pv 1) (fun _ _ => rfl)) pa_nil)) (pe_glob (v := .int (0)) (by rfl) m_WHITE ⟨_, rfl⟩) (nomark _)))))), ?_⟩
    unfold whiteM at hx
    refine ⟨_, rfl, _, rfl, a.m, C_Memory, a.dx, MemF a c s, .int c.fo, rfl, hm.at_, X.cl_Memory, X.n_Memory_first_old, rfl, _, _, rfl, rfl, _, rfl, ?_⟩
    by_cases e : (c.fo : Int) ≤ x
    · rw [if_pos e] at hx
      obtain ⟨h, eh, rfl⟩ := Option.map_eq_some_iff.mp hx
      obtain ⟨y, rfl⟩ := Int.eq_ofNat_of_zero_le (show 0 ≤ x by omega)
      refine ite2 (fun _ => ?_) (fun z => absurd (decide_eq_true (show (y : Int) ≥ (c.fo : Int) from e)) z)
      refine ⟨_, rfl, a.m, C_Memory, a.dx, MemF a c s, .ref a.aW, rfl, hm.at_, X.cl_Memory, X.n_Memory_words, rfl, _, rfl, a.aW, _, y, .int h, rfl, rfl, SqL.of hm.words, atI_nat (by rw [List.getElem?_map]; rw [Int.toNat_natCast] at eh; rw [eh]; rfl), h, rfl, rfl, ?_⟩
      have : decide (V.int (h % 4) = V.int 0) = decide (h % 4 = 0) := by
        by_cases z : h % 4 = 0 <;> simp [z]
      rw [this]
      exact q
    · rw [if_neg e] at hx
      cases hx
      exact ite2 (fun z => absurd (of_decide_eq_true z) e) (fun _ => q)
def spMsh (CM : Addr) : Sp := fun vs H Q _ => ∃ (a : Ma) (x : Int) (c : Sz) (sh : List (List Bool)) (s s' : Ms), vs = [.ref a.m, .int x] ∧ MemAt CM H a c sh s ∧ shadeM c s x = some s' ∧ (∀ H', MemAt CM H' a c sh s' → KeptL a.own H H' → Q .non H')
theorem ok_msh {f : Addr} {fd : FuncData} (G : Md K C_Memory "shade" "Memory.shade" s_Memory_shade ["self", "reference"] f fd) (X : Lw K mg C_Moving C_Memory C_Heap) : FnOk P w K mg base CX0 3 f fd ["self", "reference"] (spMsh C_Memory) := by
  obtain ⟨f_Memory_is_white, d_Memory_is_white, M_Memory_is_white⟩ := X.m_Memory_is_white
  have H_Memory_is_white : FnOk P w K mg base CX0 2 f_Memory_is_white d_Memory_is_white ["self", "reference"] (spMwh C_Memory) := ok_mwh M_Memory_is_white X
  refine G.F.ok sc_Memory_shade (fun vs H Q E h => ?_) (fun cdv A outer s H vs Q E hr h => ?_)
  · obtain ⟨a, x, c, sh, s, s', rfl, _⟩ := h; rfl
  · obtain ⟨a, x, c, sh, s, s', rfl, hm, hx, q⟩ := h
    refine ⟨_, (pss_one (ps_if (pt_val (pe_meth (pv 0) X.cl_Memory M_Memory_is_white.m H_Memory_is_white hr M_Memory_is_white.b .nil pass0 (pa_cons (pv 1) pa_nil)))
        (pss_cons (ps_augS (pe_fld (pv 0) rfl) (pv 1) KK.get_list pe_int ip_add set_list)
      (pss_one (ps_expr (pe_bm PySem.F.plainAttrs_list PySem.F.slot_list_append PySem.F.type_list_append mt_append (pe_fld (pv 0) rfl) (pa_cons (pv 1) pa_nil))))) pss_nil)), ?_⟩
    unfold shadeM at hx
    have k0 : KeptL a.own H H := fun _ _ _ e => e
    by_cases e : (c.fo : Int) ≤ x
    · rw [if_pos e] at hx
      cases hw : s.words[x.toNat]? with
      | none => rw [hw] at hx; cases hx
      | some h =>
        rw [hw] at hx
        have hx : (if h % 4 = 0 then (if s.grey.length ≤ 500000 then some { s with words := s.words.set x.toNat (h + 1), grey := s.grey ++ [x.toNat] } else none) else some s) = some s' := hx
        refine ⟨_, rfl, a.m, a.dx, MemF a c s, rfl, hm.at_, memF_no (by decide), _, rfl, a, x, decide (h % 4 = 0), c, sh, s, rfl, hm, by unfold whiteM; rw [if_pos e, hw]; rfl, _, rfl, ?_⟩
        obtain ⟨y, rfl⟩ := Int.eq_ofNat_of_zero_le (show 0 ≤ x by omega)
        rw [Int.toNat_natCast] at hw hx
        have hyl := (List.getElem?_eq_some_iff.mp hw).1
        by_cases z : h % 4 = 0
        · rw [if_pos z] at hx
          split at hx
          · rename_i hg
            cases hx
            rw [decide_eq_true z]
            refine iteT ?_
            refine ⟨_, rfl, a.m, C_Memory, a.dx, MemF a c s, .ref a.aW, rfl, hm.at_, X.cl_Memory, X.n_Memory_words, rfl, _, rfl, a.aW, _, y, .int h, rfl, rfl, SqL.of hm.words, atI_nat (by rw [List.getElem?_map, hw]; rfl), _, _, rfl, rfl, a.aW, _, y, y, rfl, rfl, hm.words, ixN_nat (by rw [List.length_map]; exact hyl), ?_⟩
            have m1 := hm.setW (s.words.set y (h + 1))
            have eW : (s.words.map V.int).set y (V.int (h + 1)) = (s.words.set y (h + 1)).map V.int := by rw [List.map_set]
            rw [eW]
            refine ⟨_, rfl, a.m, C_Memory, a.dx, MemF a c s, .ref a.aG, rfl, m1.at_, X.cl_Memory, X.n_Memory_grey, rfl, ?_⟩
            refine ⟨.inl ⟨rfl, _, SqL.of m1.grey⟩, _, rfl, a.aG, _, .int y, rfl, rfl, m1.grey, by unfold natI; rw [List.length_map]; exact big (by show s.grey.length ≤ _; omega), ?_⟩
            have m2 := m1.setG (s.grey ++ [y])
            have eG : natI s.grey ++ [V.int (y : Int)] = natI (s.grey ++ [y]) := by simp [natI]
            rw [show ({ s with words := s.words.set y (h + 1) } : Ms).grey = s.grey from rfl, eG]
            exact q _ m2 ((kept_upd (by simp [Ma.own])).trans (kept_upd (by simp [Ma.own])))
          · cases hx
        · rw [if_neg z] at hx
          cases hx
          rw [decide_eq_false z]
          exact iteF (q H hm k0)
    · rw [if_neg e] at hx
      cases hx
      refine ⟨_, rfl, a.m, a.dx, MemF a c s, rfl, hm.at_, memF_no (by decide), _, rfl, a, x, false, c, sh, s, rfl, hm, by unfold whiteM; rw [if_neg e], _, rfl, iteF (q H hm k0)⟩
def spMlp (CM : Addr) : Sp := fun vs H Q _ => ∃ (a : Ma) (x : Nat) (ps : List Nat) (c : Sz) (sh : List (List Bool)) (s : Ms), vs = [.ref a.m, .int x] ∧ MemAt CM H a c sh s ∧ linkM sh s x = some ps ∧ (∀ (b : Addr) (H' : Hp), H b = none → Same H H' → H' b = some (.lst (natI ps)) → Q (.ref b) H')
theorem ok_mlp {f : Addr} {fd : FuncData} (G : Md K C_Memory "link_places" "Memory.link_places" s_Memory_link_places ["self", "address"] f fd) (X : Lw K mg C_Moving C_Memory C_Heap) : FnOk P w K mg base CX0 3 f fd ["self", "address"] (spMlp C_Memory) := by
  obtain ⟨_, m_LINK_ROW⟩ := X.c_LINK_ROW
  obtain ⟨f_Memory_slots, d_Memory_slots, M_Memory_slots⟩ := X.m_Memory_slots
  have H_Memory_slots : FnOk P w K mg base CX0 1 f_Memory_slots d_Memory_slots ["self", "address"] (spMslots C_Memory) := ok_mslots M_Memory_slots X
  obtain ⟨f_Memory_kind, d_Memory_kind, M_Memory_kind⟩ := X.m_Memory_kind
  have H_Memory_kind : FnOk P w K mg base CX0 2 f_Memory_kind d_Memory_kind ["self", "address"] (spMkind C_Memory) := ok_mkind M_Memory_kind X
  obtain ⟨_, m_HEAD_WORDS⟩ := X.c_HEAD_WORDS
  refine G.F.ok sc_Memory_link_places (fun vs H Q E h => ?_) (fun cdv A outer s H vs Q E hr h => ?_)
  · obtain ⟨a, x, ps, c, sh, s, rfl, _⟩ := h; rfl
  · obtain ⟨a, x, ps, c, sh, s, rfl, hm, hx, q⟩ := h
    refine ⟨_, (pss_cons (ps_set (i := 2) sc_Memory_link_places.nd rfl (Or.inr rfl) (pe_op op_add (pv 1) (pe_glob (v := .int (2)) (by rfl) m_HEAD_WORDS ⟨_, rfl⟩)))
      (pss_cons (ps_set (i := 3) sc_Memory_link_places.nd rfl (Or.inl rfl) (pe_meth (pv 0) X.cl_Memory M_Memory_kind.m H_Memory_kind hr M_Memory_kind.b .nil pass0 (pa_cons (pv 1) pa_nil)))
      (pss_cons (ps_if (pt_cmpR op_ge (pv 3) pe_int (nomark _))
        (pss_one (ps_ret (pe_lc (own := [("index", 4)]) (g := (gName 4)) (tt := tYes) rfl sc_Memory_link_places.nd (pi_tup (pe_ix ix_list (pe_fld (pv 0) rfl) (pv 3) (fun _ _ => rfl))) (blkOk_by (own := [("index", 4)]) (N := ["self", "address", "first", "kind", "index"]) (sc := defScope s_Memory_link_places) (by decide +kernel)) (fun _ _ _ _ _ => (pg_name (i := 4) sc_Memory_link_places.nd rfl (Or.inl rfl))) (fun _ _ _ _ _ => pts_nil) (fun _ _ _ _ _ => (pe_op op_add (pv 2) (pv 4)))))) pss_nil)
      (pss_one (ps_ret (pe_ifExp (pt_cmpR op_eq (pv 3) (pe_glob (v := .int (-2)) (by rfl) m_LINK_ROW ⟨_, rfl⟩) (nomark _)) (pe_listRg rfl (by rfl) X.b_list (prg_2 (by rfl) X.b_range (pv 2) (pe_op op_add (pv 2) (pe_meth (pv 0) X.cl_Memory M_Memory_slots.m H_Memory_slots (hr.mono (by decide)) M_Memory_slots.b .nil pass0 (pa_cons (pv 1) pa_nil))))) (pe_lst pa_nil))))))), ?_⟩
    unfold linkM at hx
    cases hw : s.words[x]? with
    | none => rw [hw] at hx; cases hx
    | some h =>
      rw [hw] at hx
      simp only at hx
      refine ⟨_, rfl, _, _, rfl, rfl, ?_⟩
      refine ⟨_, rfl, a.m, a.dx, MemF a c s, rfl, hm.at_, memF_no (by decide), _, rfl, a, x, h, c, sh, s, rfl, hm, hw, ?_⟩
      refine ⟨_, rfl, _, _, rfl, rfl, _, rfl, ite2 (fun hk => ?_) (fun hk => ?_)⟩
      · have hk : 0 ≤ h / 64 - 3 := of_decide_eq_true hk
        rw [if_pos hk] at hx
        obtain ⟨k, ek⟩ := Int.eq_ofNat_of_zero_le hk
        rw [ek, Int.toNat_natCast] at hx
        cases hr : sh[k]? with
        | none => rw [hr] at hx; cases hx
        | some r =>
          rw [hr] at hx
          simp only at hx
          obtain ⟨ls, hL, ll, he⟩ := hm.links
          have hkl : k < ls.length := by rw [ll]; exact (List.getElem?_eq_some_iff.mp hr).1
          have hb := he k r ls[k] hr (List.getElem?_eq_getElem hkl)
          split at hx
          · rename_i hr100
            cases hx
            refine ⟨_, rfl, a.m, C_Memory, a.dx, MemF a c s, .ref a.aL, rfl, hm.at_, X.cl_Memory, X.n_Memory_shapes_links, rfl, _, rfl, a.aL, _, h / 64 - 3, .ref ls[k], rfl, rfl, SqL.of hL, by rw [ek]; exact atI_nat (by rw [List.getElem?_map, List.getElem?_eq_getElem hkl]; rfl), ?_⟩
            refine ⟨ls[k], rfl, ⟨_, SqT.of hb⟩, fun D nD => ?_⟩
            refine lc_tup (K := K) (xs := natV (idxOf r.length fun j => r[j]?.getD false)) (fun i H2 => H2 D = some (.lst (natI (((idxOf r.length fun j => r[j]?.getD false).take i).map fun j => x + 2 + j))) ∧ Same H H2) ⟨upd_same, same_new nD⟩ ?_ ?_ ?_
            · rintro i H2 _ ⟨_, S2⟩
              exact SqT.of (S2 _ _ hb)
            · rintro i v H2 hi ⟨hD, S2⟩
              unfold natV at hi
              rw [List.getElem?_map] at hi
              obtain ⟨j, ej, rfl⟩ := Option.map_eq_some_iff.mp hi
              have hil := (List.getElem?_eq_some_iff.mp ej).1
              have hxl : (idxOf r.length fun j => r[j]?.getD false).length ≤ r.length := by
                unfold idxOf
                exact Nat.le_trans (List.length_filter_le _ _) (by rw [List.length_range]; exact Nat.le_refl _)
              refine ⟨rfl, _, rfl, _, rfl, _, _, rfl, rfl, _, hD, by unfold natI; rw [List.length_map, List.length_map, List.length_take]; exact small1000 (by omega), ?_, same_at nD S2⟩
              rw [upd_same]
              have et : (idxOf r.length fun j => r[j]?.getD false).take (i + 1) = (idxOf r.length fun j => r[j]?.getD false).take i ++ [j] := by
                rw [List.take_succ_eq_append_getElem hil]
                congr 2
                rw [List.getElem?_eq_getElem hil] at ej
                exact Option.some.inj ej
              rw [et, List.map_append]
              unfold natI
              rw [List.map_append]
              rfl
            · rintro H2 ⟨hD, S2⟩
              have : (natV (idxOf r.length fun j => r[j]?.getD false)).length = (idxOf r.length fun j => r[j]?.getD false).length := by unfold natV; rw [List.length_map]
              rw [this, List.take_length] at hD
              exact q D H2 nD S2 hD
          · cases hx
      · have hk : ¬ 0 ≤ h / 64 - 3 := fun z => hk (decide_eq_true z)
        rw [if_neg hk] at hx
        refine ⟨_, rfl, rfl, _, rfl, ?_⟩
        by_cases k2 : h / 64 - 3 = -2
        · rw [if_pos k2] at hx
          cases hn : s.words[x + 1]? with
          | none => rw [hn] at hx; cases hx
          | some n =>
            rw [hn] at hx
            simp only at hx
            split at hx
            · rename_i hnn
              cases hx
              have : decide (V.int (h / 64 - 3) = V.int (-2)) = true := by simp [k2]
              rw [this]
              obtain ⟨m, rfl⟩ := Int.eq_ofNat_of_zero_le hnn.1
              refine iteT ⟨_, rfl, _, rfl, _, rfl, a.m, a.dx, MemF a c s, rfl, hm.at_, memF_no (by decide), _, rfl, a, x, (m : Int), c, sh, s, rfl, hm, hn, _, _, rfl, rfl, ?_⟩
              have hm1 : (m : Int) ≤ 1000 := hnn.2.1
              have hx1 := hnn.2.2
              refine ⟨_, _, rfl, rfl, .of_le (by omega) (by omega) (by omega) (by omega), fun l nl => q l _ nl (same_new nl) ?_⟩
              rw [upd_same]
              have e1 : ((x : Int) + 2 + (m : Int) - ((x : Int) + 2)).toNat = m := by omega
              show some (HO.lst (rgV ((x : Int) + 2) ((x : Int) + 2 + (m : Int)))) = _
              unfold rgV natI
              rw [e1, List.map_map]
              congr 2
            · cases hx
        · rw [if_neg k2] at hx
          cases hx
          have : decide (V.int (h / 64 - 3) = V.int (-2)) = false := by simp [k2]
          rw [this]
          exact iteF ⟨by show 0 ≤ sizeLine; decide, fun l nl => q l _ nl (same_new nl) upd_same⟩
def spMsl (CM : Addr) : Sp := fun vs H Q _ => ∃ (a : Ma) (ad p : Nat) (x : Int) (c : Sz) (sh : List (List Bool)) (s s' : Ms), vs = [.ref a.m, .int ad, .int p, .int x] ∧ MemAt CM H a c sh s ∧ setLinkM c s ad p x = some s' ∧ (∀ H', MemAt CM H' a c sh s' → KeptL a.own H H' → Q .non H')
theorem ok_msl {f : Addr} {fd : FuncData} (G : Md K C_Memory "set_link" "Memory.set_link" s_Memory_set_link ["self", "address", "place", "reference"] f fd) (X : Lw K mg C_Moving C_Memory C_Heap) : FnOk P w K mg base CX0 4 f fd ["self", "address", "place", "reference"] (spMsl C_Memory) := by
  obtain ⟨f_Memory_shade, d_Memory_shade, M_Memory_shade⟩ := X.m_Memory_shade
  have H_Memory_shade : FnOk P w K mg base CX0 3 f_Memory_shade d_Memory_shade ["self", "reference"] (spMsh C_Memory) := ok_msh M_Memory_shade X
  obtain ⟨f_Memory_is_young, d_Memory_is_young, M_Memory_is_young⟩ := X.m_Memory_is_young
  have H_Memory_is_young : FnOk P w K mg base CX0 1 f_Memory_is_young d_Memory_is_young ["self", "reference"] (spMisy C_Memory) := ok_misy M_Memory_is_young X
  refine G.F.ok sc_Memory_set_link (fun vs H Q E h => ?_) (fun cdv A outer s H vs Q E hr h => ?_)
  · obtain ⟨a, ad, p, x, c, sh, s, s', rfl, _⟩ := h; rfl
  · obtain ⟨a, ad, p, x, c, sh, s, s', rfl, hm, hx, q⟩ := h
    refine ⟨_, (pss_cons (ps_asg (pv 3) (pg_sub (pe_fld (pv 0) rfl) (pv 2) set_list))
      (pss_cons (ps_if (pt_cmpR op_lt (pv 1) (pe_fld (pv 0) rfl) (nomark _))
        (pss_one ps_retN) pss_nil)
      (pss_cons (ps_if (pt_val (pe_meth (pv 0) X.cl_Memory M_Memory_is_young.m H_Memory_is_young (hr.mono (by decide)) M_Memory_is_young.b .nil pass0 (pa_cons (pv 3) pa_nil)))
        (pss_cons (ps_dput (hu_of hr) (pe_fld (pv 0) rfl) (pv 2) pe_bl rfl)
      (pss_one ps_retN)) pss_nil)
      (C8.pss_cut (ps_if (pt_cmp (pc_din (hu_of hr) (pv 2) (pe_fld (pv 0) rfl)))
        (pss_one (ps_ddel (pe_fld (pv 0) rfl) (pv 2))) pss_nil)
      (pss_one (ps_if (pt_val (pe_fld (pv 0) rfl))
        (pss_one (ps_expr (pe_meth (pv 0) X.cl_Memory M_Memory_shade.m H_Memory_shade hr M_Memory_shade.b .nil pass0 (pa_cons (pv 3) pa_nil)))) pss_nil)))))), ?_⟩
    unfold setLinkM at hx
    split at hx
    case isFalse => cases hx
    rename_i hp
    refine ⟨_, rfl, _, rfl, a.m, C_Memory, a.dx, MemF a c s, .ref a.aW, rfl, hm.at_, X.cl_Memory, X.n_Memory_words, rfl, _, rfl, a.aW, _, p, p, rfl, rfl, hm.words, ixN_nat (by rw [List.length_map]; exact hp), ?_⟩
    have m1 := hm.setW (s.words.set p x)
    have k1 : KeptL a.own H (upd H a.aW (.lst ((s.words.set p x).map V.int))) := kept_upd (by simp [Ma.own])
    have eW : (s.words.map V.int).set p (V.int x) = (s.words.set p x).map V.int := by rw [List.map_set]
    obtain ⟨H1, g1⟩ : ∃ G : Hp, G = upd H a.aW (.lst ((s.words.set p x).map V.int)) := ⟨_, rfl⟩
    refine at_nx (g1.trans (by rw [eW])) ?_
    rw [← g1] at m1 k1
    refine ⟨_, rfl, _, rfl, a.m, C_Memory, a.dx, _, .int c.fo, rfl, m1.at_, X.cl_Memory, X.n_Memory_first_old, rfl, _, _, rfl, rfl, _, rfl, ite2 (fun h1 => ?_) (fun h1 => ?_)⟩
    · have h1 : (ad : Int) < (c.fo : Int) := of_decide_eq_true h1
      rw [if_pos (by omega)] at hx
      cases hx
      exact q _ m1 k1
    · have h1 : ¬ (ad : Int) < (c.fo : Int) := fun z => h1 (decide_eq_true z)
      rw [if_neg (by omega)] at hx
      refine ⟨_, rfl, a.m, a.dx, _, rfl, m1.at_, memF_no (by decide), _, rfl, a, x, c, sh, _, rfl, m1, _, rfl, ?_⟩
      by_cases hy : 0 < x ∧ x < c.fo
      · rw [if_pos hy] at hx
        rw [decide_eq_true hy]
        split at hx
        case isFalse => cases hx
        rename_i hr
        cases hx
        refine iteT ?_
        refine ⟨_, rfl, a.m, C_Memory, a.dx, _, .ref a.aR, rfl, m1.at_, X.cl_Memory, X.n_Memory_remembered, rfl, _, rfl, a.aR, _, rfl, DPut.k (k := Sum.inl (p : Int)) m1.rem (by unfold dk; rw [List.length_map]; exact big (by show s.rem.length ≤ _; omega)), ?_⟩
        have eR : putK (dk s.rem) (Sum.inl (p : Int) : Key) (V.bl true) = dk (if p ∈ s.rem then s.rem else s.rem ++ [p]) := by
          split
          · rename_i z; exact dk_putIn z
          · rename_i z; exact dk_put z
        rw [show ({ s with words := s.words.set p x } : Ms).rem = s.rem from rfl, eR]
        exact q _ (m1.setR _) (k1.trans (kept_upd (by simp [Ma.own])))
      · rw [if_neg hy] at hx
        rw [decide_eq_false hy]
        refine iteF ?_
        refine ⟨fun σ' H' => σ' = [some (.ref a.m), some (.int ad), some (.int p), some (.int x)] ∧ MemAt C_Memory H' a c sh { s with words := s.words.set p x, rem := s.rem.filter (· != p) } ∧ KeptL a.own H H', ?_, ?_⟩
        · refine ⟨_, rfl, _, rfl, a.m, C_Memory, a.dx, _, .ref a.aR, rfl, m1.at_, X.cl_Memory, X.n_Memory_remembered, rfl, a.aR, _, rfl, DGet.k (k := Sum.inl (p : Int)) m1.rem, _, rfl, ?_⟩
          rw [inL_get, inL_nat]
          by_cases hin : p ∈ s.rem
          · rw [decide_eq_true hin]
            refine iteT ⟨_, rfl, a.m, C_Memory, a.dx, _, .ref a.aR, rfl, m1.at_, X.cl_Memory, X.n_Memory_remembered, rfl, _, rfl, a.aR, _, Sum.inl (p : Int), rfl, m1.rem, rfl, ?_, ?_⟩
            · rw [inL_get, inL_nat]
              exact decide_eq_true hin
            · rw [dk_drop]
              exact ⟨rfl, m1.setR _, k1.trans (kept_upd (by simp [Ma.own]))⟩
          · rw [decide_eq_false hin]
            refine iteF ⟨rfl, ?_, k1⟩
            have : s.rem.filter (· != p) = s.rem := by
              rw [List.filter_eq_self]
              intro y hy
              simp
              exact fun z => hin (z ▸ hy)
            rw [this]
            exact m1
        rintro _ H2 ⟨rfl, m2, k2⟩
        refine ⟨_, rfl, a.m, C_Memory, a.dx, _, .bl s.marks, rfl, m2.at_, X.cl_Memory, X.n_Memory_marks, rfl, _, rfl, ?_⟩
        cases hmk : s.marks with
        | false =>
          rw [hmk, if_neg (by decide)] at hx
          cases hx
          rw [hmk] at m2
          exact iteF (q _ m2 k2)
        | true =>
          rw [hmk, if_pos rfl] at hx
          rw [hmk] at m2
          refine iteT ⟨_, rfl, a.m, a.dx, _, rfl, m2.at_, memF_no (by decide), _, rfl, a, x, c, sh, _, s', rfl, m2, hx, fun H3 m3 k3 => q _ m3 (k2.trans k3)⟩
end
end PH

/-! A moving: made, what is moved. -/
namespace PH
open PySem PySem.Spec PyProof.Rows L2 KA KI KK PV T ET
theorem MemAt.keep {CM : Addr} {H : Hp} {a : Ma} {c : Sz} {sh : List (List Bool)} {s : Ms} (h : MemAt CM H a c sh s) {i : HO} {b : Addr} {o : HO} (e : H b = some o) (ne : ∀ C d f, o ≠ .ins C d f) : upd H a.m i b = some o := by
  rw [upd_ne (by rintro rfl; rw [h.at_] at e; cases e; exact ne _ _ _ rfl)]
  exact e
theorem MemAt.fields {CM : Addr} {H : Hp} {a : Ma} {c : Sz} {sh : List (List Bool)} {s : Ms} (h : MemAt CM H a c sh s) (hf : Nat) (dn : Nat) (mk : Bool) : MemAt CM (upd H a.m (.ins CM a.dx (MemF a c { s with half := hf, done := dn, marks := mk }))) a c sh { s with half := hf, done := dn, marks := mk } := by
  obtain ⟨ls, hL, ll, he⟩ := h.links
  refine ⟨upd_same, h.shp.same (fun b xs e => h.keep e (by intro C d f z; cases z)), h.keep h.fi (by intro C d f z; cases z), ⟨ls, h.keep hL (by intro C d f z; cases z), ll, fun i r b e1 e2 => h.keep (he i r b e1 e2) (by intro C d f z; cases z)⟩, h.keep h.words (by intro C d f z; cases z), h.keep h.nexts (by intro C d f z; cases z), h.keep h.young (by intro C d f z; cases z), h.keep h.old (by intro C d f z; cases z), h.keep h.rem (by intro C d f z; cases z), h.keep h.grey (by intro C d f z; cases z), h.keep h.ended (by intro C d f z; cases z), h.nl, h.nd⟩
theorem MemAt.newY {CM : Addr} {H : Hp} {a : Ma} {c : Sz} {sh : List (List Bool)} {s : Ms} {D : Addr} (h0 : MemAt CM H a c sh s) (nD : H D = none) : MemAt CM (upd (upd H D (.dK [])) a.m (.ins CM a.dx (MemF { a with aY := D } c { s with young := [] }))) { a with aY := D } c sh { s with young := [] } := by
  have h := h0.same (same_new (o := .dK []) nD)
  obtain ⟨ls, hL, ll, he⟩ := h.links
  refine ⟨upd_same, h.shp.same (fun b xs e => h.keep e (by intro C d f z; cases z)), h.keep h.fi (by intro C d f z; cases z), ⟨ls, h.keep hL (by intro C d f z; cases z), ll, fun i r b e1 e2 => h.keep (he i r b e1 e2) (by intro C d f z; cases z)⟩, h.keep h.words (by intro C d f z; cases z), h.keep h.nexts (by intro C d f z; cases z), h.keep upd_same (by intro C d f z; cases z), h.keep h.old (by intro C d f z; cases z), h.keep h.rem (by intro C d f z; cases z), h.keep h.grey (by intro C d f z; cases z), h.keep h.ended (by intro C d f z; cases z), h.nl, ?_⟩
  have nd := h.nd
  simp only [List.nodup_cons, List.mem_cons, List.not_mem_nil, or_false, not_or, not_false_eq_true, List.nodup_nil, and_true] at nd ⊢
  exact ⟨⟨(ne_of_none h0.old nD).symm, (ne_of_none h0.rem nD).symm⟩, nd.2⟩
theorem MemAt.newR {CM : Addr} {H : Hp} {a : Ma} {c : Sz} {sh : List (List Bool)} {s : Ms} {D : Addr} (h0 : MemAt CM H a c sh s) (nD : H D = none) : MemAt CM (upd (upd H D (.dK [])) a.m (.ins CM a.dx (MemF { a with aR := D } c { s with rem := [] }))) { a with aR := D } c sh { s with rem := [] } := by
  have h := h0.same (same_new (o := .dK []) nD)
  obtain ⟨ls, hL, ll, he⟩ := h.links
  refine ⟨upd_same, h.shp.same (fun b xs e => h.keep e (by intro C d f z; cases z)), h.keep h.fi (by intro C d f z; cases z), ⟨ls, h.keep hL (by intro C d f z; cases z), ll, fun i r b e1 e2 => h.keep (he i r b e1 e2) (by intro C d f z; cases z)⟩, h.keep h.words (by intro C d f z; cases z), h.keep h.nexts (by intro C d f z; cases z), h.keep h.young (by intro C d f z; cases z), h.keep h.old (by intro C d f z; cases z), h.keep upd_same (by intro C d f z; cases z), h.keep h.grey (by intro C d f z; cases z), h.keep h.ended (by intro C d f z; cases z), h.nl, ?_⟩
  have nd := h.nd
  simp only [List.nodup_cons, List.mem_cons, List.not_mem_nil, or_false, not_or, not_false_eq_true, List.nodup_nil, and_true] at nd ⊢
  exact ⟨⟨nd.1.1, ne_of_none h0.young nD⟩, ne_of_none h0.old nD⟩
theorem MemAt.newG {CM : Addr} {H : Hp} {a : Ma} {c : Sz} {sh : List (List Bool)} {s : Ms} {D : Addr} (h0 : MemAt CM H a c sh s) (nD : H D = none) : MemAt CM (upd (upd H D (.lst [])) a.m (.ins CM a.dx (MemF { a with aG := D } c { s with grey := [] }))) { a with aG := D } c sh { s with grey := [] } := by
  have h := h0.same (same_new (o := .lst []) nD)
  obtain ⟨ls, hL, ll, he⟩ := h.links
  obtain ⟨ls0, hL0, _⟩ := h0.links
  refine ⟨upd_same, h.shp.same (fun b xs e => h.keep e (by intro C d f z; cases z)), h.keep h.fi (by intro C d f z; cases z), ⟨ls, h.keep hL (by intro C d f z; cases z), ll, fun i r b e1 e2 => h.keep (he i r b e1 e2) (by intro C d f z; cases z)⟩, h.keep h.words (by intro C d f z; cases z), h.keep h.nexts (by intro C d f z; cases z), h.keep h.young (by intro C d f z; cases z), h.keep h.old (by intro C d f z; cases z), h.keep h.rem (by intro C d f z; cases z), h.keep upd_same (by intro C d f z; cases z), h.keep h.ended (by intro C d f z; cases z), ?_, h.nd⟩
  have nl := h.nl
  simp only [List.nodup_cons, List.mem_cons, List.not_mem_nil, or_false, not_or, not_false_eq_true, List.nodup_nil, and_true] at nl ⊢
  exact ⟨⟨nl.1.1, nl.1.2.1, ne_of_none hL0 nD, nl.1.2.2.2⟩, ⟨nl.2.1.1, ne_of_none h0.words nD, nl.2.1.2.2⟩, ⟨ne_of_none h0.nexts nD, nl.2.2.1.2⟩, (ne_of_none h0.ended nD).symm⟩
abbrev VF (am : Addr) (st : Bool) (hf : Nat) (aMo aH aO : Addr) : List (Str × V) := [("memory", .ref am), ("is_settling", .bl st), ("half", .int hf), ("moved", .ref aMo), ("to_half", .ref aH), ("to_old", .ref aO)]
theorem natI_set (l : List Nat) (r x : Nat) : (natI l).set r (V.int (x : Int)) = natI (l.set r x) := by
  unfold natI
  rw [List.map_set]
theorem itev {g : Bool} {x y : V} {Q : VK} {σ : L2.St} {H : Hp} (h : Q (if g = true then x else y) H) : if g = true then tC x σ H Q else tC y σ H Q := by cases g <;> exact h
def mkv (mv : List (Nat × Nat)) : List (Key × V) := mv.map fun p => ((Sum.inl (p.1 : Int) : Key), V.int (p.2 : Int))
structure MvAt (CV CM : Addr) (H : Hp) (v dx aMo aH aO : Addr) (st : Bool) (hf : Nat) (a : Ma) (c : Sz) (sh : List (List Bool)) (m : Mv) : Prop where
  v_ : H v = some (.ins CV dx (VF a.m st hf aMo aH aO))
  mo : H aMo = some (.dK (mkv m.mv))
  th : H aH = some (.lst (natI m.th))
  to : H aO = some (.lst (natI m.to))
  mem : MemAt CM H a c sh m.s
  nv : v ∉ a.own
  nMo : aMo ∉ a.own
  nH : aH ∉ a.own
  nO : aO ∉ a.own
  ne : aH ≠ aO
def mvOwn (aMo aH aO : Addr) (a : Ma) : List Addr := aMo :: aH :: aO :: a.own
theorem vF_no {am aMo aH aO : Addr} {st : Bool} {hf : Nat} {m : Str} (h : m ∉ (["memory", "is_settling", "half", "moved", "to_half", "to_old"] : List Str)) : (VF am st hf aMo aH aO).lookup m = none := by
  simp only [List.mem_cons, List.not_mem_nil, or_false, not_or] at h
  have e : ∀ {x : Str}, ¬ m = x → (m == x) = false := fun h => by simpa using h
  simp only [VF, List.lookup, e h.1, e h.2.1, e h.2.2.1, e h.2.2.2.1, e h.2.2.2.2.1, e h.2.2.2.2.2]
section
variable {P : Program} {w : World} {K : PySem.W.Frag} {mg : Str → Option Value} {base : Heap} {C_Moving C_Memory C_Heap : Addr}
def spVinit (CV CM : Addr) : Sp := fun vs H Q _ => ∃ (v dx : Addr) (st : Bool) (a : Ma) (c : Sz) (sh : List (List Bool)) (s : Ms), vs = [.ref v, .ref a.m, .bl st] ∧ H v = some (.ins CV dx []) ∧ MemAt CM H a c sh s ∧ s.half < 2 ∧
  ∀ (aMo aH aO : Addr) (H' : Hp), H' v = some (.ins CV dx (VF a.m st (1 - s.half) aMo aH aO)) → H' aMo = some (.dK []) → H' aH = some (.lst []) → H' aO = some (.lst []) → aH ≠ aO → H aMo = none → H aH = none → H aO = none → KeptL [v] H H' → Q .non H'
theorem ok_vinit {f : Addr} {fd : FuncData} (F : Fun K "__init__" "Moving.__init__" s_Moving_init f fd) (X : Lw K mg C_Moving C_Memory C_Heap) : FnOk P w K mg base CX0 1 f fd ["self", "memory", "is_settling"] (spVinit C_Moving C_Memory) := by

  refine F.ok sc_Moving_init (fun vs H Q E h => ?_) (fun cdv A outer s H vs Q E hr h => ?_)
  · obtain ⟨v, dx, st, a, c, sh, s, rfl, _⟩ := h; rfl
  · obtain ⟨v, dx, st, a, c, sh, s, rfl, hv, hm, hs2, q⟩ := h
    refine ⟨_, (pss_cons (ps_fld (pv 0) (pv 1) rfl)
      (pss_cons (ps_fld (pv 0) (pv 2) rfl)
      (pss_cons (ps_fld (pv 0) (pe_op op_sub pe_int (pe_fld (pv 1) rfl)) rfl)
      (pss_cons (ps_fld (pv 0) pe_dnewK rfl)
      (pss_cons (ps_fld (pv 0) (pe_lst pa_nil) rfl)
      (pss_one (ps_fld (pv 0) (pe_lst pa_nil) rfl))))))), ?_⟩
    have P0 := hv
    have eh : (1 : Int) - (s.half : Int) = ((1 - s.half : Nat) : Int) := by omega
    obtain ⟨H1, g1⟩ : ∃ G : Hp, G = upd H v (.ins C_Moving dx [("memory", .ref a.m)]) := ⟨_, rfl⟩
    refine ⟨_, rfl, _, rfl, v, C_Moving, dx, _, rfl, P0, X.cl_Moving, X.n_Moving_memory, by decide, ?_⟩
    refine at_nx g1 ?_
    have P1 : H1 v = some (.ins C_Moving dx [("memory", .ref a.m)]) := by rw [g1]; exact upd_same
    have k1 : KeptL [v] H H1 := by rw [g1]; exact kept_upd (by simp)
    have K1 := k1
    obtain ⟨H2, g2⟩ : ∃ G : Hp, G = upd H1 v (.ins C_Moving dx [("memory", .ref a.m), ("is_settling", .bl st)]) := ⟨_, rfl⟩
    refine ⟨_, rfl, _, rfl, v, C_Moving, dx, _, rfl, P1, X.cl_Moving, X.n_Moving_is_settling, by show 1 < _; decide, ?_⟩
    refine at_nx g2 ?_
    have P2 : H2 v = some (.ins C_Moving dx [("memory", .ref a.m), ("is_settling", .bl st)]) := by rw [g2]; exact upd_same
    have k2 : KeptL [v] H1 H2 := by rw [g2]; exact kept_upd (by simp)
    have K2 := K1.trans k2
    have vm : a.m ≠ v := fun z => by have := hm.at_; rw [z, hv] at this; cases this
    obtain ⟨H3, g3⟩ : ∃ G : Hp, G = upd H2 v (.ins C_Moving dx [("memory", .ref a.m), ("is_settling", .bl st), ("half", .int (1 - (s.half : Int)))]) := ⟨_, rfl⟩
    refine ⟨_, rfl, a.m, C_Memory, a.dx, MemF a c s, .int s.half, rfl, K2 _ _ (by rw [List.mem_singleton]; exact vm) hm.at_, X.cl_Memory, X.n_Memory_half, rfl, _, _, rfl, rfl, _, rfl, v, C_Moving, dx, _, rfl, P2, X.cl_Moving, X.n_Moving_half, by show 2 < _; decide, ?_⟩
    refine at_nx g3 ?_
    have P3 : H3 v = some (.ins C_Moving dx [("memory", .ref a.m), ("is_settling", .bl st), ("half", .int (1 - (s.half : Int)))]) := by rw [g3]; exact upd_same
    rw [eh] at P3
    have k3 : KeptL [v] H2 H3 := by rw [g3]; exact kept_upd (by simp)
    have K3 := K2.trans k3
    refine fun aMo naMo => ?_
    have eaMo : v ≠ aMo := ne_of_none P3 naMo
    obtain ⟨H4, g4⟩ : ∃ G : Hp, G = upd (upd H3 aMo (.dK [])) v (.ins C_Moving dx [("memory", .ref a.m), ("is_settling", .bl st), ("half", .int ((1 - s.half : Nat) : Int)), ("moved", .ref aMo)]) := ⟨_, rfl⟩
    refine ⟨_, rfl, v, C_Moving, dx, _, rfl, (by rw [upd_ne eaMo]; exact P3), X.cl_Moving, X.n_Moving_moved, by show 3 < _; decide, ?_⟩
    refine at_nx g4 ?_
    have P4 : H4 v = some (.ins C_Moving dx [("memory", .ref a.m), ("is_settling", .bl st), ("half", .int ((1 - s.half : Nat) : Int)), ("moved", .ref aMo)]) := by rw [g4]; exact upd_same
    have k4 : KeptL [v] H3 H4 := by rw [g4]; exact (KeptL.of_same (same_new naMo)).trans (kept_upd (by simp))
    have faMo : H4 aMo = some (.dK []) := by rw [g4, upd_ne eaMo.symm]; exact upd_same
    have K4 := K3.trans k4
    refine ⟨by show 0 ≤ sizeLine; decide, fun aH naH => ?_⟩
    have eaH : v ≠ aH := ne_of_none P4 naH
    obtain ⟨H5, g5⟩ : ∃ G : Hp, G = upd (upd H4 aH (.lst [])) v (.ins C_Moving dx [("memory", .ref a.m), ("is_settling", .bl st), ("half", .int ((1 - s.half : Nat) : Int)), ("moved", .ref aMo), ("to_half", .ref aH)]) := ⟨_, rfl⟩
    refine ⟨_, rfl, v, C_Moving, dx, _, rfl, (by rw [upd_ne eaH]; exact P4), X.cl_Moving, X.n_Moving_to_half, by show 4 < _; decide, ?_⟩
    refine at_nx g5 ?_
    have P5 : H5 v = some (.ins C_Moving dx [("memory", .ref a.m), ("is_settling", .bl st), ("half", .int ((1 - s.half : Nat) : Int)), ("moved", .ref aMo), ("to_half", .ref aH)]) := by rw [g5]; exact upd_same
    have k5 : KeptL [v] H4 H5 := by rw [g5]; exact (KeptL.of_same (same_new naH)).trans (kept_upd (by simp))
    have faH : H5 aH = some (.lst []) := by rw [g5, upd_ne eaH.symm]; exact upd_same
    have K5 := K4.trans k5
    refine ⟨by show 0 ≤ sizeLine; decide, fun aO naO => ?_⟩
    have eaO : v ≠ aO := ne_of_none P5 naO
    obtain ⟨H6, g6⟩ : ∃ G : Hp, G = upd (upd H5 aO (.lst [])) v (.ins C_Moving dx [("memory", .ref a.m), ("is_settling", .bl st), ("half", .int ((1 - s.half : Nat) : Int)), ("moved", .ref aMo), ("to_half", .ref aH), ("to_old", .ref aO)]) := ⟨_, rfl⟩
    refine ⟨_, rfl, v, C_Moving, dx, _, rfl, (by rw [upd_ne eaO]; exact P5), X.cl_Moving, X.n_Moving_to_old, by show 5 < _; decide, ?_⟩
    refine at_nx g6 ?_
    have P6 : H6 v = some (.ins C_Moving dx [("memory", .ref a.m), ("is_settling", .bl st), ("half", .int ((1 - s.half : Nat) : Int)), ("moved", .ref aMo), ("to_half", .ref aH), ("to_old", .ref aO)]) := by rw [g6]; exact upd_same
    have k6 : KeptL [v] H5 H6 := by rw [g6]; exact (KeptL.of_same (same_new naO)).trans (kept_upd (by simp))
    have faO : H6 aO = some (.lst []) := by rw [g6, upd_ne eaO.symm]; exact upd_same
    have K6 := K5.trans k6
    have fr : ∀ {x : Addr} {G : Hp}, KeptL [v] H G → v ≠ x → G x = none → H x = none := fun kk ne n => (kept_none kk n).resolve_left ne.symm
    refine q aMo aH aO H6 P6 ((k5.trans k6) _ _ (by rw [List.mem_singleton]; exact eaMo.symm) faMo) (k6 _ _ (by rw [List.mem_singleton]; exact eaH.symm) faH) faO (ne_of_none faH naO) (fr K3 eaMo naMo) (fr K4 eaH naH) (fr K5 eaO naO) K6
end
end PH

/-! A moving: what is moved, what is led. -/
namespace PH
open PySem PySem.Spec PyProof.Rows L2 KA KI KK PV T ET
theorem headW_i (k : Int) (h : Int) : ((h / 4 % 16 + 1 : Int)) = (((h / 4 % 16).toNat + 1 : Nat) : Int) := by omega
section
variable {P : Program} {w : World} {K : PySem.W.Frag} {mg : Str → Option Value} {base : Heap} {C_Moving C_Memory C_Heap : Addr}
def spVmove (CV CM : Addr) : Sp := fun vs H Q _ => ∃ (v dx aMo aH aO : Addr) (st : Bool) (hf x y : Nat) (a : Ma) (c : Sz) (sh : List (List Bool)) (m m' : Mv), vs = [.ref v, .int x] ∧ MvAt CV CM H v dx aMo aH aO st hf a c sh m ∧ moveM c st hf m x = some (m', y) ∧
  (∀ H', MvAt CV CM H' v dx aMo aH aO st hf a c sh m' → KeptL (mvOwn aMo aH aO a) H H' → Q (.int y) H')
theorem ok_vmove {f : Addr} {fd : FuncData} (G : Md K C_Moving "move" "Moving.move" s_Moving_move ["self", "address"] f fd) (X : Lw K mg C_Moving C_Memory C_Heap) : FnOk P w K mg base CX0 3 f fd ["self", "address"] (spVmove C_Moving C_Memory) := by
  obtain ⟨f_Memory_lay_old, d_Memory_lay_old, M_Memory_lay_old⟩ := X.m_Memory_lay_old
  have H_Memory_lay_old : FnOk P w K mg base CX0 1 f_Memory_lay_old d_Memory_lay_old ["self", "words"] (spMlo C_Memory) := ok_mlo M_Memory_lay_old X
  obtain ⟨f_head_word, d_head_word, G_head_word⟩ := X.f_head_word
  have H_head_word : FnOk P w K mg base CX0 1 f_head_word d_head_word ["kind", "age", "colour"] (spHw) := ok_hw G_head_word X
  obtain ⟨_, m_GREY⟩ := X.c_GREY
  obtain ⟨_, m_WHITE⟩ := X.c_WHITE
  obtain ⟨f_Memory_kind, d_Memory_kind, M_Memory_kind⟩ := X.m_Memory_kind
  have H_Memory_kind : FnOk P w K mg base CX0 2 f_Memory_kind d_Memory_kind ["self", "address"] (spMkind C_Memory) := ok_mkind M_Memory_kind X
  obtain ⟨f_Memory_fits, d_Memory_fits, M_Memory_fits⟩ := X.m_Memory_fits
  have H_Memory_fits : FnOk P w K mg base CX0 1 f_Memory_fits d_Memory_fits ["self", "room", "many"] (spMfits C_Memory) := ok_mfits M_Memory_fits X
  obtain ⟨f_Memory_lay_young, d_Memory_lay_young, M_Memory_lay_young⟩ := X.m_Memory_lay_young
  have H_Memory_lay_young : FnOk P w K mg base CX0 1 f_Memory_lay_young d_Memory_lay_young ["self", "room", "words"] (spMly C_Memory) := ok_mly M_Memory_lay_young X
  obtain ⟨f_Memory_age_of, d_Memory_age_of, M_Memory_age_of⟩ := X.m_Memory_age_of
  have H_Memory_age_of : FnOk P w K mg base CX0 2 f_Memory_age_of d_Memory_age_of ["self", "address"] (spMage C_Memory) := ok_mage M_Memory_age_of X
  obtain ⟨f_Memory_size, d_Memory_size, M_Memory_size⟩ := X.m_Memory_size
  have H_Memory_size : FnOk P w K mg base CX0 1 f_Memory_size d_Memory_size ["self", "address"] (spMsize C_Memory) := ok_msize M_Memory_size X
  refine G.F.ok sc_Moving_move (fun vs H Q E h => ?_) (fun cdv A outer s H vs Q E hr h => ?_)
  · obtain ⟨v, dx, aMo, aH, aO, st, hf, x, y, a, c, sh, m, m', rfl, _⟩ := h; rfl
  · obtain ⟨v, dx, aMo, aH, aO, st, hf, x, y, a, c, sh, m, m', rfl, hv, hx, q⟩ := h
    refine ⟨_, (pss_cons (ps_set (i := 2) sc_Moving_move.nd rfl (Or.inl rfl) (pe_fld (pv 0) rfl))
      (pss_cons (ps_set (i := 3) sc_Moving_move.nd rfl (Or.inl rfl) (pe_meth (pv 2) X.cl_Memory M_Memory_size.m H_Memory_size (hr.mono (by decide)) M_Memory_size.b .nil pass0 (pa_cons (pv 1) pa_nil)))
      (pss_cons (ps_set (i := 4) sc_Moving_move.nd rfl (Or.inl rfl) (pe_op op_add (pe_meth (pv 2) X.cl_Memory M_Memory_age_of.m H_Memory_age_of hr M_Memory_age_of.b .nil pass0 (pa_cons (pv 1) pa_nil)) pe_int))
      (pss_cons (ps_set (i := 5) sc_Moving_move.nd rfl (Or.inl rfl) (pe_slice sl_list (pe_fld (pv 2) rfl) (po_some (pv 1)) (po_some (pe_op op_add (pv 1) (pv 3)))))
      (pss_cons (ps_set (i := 6) sc_Moving_move.nd rfl (Or.inl rfl) (pe_op op_add pe_int (pe_fld (pv 0) rfl)))
      (C8.pss_cut (ps_if (PW.pt (pw_and (pt_not (pt_val (pe_fld (pv 0) rfl))) (pw_and (pt_cmpR op_lt (pv 4) (pe_fld (pv 2) rfl) (nomark _)) (pw_and1 (pt_val (pe_meth (pv 2) X.cl_Memory M_Memory_fits.m H_Memory_fits (hr.mono (by decide)) M_Memory_fits.b .nil pass0 (pa_cons (pv 6) (pa_cons (pv 3) pa_nil))))))))
        (pss_cons (ps_asg (pe_call H_head_word (hr.mono (by decide)) (by rfl) G_head_word.g G_head_word.F.kp G_head_word.b .nil pass0 (pa_cons (pe_meth (pv 2) X.cl_Memory M_Memory_kind.m H_Memory_kind hr M_Memory_kind.b .nil pass0 (pa_cons (pv 1) pa_nil)) (pa_cons (pv 4) (pa_cons (pe_glob (v := .int (0)) (by rfl) m_WHITE ⟨_, rfl⟩) pa_nil)))) (pg_sub (pv 5) pe_int set_list))
      (pss_cons (ps_set (i := 7) sc_Moving_move.nd rfl (Or.inl rfl) (pe_meth (pv 2) X.cl_Memory M_Memory_lay_young.m H_Memory_lay_young (hr.mono (by decide)) M_Memory_lay_young.b .nil pass0 (pa_cons (pv 6) (pa_cons (pv 5) pa_nil))))
      (pss_cons (ps_expr (pe_bm PySem.F.plainAttrs_list PySem.F.slot_list_append PySem.F.type_list_append mt_append (pe_fld (pv 0) rfl) (pa_cons (pv 7) pa_nil)))
      (pss_one (ps_ret (pv 7)))))) pss_nil)
      (C8.pss_cut (ps_asg (pe_call H_head_word (hr.mono (by decide)) (by rfl) G_head_word.g G_head_word.F.kp G_head_word.b .nil pass0 (pa_cons (pe_meth (pv 2) X.cl_Memory M_Memory_kind.m H_Memory_kind hr M_Memory_kind.b .nil pass0 (pa_cons (pv 1) pa_nil)) (pa_cons pe_int (pa_cons (pe_ifExp (pt_val (pe_fld (pv 2) rfl)) (pe_glob (v := .int (1)) (by rfl) m_GREY ⟨_, rfl⟩) (pe_glob (v := .int (0)) (by rfl) m_WHITE ⟨_, rfl⟩)) pa_nil)))) (pg_sub (pv 5) pe_int set_list))
      (pss_cons (ps_set (i := 7) sc_Moving_move.nd rfl (Or.inl rfl) (pe_meth (pv 2) X.cl_Memory M_Memory_lay_old.m H_Memory_lay_old (hr.mono (by decide)) M_Memory_lay_old.b .nil pass0 (pa_cons (pv 5) pa_nil)))
      (pss_cons (ps_expr (pe_bm PySem.F.plainAttrs_list PySem.F.slot_list_append PySem.F.type_list_append mt_append (pe_fld (pv 0) rfl) (pa_cons (pv 7) pa_nil)))
      (pss_cons (ps_if (pt_val (pe_fld (pv 2) rfl))
        (pss_one (ps_expr (pe_bm PySem.F.plainAttrs_list PySem.F.slot_list_append PySem.F.type_list_append mt_append (pe_fld (pv 2) rfl) (pa_cons (pv 7) pa_nil)))) pss_nil)
      (pss_one (ps_ret (pv 7))))))))))))), ?_⟩
    unfold moveM at hx
    cases e1 : m.s.words[x]? with
    | none => rw [e1] at hx; cases hx
    | some hd =>
    cases e2 : m.s.words[x + 1]? with
    | none => rw [e1, e2] at hx; cases hx
    | some n =>
    cases e3 : m.s.nexts[1 + hf]? with
    | none => rw [e1, e2, e3] at hx; cases hx
    | some nx =>
    rw [e1, e2, e3] at hx
    simp only at hx
    split at hx
    case isFalse => cases hx
    rename_i hok
    obtain ⟨n0, n1, n2, n3, ⟨b1, b2, b3, b4, b5⟩, b6, b7, hf2⟩ := hok
    obtain ⟨n, rfl⟩ := Int.eq_ofNat_of_zero_le n0
    rw [Int.toNat_natCast] at hx n2
    have hm := hv.mem
    refine ⟨_, rfl, v, C_Moving, dx, VF a.m st hf aMo aH aO, .ref a.m, rfl, hv.v_, X.cl_Moving, X.n_Moving_memory, rfl, ?_⟩
    refine ⟨_, rfl, a.m, a.dx, MemF a c m.s, rfl, hm.at_, memF_no (by decide), _, rfl, a, x, (n : Int), c, sh, m.s, rfl, hm, e2, ?_⟩
    refine ⟨_, rfl, a.m, a.dx, MemF a c m.s, rfl, hm.at_, memF_no (by decide), _, rfl, a, x, hd, c, sh, m.s, rfl, hm, e1, _, _, rfl, rfl, ?_⟩
    refine ⟨_, rfl, a.m, C_Memory, a.dx, MemF a c m.s, .ref a.aW, rfl, hm.at_, X.cl_Memory, X.n_Memory_words, rfl, _, rfl, x, rfl, _, rfl, _, rfl, _, _, rfl, rfl, ((x + (2 + n) : Nat) : Int), rfl, a.aW, _, rfl, SqL.of hm.words, fun l nl => ?_⟩
    rw [cut_two (by omega) (by rw [List.length_map]; omega), show x + (2 + n) - x = n + 2 by omega, ← List.map_drop, ← List.map_take]
    obtain ⟨ws, ews⟩ : ∃ ws : List Int, ws = (m.s.words.drop x).take (n + 2) := ⟨_, rfl⟩
    rw [← ews]
    rw [← ews] at hx
    have wsl : ws.length = n + 2 := by rw [ews, List.length_take, List.length_drop]; omega
    have Sl := same_new (o := .lst (ws.map V.int)) nl
    have fl : upd H l (.lst (ws.map V.int)) l = some (.lst (ws.map V.int)) := upd_same
    revert Sl fl
    generalize upd H l (.lst (ws.map V.int)) = H1
    intro Sl fl
    have hv1 := Sl _ _ hv.v_
    have hm1 := hm.same Sl
    have nlo : l ∉ a.own := fun z => by
      obtain ⟨o, ho, _⟩ := hm.ownAt _ z
      rw [nl] at ho; cases ho
    refine ⟨_, rfl, v, C_Moving, dx, VF a.m st hf aMo aH aO, .int hf, rfl, hv1, X.cl_Moving, X.n_Moving_half, rfl, _, _, rfl, rfl, ?_⟩
    have hkk : hd / 64 - 3 = hd / 64 - 3 := rfl
    -- the words with their head laid
    have put0 : ∀ (G : Hp) (hw : Int), G l = some (.lst (ws.map V.int)) → MemAt C_Memory G a c sh m.s → MemAt C_Memory (upd G l (.lst ((ws.set 0 hw).map V.int))) a c sh m.s ∧ KeptL [l] G (upd G l (.lst ((ws.set 0 hw).map V.int))) := fun G hw gl gm => by
      have tt : TupSame G (upd G l (.lst ((ws.set 0 hw).map V.int))) := fun b xs e => by rw [upd_ne (ne_of e gl (by intro z; cases z))]; exact e
      exact ⟨gm.kept (l := [l]) (kept_upd (by simp)) tt (fun b hb z => nlo (by rw [← List.mem_singleton.mp z]; exact hb)), kept_upd (by simp)⟩
    have lne : ∀ {b : Addr} {o : HO}, H b = some o → b ∉ [l] := fun e z => by
      rw [List.mem_singleton.mp z, nl] at e
      cases e
    refine ⟨fun σ' H' => σ' = [some (.ref v), some (.int x), some (.ref a.m), some (.int (2 + (n : Int))), some (.int (hd / 4 % 16 + 1)), some (.ref l), some (.int (1 + (hf : Int))), none] ∧ H' = H1 ∧ ¬ (st = false ∧ hd / 4 % 16 + 1 < (c.2.2.2 : Int) ∧ nx + (n + 2) ≤ endOf c (1 + hf)), ?_, ?_⟩
    · refine ⟨_, rfl, v, C_Moving, dx, VF a.m st hf aMo aH aO, .bl st, rfl, hv1, X.cl_Moving, X.n_Moving_is_settling, rfl, st, rfl, ?_⟩
      cases st with
      | true => exact iteF (iteF ⟨rfl, rfl, fun z => nomatch z.1⟩)
      | false =>
        refine iteT ⟨_, rfl, _, rfl, a.m, C_Memory, a.dx, MemF a c m.s, .int c.2.2.2, rfl, hm1.at_, X.cl_Memory, X.n_Memory_age, rfl, _, _, rfl, rfl, _, rfl, ite2 (fun h1 => ?_) (fun h1 => iteF ⟨rfl, rfl, fun z => h1 (decide_eq_true z.2.1)⟩)⟩
        have h1 : hd / 4 % 16 + 1 < (c.2.2.2 : Int) := of_decide_eq_true h1
        refine ⟨_, rfl, a.m, a.dx, MemF a c m.s, rfl, hm1.at_, memF_no (by decide), _, rfl, _, rfl, a, 1 + hf, 2 + n, nx, c, sh, m.s, rfl, hm1, by omega, e3, _, rfl, ?_⟩
        by_cases h2 : nx + (2 + n) ≤ endOf c (1 + hf)
        · rw [decide_eq_true h2]
          refine iteT ?_
          rw [if_pos ⟨rfl, h1, by omega⟩] at hx
          split at hx
          case isFalse => cases hx
          rename_i h3
          cases hx
          refine ⟨_, rfl, a.m, a.dx, MemF a c m.s, rfl, hm1.at_, memF_no (by decide), _, rfl, a, x, hd, c, sh, m.s, rfl, hm1, e1, _, rfl, hd / 64 - 3, (hd / 4 % 16).toNat + 1, 0, congrArg (fun z => [V.int (hd / 64 - 3), V.int z, V.int 0]) (headW_i 0 hd), n3, by omega, ?_⟩
          refine ⟨_, rfl, l, _, 0, 0, rfl, rfl, fl, by rw [List.length_map, wsl]; exact ixN_nat (n := n + 2) (k := 0) (by omega), ?_⟩
          have eS : (ws.map V.int).set 0 (V.int (headW (hd / 64 - 3) ((hd / 4 % 16).toNat + 1) 0)) = (ws.set 0 (headW (hd / 64 - 3) ((hd / 4 % 16).toNat + 1) 0)).map V.int := by rw [List.map_set]
          rw [eS]
          obtain ⟨m2, k2⟩ := put0 H1 (headW (hd / 64 - 3) ((hd / 4 % 16).toNat + 1) 0) fl hm1
          have fl2 : upd H1 l (.lst ((ws.set 0 (headW (hd / 64 - 3) ((hd / 4 % 16).toNat + 1) 0)).map V.int)) l = some (.lst ((ws.set 0 (headW (hd / 64 - 3) ((hd / 4 % 16).toNat + 1) 0)).map V.int)) := upd_same
          revert m2 k2 fl2
          generalize upd H1 l (.lst ((ws.set 0 (headW (hd / 64 - 3) ((hd / 4 % 16).toNat + 1) 0)).map V.int)) = H2
          intro m2 k2 fl2
          refine ⟨_, rfl, a.m, a.dx, MemF a c m.s, rfl, m2.at_, memF_no (by decide), _, rfl, _, rfl, a, 1 + hf, y, l, _, c, sh, m.s, rfl, m2, fl2, nlo, e3, by rw [List.length_set, wsl]; exact h3.1, by rw [List.length_set, wsl]; omega, h3.2, by omega, fun H3 m3 k3 => ?_⟩
          have K3 : ∀ {b : Addr} {o : HO}, b ∉ a.own → H b = some o → H3 b = some o := fun nb e => k3 _ _ nb (k2 _ _ (lne e) (Sl _ _ e))
          have hH3 := K3 hv.nH hv.th
          refine ⟨_, rfl, v, C_Moving, dx, VF a.m false hf aMo aH aO, .ref aH, rfl, K3 hv.nv hv.v_, X.cl_Moving, X.n_Moving_to_half, rfl, .inl ⟨rfl, _, SqL.of hH3⟩, _, rfl, aH, _, .int y, rfl, rfl, hH3, by unfold natI; rw [List.length_map]; exact big (by omega), ?_⟩
          have eT : natI m.th ++ [V.int (y : Int)] = natI (m.th ++ [y]) := by simp [natI]
          rw [eT]
          have tt : TupSame H3 (upd H3 aH (.lst (natI (m.th ++ [y])))) := fun b xs e => by rw [upd_ne (ne_of e hH3 (by intro z; cases z))]; exact e
          have kk : KeptL [aH] H3 (upd H3 aH (.lst (natI (m.th ++ [y])))) := kept_upd (by simp)
          refine ⟨_, rfl, q _ ⟨kk _ _ (fun z => ?_) (K3 hv.nv hv.v_), kk _ _ (fun z => ?_) (K3 hv.nMo hv.mo), upd_same, kk _ _ (fun z => hv.ne (List.mem_singleton.mp z).symm) (K3 hv.nO hv.to), m3.kept kk tt (fun b hb z => hv.nH (by rw [← List.mem_singleton.mp z]; exact hb)), hv.nv, hv.nMo, hv.nH, hv.nO, hv.ne⟩ (fun b o nb e => ?_)⟩
          · have := hv.v_
            rw [List.mem_singleton.mp z, hv.th] at this; cases this
          · have := hv.mo
            rw [List.mem_singleton.mp z, hv.th] at this; cases this
          · have nb1 : b ≠ aH := fun z => nb (by rw [z]; simp [mvOwn])
            rw [upd_ne nb1]
            exact K3 (fun z => nb (by simp [mvOwn, z])) e
        · rw [decide_eq_false h2]
          exact iteF ⟨rfl, rfl, fun z => h2 (by have := z.2.2; omega)⟩
    rintro _ H'' ⟨rfl, eH, hno⟩
    subst eH
    rw [if_neg hno] at hx
    split at hx
    case isFalse => cases hx
    rename_i h3
    cases hx
    have hm1' := hm1
    refine ⟨fun σ' H' => σ' = [some (.ref v), some (.int x), some (.ref a.m), some (.int (2 + (n : Int))), some (.int (hd / 4 % 16 + 1)), some (.ref l), some (.int (1 + (hf : Int))), none] ∧ H' = upd H'' l (.lst ((ws.set 0 (headW (hd / 64 - 3) 0 (if m.s.marks = true then 1 else 0))).map V.int)), ?_, ?_⟩
    · refine ⟨_, rfl, a.m, a.dx, MemF a c m.s, rfl, hm1.at_, memF_no (by decide), _, rfl, a, x, hd, c, sh, m.s, rfl, hm1, e1, _, rfl, a.m, C_Memory, a.dx, MemF a c m.s, .bl m.s.marks, rfl, hm1.at_, X.cl_Memory, X.n_Memory_marks, rfl, m.s.marks, rfl, itev ?_⟩
      refine ⟨hd / 64 - 3, 0, if m.s.marks = true then 1 else 0, by cases m.s.marks <;> rfl, n3, by omega, ?_⟩
      refine ⟨_, rfl, l, _, 0, 0, rfl, rfl, fl, by rw [List.length_map, wsl]; exact ixN_nat (n := n + 2) (k := 0) (by omega), rfl, ?_⟩
      rw [List.map_set]
    rintro _ _ ⟨rfl, rfl⟩
    obtain ⟨m2, k2⟩ := put0 H'' (headW (hd / 64 - 3) 0 (if m.s.marks = true then 1 else 0)) fl hm1
    have fl2 : upd H'' l (.lst ((ws.set 0 (headW (hd / 64 - 3) 0 (if m.s.marks = true then 1 else 0))).map V.int)) l = some (.lst ((ws.set 0 (headW (hd / 64 - 3) 0 (if m.s.marks = true then 1 else 0))).map V.int)) := upd_same
    revert m2 k2 fl2
    generalize upd H'' l (.lst ((ws.set 0 (headW (hd / 64 - 3) 0 (if m.s.marks = true then 1 else 0))).map V.int)) = H2
    intro m2 k2 fl2
    refine ⟨_, rfl, a.m, a.dx, MemF a c m.s, rfl, m2.at_, memF_no (by decide), _, rfl, a, l, _, c, sh, m.s, rfl, m2, fl2, nlo, by rw [List.length_set, wsl]; omega, h3, by omega, fun H3 m3 k3 => ?_⟩
    have K3 : ∀ {b : Addr} {o : HO}, b ∉ a.own → H b = some o → H3 b = some o := fun nb e => k3 _ _ nb (k2 _ _ (lne e) (Sl _ _ e))
    have hO3 := K3 hv.nO hv.to
    refine ⟨_, rfl, v, C_Moving, dx, VF a.m st hf aMo aH aO, .ref aO, rfl, K3 hv.nv hv.v_, X.cl_Moving, X.n_Moving_to_old, rfl, .inl ⟨rfl, _, SqL.of hO3⟩, _, rfl, aO, _, _, rfl, rfl, hO3, by unfold natI; rw [List.length_map]; exact big (by omega), ?_⟩
    have eT : natI m.to ++ [V.int (m.s.words.length : Int)] = natI (m.to ++ [m.s.words.length]) := by simp [natI]
    rw [eT]
    have tt : TupSame H3 (upd H3 aO (.lst (natI (m.to ++ [m.s.words.length])))) := fun b xs e => by rw [upd_ne (ne_of e hO3 (by intro z; cases z))]; exact e
    have kk : KeptL [aO] H3 (upd H3 aO (.lst (natI (m.to ++ [m.s.words.length])))) := kept_upd (by simp)
    have m4 := m3.kept kk tt (fun b hb z => hv.nO (by rw [← List.mem_singleton.mp z]; exact hb))
    have v4 := kk _ _ (fun z => by
      have := hv.v_
      rw [List.mem_singleton.mp z, hv.to] at this; cases this) (K3 hv.nv hv.v_)
    have o4 := kk _ _ (fun z => by
      have := hv.mo
      rw [List.mem_singleton.mp z, hv.to] at this; cases this) (K3 hv.nMo hv.mo)
    have h4 := kk _ _ (fun z => hv.ne (List.mem_singleton.mp z)) (K3 hv.nH hv.th)
    have t4 : upd H3 aO (.lst (natI (m.to ++ [m.s.words.length]))) aO = some (.lst (natI (m.to ++ [m.s.words.length]))) := upd_same
    have K4 : KeptL (mvOwn aMo aH aO a) H (upd H3 aO (.lst (natI (m.to ++ [m.s.words.length])))) := fun b o nb e => by
      have nb1 : b ≠ aO := fun z => nb (by rw [z]; simp [mvOwn])
      rw [upd_ne nb1]
      exact K3 (fun z => nb (by simp [mvOwn, z])) e
    revert m4 v4 o4 h4 t4 K4
    generalize upd H3 aO (.lst (natI (m.to ++ [m.s.words.length]))) = H4
    intro m4 v4 o4 h4 t4 K4
    refine ⟨_, rfl, a.m, C_Memory, a.dx, _, .bl m.s.marks, rfl, m4.at_, X.cl_Memory, X.n_Memory_marks, rfl, _, rfl, ?_⟩
    cases hmk : m.s.marks with
    | false =>
      rw [hmk] at m4 q
      exact iteF ⟨_, rfl, q _ ⟨v4, o4, h4, t4, m4, hv.nv, hv.nMo, hv.nH, hv.nO, hv.ne⟩ K4⟩
    | true =>
      rw [hmk] at m4 q
      refine iteT ⟨_, rfl, a.m, C_Memory, a.dx, _, .ref a.aG, rfl, m4.at_, X.cl_Memory, X.n_Memory_grey, rfl, .inl ⟨rfl, _, SqL.of m4.grey⟩, _, rfl, a.aG, _, _, rfl, rfl, m4.grey, by unfold natI; rw [List.length_map]; exact big (by show m.s.grey.length ≤ _; omega), ?_⟩
      have eG : natI m.s.grey ++ [V.int (m.s.words.length : Int)] = natI (m.s.grey ++ [m.s.words.length]) := by simp [natI]
      have gK : a.aG ∈ a.own := by simp [Ma.own]
      have ng : ∀ {b : Addr}, b ∉ a.own → b ≠ a.aG := fun n z => n (by rw [z]; exact gK)
      have m5 := m4.setG (m.s.grey ++ [m.s.words.length])
      rw [show (layO m.s (ws.set 0 (headW (hd / 64 - 3) 0 (if true = true then 1 else 0)))).grey = m.s.grey from rfl, eG]
      refine ⟨_, rfl, q _ ⟨by rw [upd_ne (ng hv.nv)]; exact v4, by rw [upd_ne (ng hv.nMo)]; exact o4, by rw [upd_ne (ng hv.nH)]; exact h4, by rw [upd_ne (ng hv.nO)]; exact t4, m5, hv.nv, hv.nMo, hv.nH, hv.nO, hv.ne⟩ (K4.trans (kept_upd (by simp [mvOwn, gK])))⟩
end
end PH

/-! A moving: what is led. -/
namespace PH
open PySem PySem.Spec PyProof.Rows L2 KA KI KK PV T ET
theorem mkv_get (mv : List (Nat × Nat)) (x : Nat) : valV (mkv mv) (Sum.inl (x : Int) : Key) = (mv.lookup x).map fun y => V.int (y : Int) := by
  induction mv with
  | nil => rfl
  | cons p r ih =>
    obtain ⟨k, v⟩ := p
    by_cases e : x = k
    · subst e
      rw [show mkv ((x, v) :: r) = ((Sum.inl (x : Int) : Key), V.int (v : Int)) :: mkv r from rfl, valV_pos rfl]
      simp [List.lookup]
    · have e1 : (x == k) = false := by simpa using e
      rw [show mkv ((k, v) :: r) = ((Sum.inl (k : Int) : Key), V.int (v : Int)) :: mkv r from rfl, valV_neg (fun z => e (by injection z; omega)), ih]
      simp only [List.lookup, e1]
theorem MvAt.kept {CV CM : Addr} {H H' : Hp} {v dx aMo aH aO : Addr} {st : Bool} {hf : Nat} {a : Ma} {c : Sz} {sh : List (List Bool)} {m : Mv} {l : List Addr} (h : MvAt CV CM H v dx aMo aH aO st hf a c sh m) (k : KeptL l H H') (t : TupSame H H') (n : ∀ b ∈ v :: mvOwn aMo aH aO a, b ∉ l) : MvAt CV CM H' v dx aMo aH aO st hf a c sh m :=
  ⟨k _ _ (n _ (by simp)) h.v_, k _ _ (n _ (by simp [mvOwn])) h.mo, k _ _ (n _ (by simp [mvOwn])) h.th, k _ _ (n _ (by simp [mvOwn])) h.to, h.mem.kept k t (fun b hb => n b (by simp [mvOwn, hb])), h.nv, h.nMo, h.nH, h.nO, h.ne⟩
theorem MvAt.same {CV CM : Addr} {H H' : Hp} {v dx aMo aH aO : Addr} {st : Bool} {hf : Nat} {a : Ma} {c : Sz} {sh : List (List Bool)} {m : Mv} (h : MvAt CV CM H v dx aMo aH aO st hf a c sh m) (k : Same H H') : MvAt CV CM H' v dx aMo aH aO st hf a c sh m := h.kept (l := []) (KeptL.of_same k) (TupSame.of k) (fun _ _ z => nomatch z)
theorem MvAt.ownAt {CV CM : Addr} {H : Hp} {v dx aMo aH aO : Addr} {st : Bool} {hf : Nat} {a : Ma} {c : Sz} {sh : List (List Bool)} {m : Mv} (h : MvAt CV CM H v dx aMo aH aO st hf a c sh m) : ∀ b ∈ mvOwn aMo aH aO a, ∃ o, H b = some o ∧ ∀ xs, o ≠ .tup xs := fun b hb => by
  unfold mvOwn at hb
  rcases List.mem_cons.mp hb with rfl | hb
  · exact ⟨_, h.mo, by intro z e; cases e⟩
  rcases List.mem_cons.mp hb with rfl | hb
  · exact ⟨_, h.th, by intro z e; cases e⟩
  rcases List.mem_cons.mp hb with rfl | hb
  · exact ⟨_, h.to, by intro z e; cases e⟩
  exact h.mem.ownAt b hb
theorem MvAt.vn {CV CM : Addr} {H : Hp} {v dx aMo aH aO : Addr} {st : Bool} {hf : Nat} {a : Ma} {c : Sz} {sh : List (List Bool)} {m : Mv} (h : MvAt CV CM H v dx aMo aH aO st hf a c sh m) : v ∉ mvOwn aMo aH aO a := fun z => by
  have hv := h.v_
  unfold mvOwn at z
  rcases List.mem_cons.mp z with e | z
  · rw [e, h.mo] at hv; cases hv
  rcases List.mem_cons.mp z with e | z
  · rw [e, h.th] at hv; cases hv
  rcases List.mem_cons.mp z with e | z
  · rw [e, h.to] at hv; cases hv
  exact h.nv z
/-- words stored at a place -/
theorem MvAt.setW {CV CM : Addr} {H : Hp} {v dx aMo aH aO : Addr} {st : Bool} {hf : Nat} {a : Ma} {c : Sz} {sh : List (List Bool)} {m : Mv} (h : MvAt CV CM H v dx aMo aH aO st hf a c sh m) (ws : List Int) : MvAt CV CM (upd H a.aW (.lst (ws.map V.int))) v dx aMo aH aO st hf a c sh { m with s := { m.s with words := ws } } := by
  have ng : ∀ {b : Addr}, b ∉ a.own → b ≠ a.aW := fun n z => n (by rw [z]; simp [Ma.own])
  exact ⟨by rw [upd_ne (ng h.nv)]; exact h.v_, by rw [upd_ne (ng h.nMo)]; exact h.mo, by rw [upd_ne (ng h.nH)]; exact h.th, by rw [upd_ne (ng h.nO)]; exact h.to, h.mem.setW ws, h.nv, h.nMo, h.nH, h.nO, h.ne⟩
section
variable {P : Program} {w : World} {K : PySem.W.Frag} {mg : Str → Option Value} {base : Heap} {C_Moving C_Memory C_Heap : Addr}
def spVled (CV CM : Addr) : Sp := fun vs H Q _ => ∃ (v dx aMo aH aO : Addr) (st : Bool) (hf : Nat) (x y : Int) (a : Ma) (c : Sz) (sh : List (List Bool)) (m m' : Mv), vs = [.ref v, .int x] ∧ MvAt CV CM H v dx aMo aH aO st hf a c sh m ∧ ledM c st hf m x = some (m', y) ∧
  (∀ H', MvAt CV CM H' v dx aMo aH aO st hf a c sh m' → KeptL (mvOwn aMo aH aO a) H H' → Q (.int y) H')
theorem ok_vled {f : Addr} {fd : FuncData} (G : Md K C_Moving "led" "Moving.led" s_Moving_led ["self", "reference"] f fd) (X : Lw K mg C_Moving C_Memory C_Heap) : FnOk P w K mg base CX0 4 f fd ["self", "reference"] (spVled C_Moving C_Memory) := by
  obtain ⟨f_Moving_move, d_Moving_move, M_Moving_move⟩ := X.m_Moving_move
  have H_Moving_move : FnOk P w K mg base CX0 3 f_Moving_move d_Moving_move ["self", "address"] (spVmove C_Moving C_Memory) := ok_vmove M_Moving_move X
  obtain ⟨f_Memory_is_young, d_Memory_is_young, M_Memory_is_young⟩ := X.m_Memory_is_young
  have H_Memory_is_young : FnOk P w K mg base CX0 1 f_Memory_is_young d_Memory_is_young ["self", "reference"] (spMisy C_Memory) := ok_misy M_Memory_is_young X
  refine G.F.ok sc_Moving_led (fun vs H Q E h => ?_) (fun cdv A outer s H vs Q E hr h => ?_)
  · obtain ⟨v, dx, aMo, aH, aO, st, hf, x, y, a, c, sh, m, m', rfl, _⟩ := h; rfl
  · obtain ⟨v, dx, aMo, aH, aO, st, hf, x, y, a, c, sh, m, m', rfl, hv, hx, q⟩ := h
    refine ⟨_, (pss_cons (ps_if (pt_not (pt_val (pe_meth (pe_fld (pv 0) rfl) X.cl_Memory M_Memory_is_young.m H_Memory_is_young (hr.mono (by decide)) M_Memory_is_young.b .nil pass0 (pa_cons (pv 1) pa_nil))))
        (pss_one (ps_ret (pv 1))) pss_nil)
      (C8.pss_cut (ps_if (pt_cmp (pc_dnotin (hu_of hr) (pv 1) (pe_fld (pv 0) rfl)))
        (pss_one (ps_dput (hu_of hr) (pe_fld (pv 0) rfl) (pv 1) (pe_meth (pv 0) X.cl_Moving M_Moving_move.m H_Moving_move hr M_Moving_move.b .nil pass0 (pa_cons (pv 1) pa_nil)) rfl)) pss_nil)
      (pss_one (ps_ret (pe_dget (hu_of hr) (pe_fld (pv 0) rfl) (pv 1) (fun _ _ => rfl)))))), ?_⟩
    unfold ledM at hx
    have hm := hv.mem
    have k0 : KeptL (mvOwn aMo aH aO a) H H := fun _ _ _ e => e
    refine ⟨_, rfl, v, C_Moving, dx, VF a.m st hf aMo aH aO, .ref a.m, rfl, hv.v_, X.cl_Moving, X.n_Moving_memory, rfl, a.m, a.dx, MemF a c m.s, rfl, hm.at_, memF_no (by decide), _, rfl, a, x, c, sh, m.s, rfl, hm, _, rfl, ?_⟩
    by_cases hy : 0 < x ∧ x < c.fo
    · rw [if_pos hy] at hx
      rw [decide_eq_true hy]
      refine iteF ?_
      obtain ⟨x, rfl⟩ := Int.eq_ofNat_of_zero_le (show 0 ≤ x by omega)
      rw [Int.toNat_natCast] at hx
      refine ⟨fun σ' H' => ∃ m2 : Mv, σ' = [some (.ref v), some (.int x)] ∧ m2 = m' ∧ MvAt C_Moving C_Memory H' v dx aMo aH aO st hf a c sh m' ∧ KeptL (mvOwn aMo aH aO a) H H' ∧ m'.mv.lookup x = some y.toNat ∧ 0 ≤ y, ?_, ?_⟩
      · refine ⟨_, rfl, _, rfl, v, C_Moving, dx, VF a.m st hf aMo aH aO, .ref aMo, rfl, hv.v_, X.cl_Moving, X.n_Moving_moved, rfl, aMo, _, rfl, DGet.k (k := Sum.inl (x : Int)) hv.mo, _, rfl, ?_⟩
        rw [mkv_get]
        cases hl : m.mv.lookup x with
        | some z =>
          rw [hl] at hx
          cases hx
          exact iteF ⟨m, rfl, rfl, hv, k0, hl, by omega⟩
        | none =>
          rw [hl] at hx
          simp only at hx
          refine iteT ?_
          cases hmv : moveM c st hf m x with
          | none => rw [hmv] at hx; cases hx
          | some p =>
            obtain ⟨m1, z⟩ := p
            rw [hmv] at hx
            simp only at hx
            split at hx
            case isFalse => cases hx
            rename_i hg
            cases hx
            refine ⟨_, rfl, v, dx, VF a.m st hf aMo aH aO, rfl, hv.v_, vF_no (by decide), _, rfl, v, dx, aMo, aH, aO, st, hf, x, z, a, c, sh, m, m1, rfl, hv, hmv, fun H1 hv1 k1 => ?_⟩
            refine ⟨_, rfl, v, C_Moving, dx, VF a.m st hf aMo aH aO, .ref aMo, rfl, hv1.v_, X.cl_Moving, X.n_Moving_moved, rfl, _, rfl, aMo, _, rfl, DPut.k (k := Sum.inl (x : Int)) hv1.mo (by unfold mkv; rw [List.length_map, hg.1]; exact big (by omega)), ?_⟩
            have ep : putK (mkv m1.mv) (Sum.inl (x : Int) : Key) (V.int (z : Int)) = mkv (m1.mv ++ [(x, z)]) := by
              rw [putK_new]
              · simp [mkv]
              · rw [mkv_get, hg.1, hl]
                rfl
            rw [ep]
            refine ⟨_, rfl, rfl, ?_, k1.trans (kept_upd (by simp [mvOwn])), ?_, by omega⟩
            · have ne : ∀ {b : Addr} {o : HO}, H1 b = some o → (∀ k, o ≠ .dK k) → upd H1 aMo (.dK (mkv (m1.mv ++ [(x, z)]))) b = some o := fun e n => by
                rw [upd_ne (fun z => by rw [z, hv1.mo] at e; cases e; exact n _ rfl)]
                exact e
              exact ⟨ne hv1.v_ (by intro k z; cases z), upd_same, ne hv1.th (by intro k z; cases z), ne hv1.to (by intro k z; cases z), hv1.mem.kept (l := [aMo]) (kept_upd (by simp)) (fun b xs e => ne e (by intro k z; cases z)) (fun b hb z => hv1.nMo (by rw [← List.mem_singleton.mp z]; exact hb)), hv1.nv, hv1.nMo, hv1.nH, hv1.nO, hv1.ne⟩
            · show (m1.mv ++ [(x, z)]).lookup x = some z
              rw [hg.1]
              have : ∀ l : List (Nat × Nat), l.lookup x = none → (l ++ [(x, z)]).lookup x = some z := fun l hl => by
                induction l with
                | nil => simp [List.lookup]
                | cons p r ih =>
                  obtain ⟨k, u⟩ := p
                  cases e : x == k with
                  | true => simp [List.lookup, e] at hl
                  | false =>
                    simp only [List.lookup, e] at hl
                    rw [List.cons_append]
                    simp only [List.lookup, e]
                    exact ih hl
              exact this _ hl
      rintro _ H2 ⟨m2, rfl, rfl, hv2, k2, hlk, hy0⟩
      obtain ⟨y, rfl⟩ := Int.eq_ofNat_of_zero_le hy0
      refine ⟨_, rfl, v, C_Moving, dx, VF a.m st hf aMo aH aO, .ref aMo, rfl, hv2.v_, X.cl_Moving, X.n_Moving_moved, rfl, _, rfl, aMo, .int y, rfl, ?_, q H2 hv2 k2⟩
      have := DGet.k (k := Sum.inl (x : Int)) hv2.mo
      rw [mkv_get, hlk] at this
      exact this
    · rw [if_neg hy] at hx
      cases hx
      rw [decide_eq_false hy]
      exact iteT ⟨_, rfl, q H hv k0⟩
def spVls (CV CM : Addr) : Sp := fun vs H Q _ => ∃ (v dx aMo aH aO : Addr) (st : Bool) (hf x : Nat) (a : Ma) (c : Sz) (sh : List (List Bool)) (m m' : Mv), vs = [.ref v, .int x] ∧ MvAt CV CM H v dx aMo aH aO st hf a c sh m ∧ leadSlotsM c sh st hf m x = some m' ∧
  (∀ H', MvAt CV CM H' v dx aMo aH aO st hf a c sh m' → KeptL (mvOwn aMo aH aO a) H H' → Q .non H')
theorem ok_vls {f : Addr} {fd : FuncData} (G : Md K C_Moving "lead_slots" "Moving.lead_slots" s_Moving_lead_slots ["self", "address"] f fd) (X : Lw K mg C_Moving C_Memory C_Heap) : FnOk P w K mg base CX0 5 f fd ["self", "address"] (spVls C_Moving C_Memory) := by
  obtain ⟨f_Memory_link_places, d_Memory_link_places, M_Memory_link_places⟩ := X.m_Memory_link_places
  have H_Memory_link_places : FnOk P w K mg base CX0 3 f_Memory_link_places d_Memory_link_places ["self", "address"] (spMlp C_Memory) := ok_mlp M_Memory_link_places X
  obtain ⟨f_Moving_led, d_Moving_led, M_Moving_led⟩ := X.m_Moving_led
  have H_Moving_led : FnOk P w K mg base CX0 4 f_Moving_led d_Moving_led ["self", "reference"] (spVled C_Moving C_Memory) := ok_vled M_Moving_led X
  refine G.F.ok sc_Moving_lead_slots (fun vs H Q E h => ?_) (fun cdv A outer s H vs Q E hr h => ?_)
  · obtain ⟨v, dx, aMo, aH, aO, st, hf, x, a, c, sh, m, m', rfl, _⟩ := h; rfl
  · obtain ⟨v, dx, aMo, aH, aO, st, hf, x, a, c, sh, m, m', rfl, hv, hx, q⟩ := h
    refine ⟨_, (pss_one (ps_for PassesOwn.never rfl (pi_list (pe_meth (pe_fld (pv 0) rfl) X.cl_Memory M_Memory_link_places.m H_Memory_link_places (hr.mono (by decide)) M_Memory_link_places.b .nil pass0 (pa_cons (pv 1) pa_nil))) (pg_name (i := 2) sc_Moving_lead_slots.nd rfl (Or.inl rfl))
        (pss_one (ps_asg (pe_meth (pv 0) X.cl_Moving M_Moving_led.m H_Moving_led hr M_Moving_led.b .nil pass0 (pa_cons (pe_ix ix_list (pe_fld (pe_fld (pv 0) rfl) rfl) (pv 2) (fun _ _ => rfl)) pa_nil)) (pg_sub (pe_fld (pe_fld (pv 0) rfl) rfl) (pv 2) set_list))))), ?_⟩
    unfold leadSlotsM at hx
    have hm := hv.mem
    cases hp : linkM sh m.s x with
    | none => rw [hp] at hx; cases hx
    | some ps =>
    rw [hp] at hx
    have hx : foldO (leadM c st hf) m ps = some m' := hx
    refine ⟨_, rfl, v, C_Moving, dx, VF a.m st hf aMo aH aO, .ref a.m, rfl, hv.v_, X.cl_Moving, X.n_Moving_memory, rfl, a.m, a.dx, MemF a c m.s, rfl, hm.at_, memF_no (by decide), _, rfl, a, x, ps, c, sh, m.s, rfl, hm, hp, fun b H1 nb S1 fb => ?_⟩
    have hv1 := hv.same S1
    have bn : b ∉ mvOwn aMo aH aO a := fun z => by
      obtain ⟨o, ho, _⟩ := hv.ownAt b z
      rw [nb] at ho; cases ho
    refine ⟨b, rfl, ⟨_, SqL.of fb⟩, for_list (xs := natI ps) (fun i σ H' => ∃ (mi : Mv) (o2 : Option V), σ = [some (.ref v), some (.int x), o2] ∧ MvAt C_Moving C_Memory H' v dx aMo aH aO st hf a c sh mi ∧ KeptL (mvOwn aMo aH aO a) H1 H' ∧ foldO (leadM c st hf) m (ps.take i) = some mi ∧ foldO (leadM c st hf) mi (ps.drop i) = some m') ⟨m, _, rfl, hv1, fun _ _ _ e => e, rfl, hx⟩ ?_ ?_ ?_⟩
    · rintro i σ H' _ ⟨mi, o2, _, _, k, _⟩
      exact SqL.of (k _ _ bn fb)
    · rintro i xv σ H2 hi ⟨mi, o2, rfl, hv2, k2, f1, f2⟩
      unfold natI at hi
      rw [List.getElem?_map] at hi
      obtain ⟨p, ep, rfl⟩ := Option.map_eq_some_iff.mp hi
      obtain ⟨md, d1, d2, d3⟩ := foldO_go ep f1 f2
      unfold leadM at d1
      cases hw : mi.s.words[p]? with
      | none => rw [hw] at d1; cases d1
      | some wv =>
      rw [hw] at d1
      simp only at d1
      cases hl : ledM c st hf mi wv with
      | none => rw [hl] at d1; cases d1
      | some pr =>
      obtain ⟨m3, y⟩ := pr
      rw [hl] at d1
      simp only at d1
      split at d1
      case isFalse => cases d1
      rename_i hpl
      cases d1
      have hm2 := hv2.mem
      refine ⟨_, rfl, v, dx, VF a.m st hf aMo aH aO, rfl, hv2.v_, vF_no (by decide), _, rfl, v, C_Moving, dx, VF a.m st hf aMo aH aO, .ref a.m, rfl, hv2.v_, X.cl_Moving, X.n_Moving_memory, rfl, a.m, C_Memory, a.dx, _, .ref a.aW, rfl, hm2.at_, X.cl_Memory, X.n_Memory_words, rfl, _, rfl, a.aW, _, p, .int wv, rfl, rfl, SqL.of hm2.words, atI_nat (by rw [List.getElem?_map, hw]; rfl), ?_⟩
      refine ⟨v, dx, aMo, aH, aO, st, hf, wv, y, a, c, sh, mi, m3, rfl, hv2, hl, fun H3 hv3 k3 => ?_⟩
      have hm3 := hv3.mem
      refine ⟨_, rfl, v, C_Moving, dx, VF a.m st hf aMo aH aO, .ref a.m, rfl, hv3.v_, X.cl_Moving, X.n_Moving_memory, rfl, a.m, C_Memory, a.dx, _, .ref a.aW, rfl, hm3.at_, X.cl_Memory, X.n_Memory_words, rfl, _, rfl, a.aW, _, p, p, rfl, rfl, hm3.words, ixN_nat (by rw [List.length_map]; exact hpl), ?_⟩
      have eW : (m3.s.words.map V.int).set p (V.int y) = (m3.s.words.set p y).map V.int := by rw [List.map_set]
      rw [eW]
      exact ⟨_, _, rfl, hv3.setW _, (k2.trans k3).trans (kept_upd (by simp [mvOwn, Ma.own])), d2, d3⟩
    · rintro σ H2 ⟨mi, o2, rfl, hv2, k2, f1, f2⟩
      have el : (natI ps).length = ps.length := by unfold natI; rw [List.length_map]
      rw [el, List.drop_length] at f2
      cases f2
      exact q H2 hv2 ((KeptL.of_same S1).trans k2)
end
end PH

/-! A moving: all that is moved is led; its end. -/
namespace PH
open PySem PySem.Spec PyProof.Rows L2 KA KI KK PV T ET
/-- a dict comprehension over a list -/
theorem dc_list {K : PySem.W.Frag} {a : Addr} {xs : List V} {g : TG} {tt : TT} {tk tv : TE} {vs : List Nat} {σ : L2.St} {H1 : Hp} {D : Addr} {Qd : Hp → Prop} (J : Nat → Hp → Prop) (start : J 0 (upd H1 D (.dK []))) (here : ∀ i H, J i H → SqL K H a xs)
    (turn : ∀ i x H, xs[i]? = some x → J i H → g x (wipe σ vs) H fun σ2 H2 => wipe σ2 vs = wipe σ vs ∧ tt σ2 H2 fun b H3 => if b = true then tk σ2 H3 fun y H4 => tv σ2 H4 fun z H5 => ∃ kvs k, y = kV k ∧ H5 D = some (.dK kvs) ∧ kvs.length < sizeLine ∧ J (i + 1) (upd H5 D (.dK (putK kvs k z))) else J (i + 1) H3)
    (stop : ∀ H, J xs.length H → Qd H) :
    ∃ W : Nat → Nat → Hp → Prop, (∃ m, W 0 m (upd H1 D (.dK []))) ∧ ∀ i m H, W i m H →
      ((Itl K a).stop i H ∧ Qd H) ∨ ((Itl K a).go i H ∧ ∃ Nx : Hp → Prop, (∀ H', Nx H' → ∃ m', m' < m ∧ W (i + 1) m' H') ∧ ∀ x H', (Itl K a).yld i H x H' → g x (wipe σ vs) H' fun σ2 H2 => wipe σ2 vs = wipe σ vs ∧ tt σ2 H2 fun b H3 =>
        if b = true then tk σ2 H3 fun y H4 => tv σ2 H4 fun z H5 => ∃ kvs k, y = kV k ∧ H5 D = some (.dK kvs) ∧ kvs.length < sizeLine ∧ Nx (upd H5 D (.dK (putK kvs k z))) else Nx H3) := by
  refine ⟨fun i m H => i + m = xs.length ∧ J i H, ⟨xs.length, by omega, start⟩, fun i m H h => ?_⟩
  obtain ⟨e, j⟩ := h
  have s := here i H j
  rcases Nat.lt_or_ge i xs.length with lt | ge
  · have hx : xs[i]? = some xs[i] := List.getElem?_eq_getElem lt
    refine Or.inr ⟨⟨xs, xs[i], s, hx⟩, fun H' => J (i + 1) H', fun H' j' => ⟨m - 1, by omega, by omega, j'⟩, ?_⟩
    rintro x H' ⟨rfl, y⟩
    exact turn i x _ (y xs s) j
  · have : i = xs.length := by omega
    subst this
    exact Or.inl ⟨⟨xs, s, Nat.le_refl _⟩, stop H j⟩
theorem MemAt.putY {CM : Addr} {H : Hp} {a : Ma} {c : Sz} {sh : List (List Bool)} {s : Ms} {D : Addr} {ys : List Nat} (h : MemAt CM H a c sh s) (hD : H D = some (.dK (dk ys))) (n1 : D ≠ a.aO) (n2 : D ≠ a.aR) : MemAt CM (upd H a.m (.ins CM a.dx (MemF { a with aY := D } c { s with young := ys }))) { a with aY := D } c sh { s with young := ys } := by
  obtain ⟨ls, hL, ll, he⟩ := h.links
  refine ⟨upd_same, h.shp.same (fun b xs e => h.keep e (by intro C d f z; cases z)), h.keep h.fi (by intro C d f z; cases z), ⟨ls, h.keep hL (by intro C d f z; cases z), ll, fun i r b e1 e2 => h.keep (he i r b e1 e2) (by intro C d f z; cases z)⟩, h.keep h.words (by intro C d f z; cases z), h.keep h.nexts (by intro C d f z; cases z), h.keep hD (by intro C d f z; cases z), h.keep h.old (by intro C d f z; cases z), h.keep h.rem (by intro C d f z; cases z), h.keep h.grey (by intro C d f z; cases z), h.keep h.ended (by intro C d f z; cases z), h.nl, ?_⟩
  have nd := h.nd
  simp only [List.nodup_cons, List.mem_cons, List.not_mem_nil, or_false, not_or, not_false_eq_true, List.nodup_nil, and_true] at nd ⊢
  exact ⟨⟨n1, n2⟩, nd.2⟩
theorem MemAt.putR {CM : Addr} {H : Hp} {a : Ma} {c : Sz} {sh : List (List Bool)} {s : Ms} {D : Addr} {ys : List Nat} (h : MemAt CM H a c sh s) (hD : H D = some (.dK (dk ys))) (n1 : D ≠ a.aO) (n2 : D ≠ a.aY) : MemAt CM (upd H a.m (.ins CM a.dx (MemF { a with aR := D } c { s with rem := ys }))) { a with aR := D } c sh { s with rem := ys } := by
  obtain ⟨ls, hL, ll, he⟩ := h.links
  refine ⟨upd_same, h.shp.same (fun b xs e => h.keep e (by intro C d f z; cases z)), h.keep h.fi (by intro C d f z; cases z), ⟨ls, h.keep hL (by intro C d f z; cases z), ll, fun i r b e1 e2 => h.keep (he i r b e1 e2) (by intro C d f z; cases z)⟩, h.keep h.words (by intro C d f z; cases z), h.keep h.nexts (by intro C d f z; cases z), h.keep h.young (by intro C d f z; cases z), h.keep h.old (by intro C d f z; cases z), h.keep hD (by intro C d f z; cases z), h.keep h.grey (by intro C d f z; cases z), h.keep h.ended (by intro C d f z; cases z), h.nl, ?_⟩
  have nd := h.nd
  simp only [List.nodup_cons, List.mem_cons, List.not_mem_nil, or_false, not_or, not_false_eq_true, List.nodup_nil, and_true] at nd ⊢
  exact ⟨⟨nd.1.1, fun z => n2 z.symm⟩, fun z => n1 z.symm⟩
section
variable {P : Program} {w : World} {K : PySem.W.Frag} {mg : Str → Option Value} {base : Heap} {C_Moving C_Memory C_Heap : Addr}
def spVlm (CV CM : Addr) : Sp := fun vs H Q _ => ∃ (v dx aMo aH aO : Addr) (st : Bool) (hf f : Nat) (a : Ma) (c : Sz) (sh : List (List Bool)) (m m' : Mv), vs = [.ref v] ∧ MvAt CV CM H v dx aMo aH aO st hf a c sh m ∧ scanM c sh st hf f m 0 0 = some m' ∧
  (∀ H', MvAt CV CM H' v dx aMo aH aO st hf a c sh m' → KeptL (mvOwn aMo aH aO a) H H' → Q .non H')
theorem ok_vlm {f : Addr} {fd : FuncData} (G : Md K C_Moving "lead_moved" "Moving.lead_moved" s_Moving_lead_moved ["self"] f fd) (X : Lw K mg C_Moving C_Memory C_Heap) : FnOk P w K mg base CX0 6 f fd ["self"] (spVlm C_Moving C_Memory) := by
  obtain ⟨f_Moving_lead_slots, d_Moving_lead_slots, M_Moving_lead_slots⟩ := X.m_Moving_lead_slots
  have H_Moving_lead_slots : FnOk P w K mg base CX0 5 f_Moving_lead_slots d_Moving_lead_slots ["self", "address"] (spVls C_Moving C_Memory) := ok_vls M_Moving_lead_slots X
  refine G.F.ok sc_Moving_lead_moved (fun vs H Q E h => ?_) (fun cdv A outer s H vs Q E hr h => ?_)
  · obtain ⟨v, dx, aMo, aH, aO, st, hf, f, a, c, sh, m, m', rfl, _⟩ := h; rfl
  · obtain ⟨v, dx, aMo, aH, aO, st, hf, f, a, c, sh, m, m', rfl, hv, hx, q⟩ := h
    refine ⟨_, (pss_cons (ps_set (i := 1) sc_Moving_lead_moved.nd rfl (Or.inl rfl) pe_int)
      (pss_cons (ps_set (i := 2) sc_Moving_lead_moved.nd rfl (Or.inl rfl) pe_int)
      (pss_one (ps_while PassesOwn.never (PW.pt (pw_or (pt_cmpR op_lt (pv 1) (pe_callB call_len (by rfl) X.b_len PySem.boot_len (pa_cons (pe_fld (pv 0) rfl) pa_nil)) (nomark _)) (pw_or1 (pt_cmpR op_lt (pv 2) (pe_callB call_len (by rfl) X.b_len PySem.boot_len (pa_cons (pe_fld (pv 0) rfl) pa_nil)) (nomark _)))))
        (pss_one (ps_if (pt_cmpR op_lt (pv 1) (pe_callB call_len (by rfl) X.b_len PySem.boot_len (pa_cons (pe_fld (pv 0) rfl) pa_nil)) (nomark _))
        (pss_cons (ps_expr (pe_meth (pv 0) X.cl_Moving M_Moving_lead_slots.m H_Moving_lead_slots hr M_Moving_lead_slots.b .nil pass0 (pa_cons (pe_ix ix_list (pe_fld (pv 0) rfl) (pv 1) (fun _ _ => rfl)) pa_nil)))
      (pss_one (ps_aug (i := 1) sc_Moving_lead_moved.nd rfl (Or.inl rfl) pe_int ip_add))) (pss_cons (ps_expr (pe_meth (pv 0) X.cl_Moving M_Moving_lead_slots.m H_Moving_lead_slots hr M_Moving_lead_slots.b .nil pass0 (pa_cons (pe_ix ix_list (pe_fld (pv 0) rfl) (pv 2) (fun _ _ => rfl)) pa_nil)))
      (pss_one (ps_aug (i := 2) sc_Moving_lead_moved.nd rfl (Or.inl rfl) pe_int ip_add))))))))), ?_⟩
    refine ⟨fun n σ H' => ∃ (mi : Mv) (i j : Nat), σ = [some (.ref v), some (.int i), some (.int j)] ∧ MvAt C_Moving C_Memory H' v dx aMo aH aO st hf a c sh mi ∧ KeptL (mvOwn aMo aH aO a) H H' ∧ scanM c sh st hf n mi i j = some m', ⟨f, m, 0, 0, rfl, hv, fun _ _ _ e => e, hx⟩, ?_⟩
    rintro n σ H1 ⟨mi, i, j, rfl, hv1, k1, hs⟩
    cases n with
    | zero => cases hs
    | succ n =>
    unfold scanM at hs
    have lt : ∀ {x y : Nat}, decide ((x : Int) < (y : Int)) = decide (x < y) := fun {x y} => by
      by_cases e : x < y
      · rw [decide_eq_true e, decide_eq_true (by omega)]
      · rw [decide_eq_false e, decide_eq_false (by omega)]
    have ev : ∀ {l : List Nat}, (natI l).length = l.length := fun {l} => by unfold natI; rw [List.length_map]
    refine ⟨_, rfl, _, rfl, v, C_Moving, dx, VF a.m st hf aMo aH aO, .ref aH, rfl, hv1.v_, X.cl_Moving, X.n_Moving_to_half, rfl, .ref aH, _, rfl, .inl ⟨_, SqL.of hv1.th, rfl⟩, _, _, rfl, rfl, decide (i < mi.th.length), by rw [ev]; exact congrArg V.bl lt, ?_⟩
    by_cases hi : i < mi.th.length
    · rw [if_pos hi] at hs
      rw [decide_eq_true hi]
      cases hl : leadSlotsM c sh st hf mi (mi.th.getD i 0) with
      | none => rw [hl] at hs; cases hs
      | some m2 =>
      rw [hl] at hs
      have hs : scanM c sh st hf n m2 (i + 1) j = some m' := hs
      have gi : mi.th.getD i 0 = mi.th[i] := by rw [List.getD_eq_getElem?_getD, List.getElem?_eq_getElem hi]; rfl
      rw [gi] at hl
      refine iteT ?_
      refine ⟨fun σ' H' => ∃ (mi : Mv) (i j : Nat), σ' = [some (.ref v), some (.int i), some (.int j)] ∧ MvAt C_Moving C_Memory H' v dx aMo aH aO st hf a c sh mi ∧ KeptL (mvOwn aMo aH aO a) H H' ∧ scanM c sh st hf n mi i j = some m', fun σ' H' z => ⟨n, Nat.lt_succ_self n, z⟩, ?_⟩
      refine ⟨_, rfl, _, rfl, v, C_Moving, dx, VF a.m st hf aMo aH aO, .ref aH, rfl, hv1.v_, X.cl_Moving, X.n_Moving_to_half, rfl, .ref aH, _, rfl, .inl ⟨_, SqL.of hv1.th, rfl⟩, _, _, rfl, rfl, true, by rw [ev]; exact congrArg V.bl (lt.trans (decide_eq_true hi)), iteT ?_⟩
      refine ⟨_, rfl, v, dx, VF a.m st hf aMo aH aO, rfl, hv1.v_, vF_no (by decide), _, rfl, v, C_Moving, dx, VF a.m st hf aMo aH aO, .ref aH, rfl, hv1.v_, X.cl_Moving, X.n_Moving_to_half, rfl, _, rfl, aH, _, i, .int mi.th[i], rfl, rfl, SqL.of hv1.th, atI_nat (by unfold natI; rw [List.getElem?_map, List.getElem?_eq_getElem hi]; rfl), ?_⟩
      refine ⟨v, dx, aMo, aH, aO, st, hf, mi.th[i], a, c, sh, mi, m2, rfl, hv1, hl, fun H2 hv2 k2 => ?_⟩
      exact ⟨_, rfl, _, _, rfl, rfl, m2, i + 1, j, rfl, hv2, k1.trans k2, hs⟩
    · rw [if_neg hi] at hs
      rw [decide_eq_false hi]
      refine iteF ?_
      refine ⟨_, rfl, _, rfl, v, C_Moving, dx, VF a.m st hf aMo aH aO, .ref aO, rfl, hv1.v_, X.cl_Moving, X.n_Moving_to_old, rfl, .ref aO, _, rfl, .inl ⟨_, SqL.of hv1.to, rfl⟩, _, _, rfl, rfl, decide (j < mi.to.length), by rw [ev]; exact congrArg V.bl lt, ?_⟩
      by_cases hj : j < mi.to.length
      · rw [if_pos hj] at hs
        rw [decide_eq_true hj]
        cases hl : leadSlotsM c sh st hf mi (mi.to.getD j 0) with
        | none => rw [hl] at hs; cases hs
        | some m2 =>
        rw [hl] at hs
        have hs : scanM c sh st hf n m2 i (j + 1) = some m' := hs
        have gi : mi.to.getD j 0 = mi.to[j] := by rw [List.getD_eq_getElem?_getD, List.getElem?_eq_getElem hj]; rfl
        rw [gi] at hl
        refine iteT ?_
        refine ⟨fun σ' H' => ∃ (mi : Mv) (i j : Nat), σ' = [some (.ref v), some (.int i), some (.int j)] ∧ MvAt C_Moving C_Memory H' v dx aMo aH aO st hf a c sh mi ∧ KeptL (mvOwn aMo aH aO a) H H' ∧ scanM c sh st hf n mi i j = some m', fun σ' H' z => ⟨n, Nat.lt_succ_self n, z⟩, ?_⟩
        refine ⟨_, rfl, _, rfl, v, C_Moving, dx, VF a.m st hf aMo aH aO, .ref aH, rfl, hv1.v_, X.cl_Moving, X.n_Moving_to_half, rfl, .ref aH, _, rfl, .inl ⟨_, SqL.of hv1.th, rfl⟩, _, _, rfl, rfl, false, by rw [ev]; exact congrArg V.bl (lt.trans (decide_eq_false hi)), iteF ?_⟩
        refine ⟨_, rfl, v, dx, VF a.m st hf aMo aH aO, rfl, hv1.v_, vF_no (by decide), _, rfl, v, C_Moving, dx, VF a.m st hf aMo aH aO, .ref aO, rfl, hv1.v_, X.cl_Moving, X.n_Moving_to_old, rfl, _, rfl, aO, _, j, .int mi.to[j], rfl, rfl, SqL.of hv1.to, atI_nat (by unfold natI; rw [List.getElem?_map, List.getElem?_eq_getElem hj]; rfl), ?_⟩
        refine ⟨v, dx, aMo, aH, aO, st, hf, mi.to[j], a, c, sh, mi, m2, rfl, hv1, hl, fun H2 hv2 k2 => ?_⟩
        exact ⟨_, rfl, _, _, rfl, rfl, m2, i, j + 1, rfl, hv2, k1.trans k2, hs⟩
      · rw [if_neg hj] at hs
        rw [decide_eq_false hj]
        cases hs
        exact iteF (q H1 hv1 k1)
end
end PH

/-! A moving's end. -/
namespace PH
open PySem PySem.Spec PyProof.Rows L2 KA KI KK PV T ET
theorem dk_snoc {l : List Nat} {n : Nat} (h : n ∉ l) : putK (dk l) (Sum.inl (n : Int) : Key) (V.bl true) = dk (l ++ [n]) := dk_put h
theorem placesM_at {sh : List (List Bool)} {s : Ms} : ∀ {l : List Nat} {ps : List Nat} (i : Nat), placesM sh s l = some ps → ∃ q r, placesM sh s (l.take i) = some q ∧ placesM sh s (l.drop i) = some r ∧ ps = q ++ r
  | [], ps, i, h => by
    cases h
    exact ⟨[], [], by rw [List.take_nil]; rfl, by rw [List.drop_nil]; rfl, rfl⟩
  | x :: l, ps, 0, h => ⟨[], ps, rfl, h, rfl⟩
  | x :: l, ps, i + 1, h => by
    unfold placesM at h
    cases e : linkM sh s x with
    | none => rw [e] at h; cases h
    | some a =>
    rw [e] at h
    cases e2 : placesM sh s l with
    | none => rw [e2] at h; cases h
    | some b =>
    rw [e2] at h
    cases h
    obtain ⟨q, r, h1, h2, rfl⟩ := placesM_at i e2
    refine ⟨a ++ q, r, ?_, h2, by simp⟩
    rw [List.take_succ_cons]
    unfold placesM
    rw [e, h1]
    rfl
theorem placesM_snoc {sh : List (List Bool)} {s : Ms} : ∀ {l : List Nat} {x : Nat} {q a : List Nat}, placesM sh s l = some q → linkM sh s x = some a → placesM sh s (l ++ [x]) = some (q ++ a)
  | [], x, q, a, h, e => by
    cases h
    show (linkM sh s x).bind (fun ps => (some []).map fun qs => ps ++ qs) = _
    rw [e]
    simp
  | y :: l, x, q, a, h, e => by
    unfold placesM at h
    cases e1 : linkM sh s y with
    | none => rw [e1] at h; cases h
    | some b =>
    rw [e1] at h
    cases e2 : placesM sh s l with
    | none => rw [e2] at h; cases h
    | some d =>
    rw [e2] at h
    cases h
    rw [List.cons_append]
    unfold placesM
    rw [e1, placesM_snoc e2 e]
    simp
theorem placesM_cons {sh : List (List Bool)} {s : Ms} {l : List Nat} {x : Nat} {r : List Nat} (h : placesM sh s (x :: l) = some r) : ∃ a b, linkM sh s x = some a ∧ placesM sh s l = some b ∧ r = a ++ b := by
  unfold placesM at h
  cases e1 : linkM sh s x with
  | none => rw [e1] at h; cases h
  | some b =>
  rw [e1] at h
  cases e2 : placesM sh s l with
  | none => rw [e2] at h; cases h
  | some d =>
  rw [e2] at h
  cases h
  exact ⟨b, d, rfl, rfl, rfl⟩
section
variable {P : Program} {w : World} {K : PySem.W.Frag} {mg : Str → Option Value} {base : Heap} {C_Moving C_Memory C_Heap : Addr}
/-- what is one behind a deed that may lay new dicts -/
def GoneTo (H H' : Hp) (a a' : Ma) : Prop := a'.m = a.m ∧ KeptL a.own H H' ∧ ∀ b ∈ a'.own, b ∈ a.own ∨ H b = none
def spVfin (CV CM : Addr) : Sp := fun vs H Q _ => ∃ (v dx aMo aH aO : Addr) (st : Bool) (hf : Nat) (a : Ma) (c : Sz) (sh : List (List Bool)) (m : Mv) (s' : Ms), vs = [.ref v] ∧ MvAt CV CM H v dx aMo aH aO st hf a c sh m ∧ finishM c sh hf m = some s' ∧
  (∀ (a' : Ma) (H' : Hp), MemAt CM H' a' c sh s' → GoneTo H H' a a' → Q .non H')
theorem ok_vfin {f : Addr} {fd : FuncData} (G : Md K C_Moving "finish" "Moving.finish" s_Moving_finish ["self"] f fd) (X : Lw K mg C_Moving C_Memory C_Heap) : FnOk P w K mg base CX0 4 f fd ["self"] (spVfin C_Moving C_Memory) := by
  obtain ⟨f_Memory_is_young, d_Memory_is_young, M_Memory_is_young⟩ := X.m_Memory_is_young
  have H_Memory_is_young : FnOk P w K mg base CX0 1 f_Memory_is_young d_Memory_is_young ["self", "reference"] (spMisy C_Memory) := ok_misy M_Memory_is_young X
  obtain ⟨f_Memory_link_places, d_Memory_link_places, M_Memory_link_places⟩ := X.m_Memory_link_places
  have H_Memory_link_places : FnOk P w K mg base CX0 3 f_Memory_link_places d_Memory_link_places ["self", "address"] (spMlp C_Memory) := ok_mlp M_Memory_link_places X
  refine G.F.ok sc_Moving_finish (fun vs H Q E h => ?_) (fun cdv A outer s H vs Q E hr h => ?_)
  · obtain ⟨v, dx, aMo, aH, aO, st, hf0, a, c, sh, m, s', rfl, _⟩ := h; rfl
  · obtain ⟨v, dx, aMo, aH, aO, st, hf0, a, c, sh, m, s', rfl, hv0, hx, q⟩ := h
    refine ⟨_, (pss_cons (ps_set (i := 1) sc_Moving_finish.nd rfl (Or.inr rfl) (pe_fld (pv 0) rfl))
      (pss_cons (ps_fld (pv 1) (pe_dc (own := [("address", 2)]) (g := (gName 2)) (tt := tYes) rfl sc_Moving_finish.nd (pi_list (pe_fld (pv 0) rfl)) (blkOk_by (own := [("address", 2)]) (N := ["self", "memory", "address", "places", "place"]) (sc := defScope s_Moving_finish) (by decide +kernel)) (fun _ _ _ _ _ => (pg_name (i := 2) sc_Moving_finish.nd rfl (Or.inl rfl))) (fun _ _ _ _ _ => pts_nil) (fun _ _ _ _ _ => (pv 2)) (fun _ _ _ _ _ => pe_bl)) rfl)
      (pss_cons (ps_asg (pe_ix ix_tup (pe_fld (pv 1) rfl) pe_int (fun _ _ => rfl)) (pg_sub (pe_fld (pv 1) rfl) pe_int set_list))
      (pss_cons (ps_asg (pe_ix ix_tup (pe_fld (pv 1) rfl) (pe_op op_add pe_int (pe_fld (pv 1) rfl)) (fun _ _ => rfl)) (pg_sub (pe_fld (pv 1) rfl) (pe_op op_add pe_int (pe_fld (pv 1) rfl)) set_list))
      (pss_cons (ps_fld (pv 1) (pe_fld (pv 0) rfl) rfl)
      (pss_cons (ps_set (i := 3) sc_Moving_finish.nd rfl (Or.inl rfl) (pe_callTy (call_list_dK rfl) (by rfl) X.b_list (by decide +kernel) (pa_cons (pe_fld (pv 1) rfl) pa_nil)))
      (pss_cons (ps_for PassesOwn.never rfl (pi_list (pe_fld (pv 0) rfl)) (pg_name (i := 2) sc_Moving_finish.nd rfl (Or.inl rfl))
        (pss_one (ps_expr (pe_bm PySem.F.plainAttrs_list PySem.F.slot_list_extend PySem.F.type_list_extend mt_extend (pv 3) (pa_cons (pe_meth (pv 1) X.cl_Memory M_Memory_link_places.m H_Memory_link_places hr M_Memory_link_places.b .nil pass0 (pa_cons (pv 2) pa_nil)) pa_nil)))))
      (pss_one (ps_fld (pv 1) (pe_dc (own := [("place", 4)]) (g := (gName 4)) (tt := tB (tMeth C_Memory "is_young" (spMisy C_Memory) [] E0 (tVar 1) (tCons (tOp (rIxL K) (tFld K (tVar 1) "words") (tVar 4)) tNil))) rfl sc_Moving_finish.nd (pi_list (pv 3)) (blkOk_by (own := [("place", 4)]) (N := ["self", "memory", "address", "places", "place"]) (sc := defScope s_Moving_finish) (by decide +kernel)) (fun _ _ _ _ _ => (pg_name (i := 4) sc_Moving_finish.nd rfl (Or.inl rfl))) (fun _ _ _ _ _ => (pts_one (pt_val (pe_meth (pv 1) X.cl_Memory M_Memory_is_young.m H_Memory_is_young (hr.mono (by decide)) M_Memory_is_young.b .nil pass0 (pa_cons (pe_ix ix_list (pe_fld (pv 1) rfl) (pv 4) (fun _ _ => rfl)) pa_nil))))) (fun _ _ _ _ _ => (pv 4)) (fun _ _ _ _ _ => pe_bl)) rfl))))))))), ?_⟩
    unfold finishM at hx
    cases hpl : placesM sh m.s m.to with
    | none => rw [hpl] at hx; cases hx
    | some ps =>
    rw [hpl] at hx
    simp only at hx
    split at hx
    case isFalse => cases hx
    rename_i hg
    obtain ⟨g1', g2', g3', g4', g4'', hs2, hnl⟩ := hg
    cases hx
    have hm := hv0.mem
    have hv := hv0.v_
    have ov := hv0.nv
    have oH := hv0.nH
    have oO := hv0.nO
    obtain ⟨s, mv, th, to⟩ := m
    have hH : H aH = some (.lst (natI th)) := hv0.th
    have hO : H aO = some (.lst (natI to)) := hv0.to
    have hm : MemAt C_Memory H a c sh s := hm
    have hs2 : s.half < 2 := hs2
    have hnl : s.nexts.length = 3 := hnl
    have g3' : th.Nodup := g3'
    have g4'' : th.length ≤ 500000 := g4''
    refine ⟨_, rfl, v, C_Moving, dx, VF a.m st hf0 aMo aH aO, .ref a.m, rfl, hv, X.cl_Moving, X.n_Moving_memory, rfl, ?_⟩
    have mo : a.m ∈ a.own := by simp [Ma.own]
    have hmv : v ≠ a.m := fun z => ov (z ▸ mo)
    have hmH : aH ≠ a.m := fun z => oH (z ▸ mo)
    have hmO : aO ≠ a.m := fun z => oO (z ▸ mo)
    -- memory.young
    refine ⟨_, rfl, v, C_Moving, dx, VF a.m st hf0 aMo aH aO, .ref aH, rfl, hv, X.cl_Moving, X.n_Moving_to_half, rfl, aH, rfl, ⟨_, SqL.of hH⟩, fun D nD => ?_⟩
    refine dc_list (K := K) (a := aH) (xs := natI th) (fun i H2 => H2 D = some (.dK (dk (th.take i))) ∧ Same H H2) ⟨upd_same, same_new nD⟩ (fun i H2 h => SqL.of (h.2 _ _ hH)) ?_ ?_
    · rintro i x H2 hi ⟨w1, w2⟩
      unfold natI at hi
      rw [List.getElem?_map] at hi
      obtain ⟨y, ey, rfl⟩ := Option.map_eq_some_iff.mp hi
      have hil := (List.getElem?_eq_some_iff.mp ey).1
      have et : th.take (i + 1) = th.take i ++ [y] := by
        rw [List.take_succ_eq_append_getElem hil]
        congr 2
        rw [List.getElem?_eq_getElem hil] at ey
        exact Option.some.inj ey
      refine ⟨rfl, _, rfl, dk (th.take i), Sum.inl (y : Int), rfl, w1, by unfold dk; rw [List.length_map, List.length_take]; exact big (by omega), ?_, same_at nD w2⟩
      rw [upd_same, et, dk_snoc]
      intro z
      obtain ⟨j, hj, ej⟩ := List.getElem_of_mem z
      rw [List.length_take] at hj
      rw [List.getElem_take] at ej
      have := (List.getElem?_inj (by omega) g3').mp ((List.getElem?_eq_getElem (by omega)).trans (by rw [ej, ey]) : th[j]? = th[i]?)
      omega
    rintro H0 ⟨w1, w2⟩
    rw [show (natI th).length = th.length by unfold natI; rw [List.length_map], List.take_length] at w1
    have hm0 := hm.same w2
    have dO : D ≠ a.aO := fun z => by have := hm.old; rw [← z, nD] at this; cases this
    have dR : D ≠ a.aR := fun z => by have := hm.rem; rw [← z, nD] at this; cases this
    have m1 := hm0.putY w1 dO dR
    obtain ⟨H1, g1⟩ : ∃ G : Hp, G = upd H0 a.m (.ins C_Memory a.dx (MemF { a with aY := D } c { s with young := th })) := ⟨_, rfl⟩
    rw [← g1] at m1
    refine ⟨_, rfl, a.m, C_Memory, a.dx, MemF a c s, rfl, hm0.at_, X.cl_Memory, X.n_Memory_young, by show 17 < _; decide, ?_⟩
    refine at_nx g1 ?_
    have K1 : KeptL a.own H H1 := by rw [g1]; exact (KeptL.of_same w2).trans (kept_upd mo)
    -- nexts[0]
    have m2 := m1.setN (s.nexts.set 0 1)
    obtain ⟨H2, g2⟩ : ∃ G : Hp, G = upd H1 a.aN (.lst (natI (s.nexts.set 0 1))) := ⟨_, rfl⟩
    rw [← g2] at m2
    refine ⟨_, rfl, a.m, C_Memory, a.dx, MemF { a with aY := D } c { s with young := th }, .ref a.aFi, rfl, m1.at_, X.cl_Memory, X.n_Memory_firsts, rfl, a.aFi, _, 0, .int ((1 : Nat) : Int), rfl, rfl, SqT.of m1.fi, rfl, ?_⟩
    refine ⟨_, rfl, a.m, C_Memory, a.dx, MemF { a with aY := D } c { s with young := th }, .ref a.aN, rfl, m1.at_, X.cl_Memory, X.n_Memory_nexts, rfl, a.aN, _, 0, 0, rfl, rfl, m1.nexts, ixN_nat (k := 0) (by unfold natI; rw [List.length_map]; show 0 < s.nexts.length; omega), ?_⟩
    refine at_nx (g2.trans (congrArg (fun z => upd H1 a.aN (.lst z)) (natI_set _ _ _).symm)) ?_
    have K2 : KeptL a.own H H2 := by rw [g2]; exact K1.trans (kept_upd (by simp [Ma.own]))
    -- nexts[1 + half]
    have hf : c.firsts[1 + s.half]? = some (c.firsts.getD (1 + s.half) 0) := by
      rw [List.getD_eq_getElem?_getD, List.getElem?_eq_getElem (by show 1 + s.half < 3; omega)]
      rfl
    have m3 := m2.setN ((s.nexts.set 0 1).set (1 + s.half) (c.firsts.getD (1 + s.half) 0))
    obtain ⟨H3, g3⟩ : ∃ G : Hp, G = upd H2 a.aN (.lst (natI ((s.nexts.set 0 1).set (1 + s.half) (c.firsts.getD (1 + s.half) 0)))) := ⟨_, rfl⟩
    rw [← g3] at m3
    refine ⟨_, rfl, a.m, C_Memory, a.dx, MemF { a with aY := D } c { s with young := th, nexts := s.nexts.set 0 1 }, .ref a.aFi, rfl, m2.at_, X.cl_Memory, X.n_Memory_firsts, rfl, _, rfl, a.m, C_Memory, a.dx, MemF { a with aY := D } c { s with young := th, nexts := s.nexts.set 0 1 }, .int s.half, rfl, m2.at_, X.cl_Memory, X.n_Memory_half, rfl, _, _, rfl, rfl, a.aFi, _, ((1 + s.half : Nat) : Int), .int ((c.firsts.getD (1 + s.half) 0 : Nat) : Int), rfl, rfl, SqT.of m2.fi, atI_nat (by unfold natI; rw [List.getElem?_map, hf]; rfl), ?_⟩
    refine ⟨_, rfl, a.m, C_Memory, a.dx, MemF { a with aY := D } c { s with young := th, nexts := s.nexts.set 0 1 }, .ref a.aN, rfl, m2.at_, X.cl_Memory, X.n_Memory_nexts, rfl, _, rfl, a.m, C_Memory, a.dx, MemF { a with aY := D } c { s with young := th, nexts := s.nexts.set 0 1 }, .int s.half, rfl, m2.at_, X.cl_Memory, X.n_Memory_half, rfl, _, _, rfl, rfl, a.aN, _, ((1 + s.half : Nat) : Int), 1 + s.half, rfl, rfl, m2.nexts, ixN_nat (by unfold natI; rw [List.length_map]; show 1 + s.half < (s.nexts.set 0 1).length; rw [List.length_set]; omega), ?_⟩
    refine at_nx (g3.trans (congrArg (fun z => upd H2 a.aN (.lst z)) (natI_set _ _ _).symm)) ?_
    have K3 : KeptL a.own H H3 := by rw [g3]; exact K2.trans (kept_upd (by simp [Ma.own]))
    -- half
    obtain ⟨s4, es4⟩ : ∃ s4 : Ms, s4 = { s with half := hf0, young := th, nexts := (s.nexts.set 0 1).set (1 + s.half) (c.firsts.getD (1 + s.half) 0) } := ⟨_, rfl⟩
    have m4 := m3.fields hf0 s.done s.marks
    obtain ⟨H4, g4⟩ : ∃ G : Hp, G = upd H3 a.m (.ins C_Memory a.dx (MemF { a with aY := D } c s4)) := ⟨_, rfl⟩
    refine ⟨_, rfl, v, C_Moving, dx, VF a.m st hf0 aMo aH aO, .int hf0, rfl, K3 _ _ ov hv, X.cl_Moving, X.n_Moving_half, rfl, _, rfl, a.m, C_Memory, a.dx, _, rfl, m3.at_, X.cl_Memory, X.n_Memory_half, by show 17 < _; decide, ?_⟩
    refine at_nx (g4.trans (by rw [es4]; rfl)) ?_
    have m4 : MemAt C_Memory H4 { a with aY := D } c sh s4 := by rw [g4, es4]; exact m4
    have K4 : KeptL a.own H H4 := by rw [g4]; exact K3.trans (kept_upd mo)
    have er : s4.rem = s.rem := by rw [es4]
    -- places
    refine ⟨_, rfl, a.m, C_Memory, a.dx, _, .ref a.aR, rfl, m4.at_, X.cl_Memory, X.n_Memory_remembered, rfl, a.aR, _, rfl, m4.rem, fun pl npl => ?_⟩
    have ek : ((dk s4.rem).map fun kv => kV kv.1) = natI s.rem := by
      rw [er]
      unfold dk natI
      rw [List.map_map]
      rfl
    rw [ek]
    obtain ⟨H5, g5⟩ : ∃ G : Hp, G = upd H4 pl (.lst (natI s.rem)) := ⟨_, rfl⟩
    refine at_nx g5 ?_
    have s5 : Same H4 H5 := by rw [g5]; exact same_new npl
    have m5 := m4.same s5
    have K5 : KeptL a.own H H5 := K4.trans (KeptL.of_same s5)
    have fpl : H5 pl = some (.lst (natI s.rem)) := by rw [g5]; exact upd_same
    have hO5 := K5 _ _ oO hO
    have hv5 := K5 _ _ ov hv
    have plO : aO ≠ pl := ne_of_none (K4 _ _ oO hO) npl
    have plv : v ≠ pl := ne_of_none (K4 _ _ ov hv) npl
    have plown : pl ∉ ({ a with aY := D } : Ma).own := fun z => by
      obtain ⟨o, ho, _⟩ := m4.ownAt _ z
      rw [npl] at ho; cases ho
    have lk4 : ∀ x, linkM sh s4 x = linkM sh s x := fun x => by rw [es4]; rfl
    have e500 : (s.rem ++ ps).length ≤ 500000 := g4'
    have npH : H pl = none := by
      cases e : H pl with
      | none => rfl
      | some o =>
        by_cases z : pl ∈ a.own
        · have : pl ∈ [a.m, a.aL, a.aW, a.aN, a.aY, a.aO, a.aR, a.aG, a.aE] := z
          have no : pl ∉ [a.m, a.aL, a.aW, a.aN, D, a.aO, a.aR, a.aG, a.aE] := plown
          have : pl = a.aY := by
            simp only [List.mem_cons, List.not_mem_nil, or_false, not_or] at this no
            rcases this with e | e | e | e | e | e | e | e | e
            · exact absurd e no.1
            · exact absurd e no.2.1
            · exact absurd e no.2.2.1
            · exact absurd e no.2.2.2.1
            · exact e
            · exact absurd e no.2.2.2.2.2.1
            · exact absurd e no.2.2.2.2.2.2.1
            · exact absurd e no.2.2.2.2.2.2.2.1
            · exact absurd e no.2.2.2.2.2.2.2.2
          -- the older dict of the young stands still
          have y0 := w2 _ _ hm.young
          have y1 : H1 a.aY = some (.dK (dk s.young)) := by rw [g1, upd_ne (ne_of y0 hm0.at_ (by intro z; cases z))]; exact y0
          have y2 : H2 a.aY = some (.dK (dk s.young)) := by rw [g2, upd_ne (ne_of y1 m1.nexts (by intro z; cases z))]; exact y1
          have y3 : H3 a.aY = some (.dK (dk s.young)) := by rw [g3, upd_ne (ne_of y2 m2.nexts (by intro z; cases z))]; exact y2
          have y4 : H4 a.aY = some (.dK (dk s.young)) := by rw [g4, upd_ne (ne_of y3 m3.at_ (by intro z; cases z))]; exact y3
          rw [← this, npl] at y4
          cases y4
        · rw [K4 _ _ z e] at npl
          cases npl
    refine ⟨_, rfl, v, C_Moving, dx, VF a.m st hf0 aMo aH aO, .ref aO, rfl, hv5, X.cl_Moving, X.n_Moving_to_old, rfl, aO, rfl, ⟨_, SqL.of hO5⟩, for_list (xs := natI to) (fun i σ H' => ∃ (qs rs : List Nat) (o2 : Option V), σ = [some (.ref v), some (.ref a.m), o2, some (.ref pl), none] ∧ MemAt C_Memory H' { a with aY := D } c sh s4 ∧ H' pl = some (.lst (natI (s.rem ++ qs))) ∧ KeptL [pl] H5 H' ∧ placesM sh s (to.take i) = some qs ∧ placesM sh s (to.drop i) = some rs ∧ ps = qs ++ rs) ⟨[], ps, _, rfl, m5, by rw [List.append_nil]; exact fpl, fun _ _ _ e => e, rfl, hpl, rfl⟩ ?_ ?_ ?_⟩
    · rintro i σ H' _ ⟨qs, rs, o2, _, _, _, k, _⟩
      exact SqL.of (k _ _ (by rw [List.mem_singleton]; exact plO) hO5)
    · rintro i xv σ H6 hi ⟨qs, rs, o2, rfl, m6, p6, k6, f1, f2, e3⟩
      unfold natI at hi
      rw [List.getElem?_map] at hi
      obtain ⟨x, ex, rfl⟩ := Option.map_eq_some_iff.mp hi
      have hil := (List.getElem?_eq_some_iff.mp ex).1
      have ex' : to[i] = x := (List.getElem?_eq_some_iff.mp ex).2
      rw [List.drop_eq_getElem_cons hil, ex'] at f2
      obtain ⟨ra, rb, l1, l2, rfl⟩ := placesM_cons f2
      refine ⟨_, rfl, .inl ⟨rfl, _, SqL.of p6⟩, _, rfl, a.m, a.dx, _, rfl, m6.at_, memF_no (by decide), _, rfl, { a with aY := D }, x, ra, c, sh, s4, rfl, m6, (lk4 x).trans l1, fun b H7 nb S7 fb => ?_⟩
      have p7 := S7 _ _ p6
      have len : (s.rem ++ qs).length + ra.length ≤ 500000 := by
        rw [e3] at e500
        simp only [List.length_append] at e500 ⊢
        omega
      refine ⟨pl, b, _, _, rfl, rfl, p7, fb, by unfold natI; rw [List.length_map, List.length_map]; exact Nat.le_of_lt (big (by omega)), ?_⟩
      have eA : natI (s.rem ++ qs) ++ natI ra = natI (s.rem ++ (qs ++ ra)) := by
        unfold natI
        rw [← List.map_append, List.append_assoc]
      rw [eA]
      have tt : TupSame H7 (upd H7 pl (.lst (natI (s.rem ++ (qs ++ ra))))) := fun b xs e => by rw [upd_ne (ne_of e p7 (by intro z; cases z))]; exact e
      refine ⟨qs ++ ra, rb, _, rfl, (m6.same S7).kept (l := [pl]) (kept_upd (by simp)) tt (fun b hb z => plown (by rw [← List.mem_singleton.mp z]; exact hb)), upd_same, (k6.trans (KeptL.of_same S7)).trans (kept_upd (by simp)), ?_, l2, by rw [e3]; simp⟩
      rw [List.take_succ_eq_append_getElem hil, ex']
      exact placesM_snoc f1 l1
    rintro σ H6 ⟨qs, rs, o2, rfl, m6, p6, k6, f1, f2, e3⟩
    rw [show (natI to).length = to.length by unfold natI; rw [List.length_map], List.drop_length] at f2
    cases f2
    rw [List.append_nil] at e3
    subst e3
    -- remembered
    refine ⟨_, rfl, pl, rfl, ⟨_, SqL.of p6⟩, fun D2 nD2 => ?_⟩
    have nd : (s.rem ++ ps).Nodup := g1'
    have gb : ∀ p ∈ s.rem ++ ps, p < s.words.length := g2'
    refine dc_list (K := K) (a := pl) (xs := natI (s.rem ++ ps)) (fun i G => G D2 = some (.dK (dk (((s.rem ++ ps).take i).filter (youngW c s4)))) ∧ Same H6 G) ⟨upd_same, same_new nD2⟩ (fun i G h => SqL.of (h.2 _ _ p6)) ?_ ?_
    · rintro i xv G hi ⟨w1, w2⟩
      unfold natI at hi
      rw [List.getElem?_map] at hi
      obtain ⟨y, ey, rfl⟩ := Option.map_eq_some_iff.mp hi
      have hil := (List.getElem?_eq_some_iff.mp ey).1
      have et : (s.rem ++ ps).take (i + 1) = (s.rem ++ ps).take i ++ [y] := by
        rw [List.take_succ_eq_append_getElem hil]
        congr 2
        rw [List.getElem?_eq_getElem hil] at ey
        exact Option.some.inj ey
      have hyl : y < s4.words.length := by rw [es4]; exact gb y (List.mem_of_getElem? ey)
      have hw : s4.words[y]? = some s4.words[y] := List.getElem?_eq_getElem hyl
      have mG := m6.same w2
      have eyw : youngW c s4 y = decide (0 < s4.words[y] ∧ s4.words[y] < c.fo) := by
        unfold youngW
        rw [List.getD_eq_getElem?_getD, hw]
        rfl
      refine ⟨rfl, _, rfl, a.m, a.dx, _, rfl, mG.at_, memF_no (by decide), _, rfl, a.m, C_Memory, a.dx, _, .ref a.aW, rfl, mG.at_, X.cl_Memory, X.n_Memory_words, rfl, _, rfl, a.aW, _, y, .int s4.words[y], rfl, rfl, SqL.of mG.words, atI_nat (by rw [List.getElem?_map, hw]; rfl), { a with aY := D }, s4.words[y], c, sh, s4, rfl, mG, _, rfl, ?_⟩
      rw [← eyw]
      have nin : y ∉ ((s.rem ++ ps).take i).filter (youngW c s4) := fun z => by
        have z := (List.mem_filter.mp z).1
        obtain ⟨j, hj, ej⟩ := List.getElem_of_mem z
        rw [List.length_take] at hj
        rw [List.getElem_take] at ej
        have := (List.getElem?_inj (by omega) nd).mp ((List.getElem?_eq_getElem (by omega)).trans (by rw [ej, ey]) : (s.rem ++ ps)[j]? = (s.rem ++ ps)[i]?)
        omega
      cases hyw : youngW c s4 y with
      | true =>
        refine iteT ⟨_, rfl, _, Sum.inl (y : Int), rfl, w1, ?_, ?_, same_at nD2 w2⟩
        · unfold dk
          rw [List.length_map]
          refine big (Nat.le_trans (List.length_filter_le _ _) ?_)
          rw [List.length_take]
          omega
        · rw [upd_same, et, List.filter_append, dk_snoc nin]
          simp [hyw]
      | false =>
        refine iteF ⟨?_, w2⟩
        rw [w1, et, List.filter_append]
        simp [hyw]
    rintro G ⟨w1, w2⟩
    rw [show (natI (s.rem ++ ps)).length = (s.rem ++ ps).length by unfold natI; rw [List.length_map], List.take_length] at w1
    have mG := m6.same w2
    have d2O : D2 ≠ a.aO := fun z => by have := m6.old; rw [← z, nD2] at this; cases this
    have d2Y : D2 ≠ D := fun z => by have := m6.young; rw [← z, nD2] at this; cases this
    have m7 := mG.putR w1 d2O d2Y
    refine ⟨_, rfl, a.m, C_Memory, a.dx, _, rfl, mG.at_, X.cl_Memory, X.n_Memory_remembered, by show 17 < _; decide, ?_⟩
    have K6 : KeptL a.own H H6 := fun b o nb e => k6 _ _ (fun z => by rw [List.mem_singleton.mp z, npH] at e; cases e) (K5 b o nb e)
    subst es4
    refine q { a with aY := D, aR := D2 } _ m7 ⟨rfl, K6.trans ((KeptL.of_same w2).trans (kept_upd mo)), fun b hb => ?_⟩
    by_cases hba : b ∈ a.own
    · exact .inl hba
    · refine .inr ?_
      have hb : b ∈ [a.m, a.aL, a.aW, a.aN, D, a.aO, D2, a.aG, a.aE] := hb
      have hba' : b ∉ [a.m, a.aL, a.aW, a.aN, a.aY, a.aO, a.aR, a.aG, a.aE] := hba
      simp only [List.mem_cons, List.not_mem_nil, or_false, not_or] at hb hba'
      rcases hb with e | e | e | e | e | e | e | e | e
      · exact absurd e hba'.1
      · exact absurd e hba'.2.1
      · exact absurd e hba'.2.2.1
      · exact absurd e hba'.2.2.2.1
      · rw [e]; exact nD
      · exact absurd e hba'.2.2.2.2.2.1
      · cases h : H b with
        | none => rfl
        | some o =>
          have := K6 _ _ hba h
          rw [e] at this
          rw [this] at nD2
          cases nD2
      · exact absurd e hba'.2.2.2.2.2.2.2.1
      · exact absurd e hba'.2.2.2.2.2.2.2.2
end
end PH

/-! What is young is moved. -/
namespace PH
open PySem PySem.Spec PyProof.Rows L2 KA KI KK PV T ET
theorem sorted_oneI : ∀ {a b : List Int}, a.Perm b → a.Pairwise (· ≤ ·) → b.Pairwise (· ≤ ·) → a = b
  | [], b, p, _, _ => (List.perm_nil.mp p.symm).symm
  | x :: a, [], p, _, _ => nomatch List.perm_nil.mp p
  | x :: a, y :: b, p, h1, h2 => by
    obtain ⟨h3, h4⟩ := List.pairwise_cons.mp h1
    obtain ⟨h5, h6⟩ := List.pairwise_cons.mp h2
    have e : x = y := by
      have hx : x ∈ y :: b := p.mem_iff.mp List.mem_cons_self
      have hy : y ∈ x :: a := p.mem_iff.mpr List.mem_cons_self
      have a1 : y ≤ x := by
        rcases List.mem_cons.mp hx with z | z
        · omega
        · exact h5 x z
      have a2 : x ≤ y := by
        rcases List.mem_cons.mp hy with z | z
        · omega
        · exact h3 y z
      omega
    subst e
    rw [sorted_oneI ((List.perm_cons x).mp p) h4 h6]
theorem sortI {ns : List Int} {l : List Nat} (p : ns.Perm (l.map fun (n : Nat) => (n : Int))) (h : ns.Pairwise (· ≤ ·)) : ns = (sortN l).map fun (n : Nat) => (n : Int) := by
  refine sorted_oneI (p.trans ((sortN_perm l).map _).symm) h ?_
  rw [List.pairwise_map]
  exact (sortN_sorted l).imp fun z => by omega
theorem ledsM_at {c : Sz} {st : Bool} {hf : Nat} : ∀ {xs : List Int} {m m' : Mv} {ys : List Int} (i : Nat), ledsM c st hf m xs = some (m', ys) → ∃ mi a b, ledsM c st hf m (xs.take i) = some (mi, a) ∧ ledsM c st hf mi (xs.drop i) = some (m', b) ∧ ys = a ++ b
  | [], m, m', ys, i, h => by
    cases h
    exact ⟨m, [], [], by rw [List.take_nil]; rfl, by rw [List.drop_nil]; rfl, rfl⟩
  | x :: xs, m, m', ys, 0, h => ⟨m, [], ys, rfl, h, rfl⟩
  | x :: xs, m, m', ys, i + 1, h => by
    unfold ledsM at h
    cases e : ledM c st hf m x with
    | none => rw [e] at h; cases h
    | some p =>
    rw [e] at h
    cases e2 : ledsM c st hf p.1 xs with
    | none =>
      have h : (ledsM c st hf p.1 xs).map (fun q => (q.1, p.2 :: q.2)) = some (m', ys) := h
      rw [e2] at h
      cases h
    | some q =>
    have h : (ledsM c st hf p.1 xs).map (fun q => (q.1, p.2 :: q.2)) = some (m', ys) := h
    rw [e2] at h
    cases h
    obtain ⟨mi, a, b, h1, h2, h3⟩ := ledsM_at i e2
    refine ⟨mi, p.2 :: a, b, ?_, h2, by rw [h3]; rfl⟩
    rw [List.take_succ_cons]
    unfold ledsM
    rw [e]
    show (ledsM c st hf p.1 (xs.take i)).map (fun q => (q.1, p.2 :: q.2)) = _
    rw [h1]
    rfl
theorem ledsM_snoc {c : Sz} {st : Bool} {hf : Nat} : ∀ {xs : List Int} {x y : Int} {m m1 m2 : Mv} {ys : List Int}, ledsM c st hf m xs = some (m1, ys) → ledM c st hf m1 x = some (m2, y) → ledsM c st hf m (xs ++ [x]) = some (m2, ys ++ [y])
  | [], x, y, m, m1, m2, ys, h, e => by
    cases h
    show (ledM c st hf m x).bind (fun p => (ledsM c st hf p.1 []).map fun q => (q.1, p.2 :: q.2)) = _
    rw [e]
    rfl
  | z :: xs, x, y, m, m1, m2, ys, h, e => by
    unfold ledsM at h
    cases e1 : ledM c st hf m z with
    | none => rw [e1] at h; cases h
    | some p =>
    rw [e1] at h
    have h : (ledsM c st hf p.1 xs).map (fun q => (q.1, p.2 :: q.2)) = some (m1, ys) := h
    cases e2 : ledsM c st hf p.1 xs with
    | none => rw [e2] at h; cases h
    | some q =>
    rw [e2] at h
    cases h
    rw [List.cons_append]
    unfold ledsM
    rw [e1]
    show (ledsM c st hf p.1 (xs ++ [x])).map (fun q => (q.1, p.2 :: q.2)) = _
    rw [ledsM_snoc e2 e]
    rfl
theorem ledsM_cons {c : Sz} {st : Bool} {hf : Nat} {xs : List Int} {x : Int} {m m' : Mv} {ys : List Int} (h : ledsM c st hf m (x :: xs) = some (m', ys)) : ∃ m1 y r, ledM c st hf m x = some (m1, y) ∧ ledsM c st hf m1 xs = some (m', r) ∧ ys = y :: r := by
  unfold ledsM at h
  cases e1 : ledM c st hf m x with
  | none => rw [e1] at h; cases h
  | some p =>
  rw [e1] at h
  have h : (ledsM c st hf p.1 xs).map (fun q => (q.1, p.2 :: q.2)) = some (m', ys) := h
  cases e2 : ledsM c st hf p.1 xs with
  | none => rw [e2] at h; cases h
  | some q =>
  rw [e2] at h
  cases h
  exact ⟨p.1, p.2, q.2, rfl, e2, rfl⟩
section
variable {P : Program} {w : World} {K : PySem.W.Frag} {mg : Str → Option Value} {base : Heap} {C_Moving C_Memory C_Heap : Addr}
def spMy (CM : Addr) : Sp := fun vs H Q _ => ∃ (r : Addr) (st : Bool) (rs rs' : List Int) (a : Ma) (c : Sz) (sh : List (List Bool)) (s s' : Ms), vs = [.ref a.m, .ref r, .bl st] ∧ H r = some (.tup (rs.map V.int)) ∧ rs.length ≤ 40000 ∧ MemAt CM H a c sh s ∧ s.half < 2 ∧ moveYoungM c sh st s rs = some (s', rs') ∧
  ∀ (a' : Ma) (b : Addr) (H' : Hp), MemAt CM H' a' c sh s' → GoneTo H H' a a' → H b = none → H' b = some (.tup (rs'.map V.int)) → Q (.ref b) H'
theorem ok_my {f : Addr} {fd : FuncData} (G : Gd K mg "move_young" s_move_young ["memory", "roots", "is_settling"] f fd) (X : Lw K mg C_Moving C_Memory C_Heap) : FnOk P w K mg base CX0 7 f fd ["memory", "roots", "is_settling"] (spMy C_Memory) := by
  obtain ⟨f_Moving_finish, d_Moving_finish, M_Moving_finish⟩ := X.m_Moving_finish
  have H_Moving_finish : FnOk P w K mg base CX0 4 f_Moving_finish d_Moving_finish ["self"] (spVfin C_Moving C_Memory) := ok_vfin M_Moving_finish X
  obtain ⟨f_Moving_lead_moved, d_Moving_lead_moved, M_Moving_lead_moved⟩ := X.m_Moving_lead_moved
  have H_Moving_lead_moved : FnOk P w K mg base CX0 6 f_Moving_lead_moved d_Moving_lead_moved ["self"] (spVlm C_Moving C_Memory) := ok_vlm M_Moving_lead_moved X
  obtain ⟨f_Moving_led, d_Moving_led, M_Moving_led⟩ := X.m_Moving_led
  have H_Moving_led : FnOk P w K mg base CX0 4 f_Moving_led d_Moving_led ["self", "reference"] (spVled C_Moving C_Memory) := ok_vled M_Moving_led X
  obtain ⟨f_Moving___init__, d_Moving___init__, K_Moving, F_Moving___init__, b_Moving___init__⟩ := X.i_Moving
  have H_Moving___init__ : FnOk P w K mg base CX0 1 f_Moving___init__ d_Moving___init__ ["self", "memory", "is_settling"] (spVinit C_Moving C_Memory) := ok_vinit F_Moving___init__ X
  refine G.F.ok sc_move_young (fun vs H Q E h => ?_) (fun cdv A outer s H vs Q E hr h => ?_)
  · obtain ⟨r, st, rs, rs', a, c, sh, s, s', rfl, _⟩ := h; rfl
  · obtain ⟨r, st, rs, rs', a, c, sh, s, s', rfl, hr0, hrl, hm, hs2, hx, q⟩ := h
    refine ⟨_, (pss_cons (ps_set (i := 3) sc_move_young.nd rfl (Or.inr rfl) (pe_make K_Moving H_Moving___init__ (hr.mono (by decide)) (by rfl) X.g_Moving b_Moving___init__ .nil pass0 (pa_cons (pv 0) (pa_cons (pv 2) pa_nil))))
      (pss_cons (ps_set (i := 1) sc_move_young.nd rfl (Or.inl rfl) (pe_callTy call_tuple_of (by rfl) X.b_tuple (by decide +kernel) (pa_cons (pe_lc (own := [("root", 4)]) (g := (gName 4)) (tt := tYes) rfl sc_move_young.nd (pi_tup (pv 1)) (blkOk_by (own := [("root", 4)]) (N := ["memory", "roots", "is_settling", "moving", "root", "place"]) (sc := defScope s_move_young) (by decide +kernel)) (fun _ _ _ _ _ => (pg_name (i := 4) sc_move_young.nd rfl (Or.inl rfl))) (fun _ _ _ _ _ => pts_nil) (fun _ _ _ _ _ => (pe_meth (pv 3) X.cl_Moving M_Moving_led.m H_Moving_led (hr.mono (by decide)) M_Moving_led.b .nil pass0 (pa_cons (pv 4) pa_nil)))) pa_nil)))
      (pss_cons (ps_for PassesOwn.never rfl (pi_list (pe_callB cr_sortedI (by rfl) X.b_sorted (by decide +kernel) (pa_cons (pe_callTy (call_list_dK rfl) (by rfl) X.b_list (by decide +kernel) (pa_cons (pe_fld (pv 0) rfl) pa_nil)) pa_nil))) (pg_name (i := 5) sc_move_young.nd rfl (Or.inl rfl))
        (pss_one (ps_asg (pe_meth (pv 3) X.cl_Moving M_Moving_led.m H_Moving_led (hr.mono (by decide)) M_Moving_led.b .nil pass0 (pa_cons (pe_ix ix_list (pe_fld (pv 0) rfl) (pv 5) (fun _ _ => rfl)) pa_nil)) (pg_sub (pe_fld (pv 0) rfl) (pv 5) set_list))))
      (pss_cons (ps_expr (pe_meth0 (pv 3) X.cl_Moving M_Moving_lead_moved.m H_Moving_lead_moved hr M_Moving_lead_moved.b .nil pass0))
      (pss_cons (ps_expr (pe_meth0 (pv 3) X.cl_Moving M_Moving_finish.m H_Moving_finish (hr.mono (by decide)) M_Moving_finish.b .nil pass0))
      (pss_one (ps_ret (pv 1)))))))), ?_⟩
    refine ⟨_, rfl, _, rfl, fun v dv nv ndv nev => ?_⟩
    have S1 : Same H (upd (upd H dv (.own v)) v (.ins C_Moving dv [])) := same_at nv (same_new ndv)
    refine ⟨v, dv, st, a, c, sh, s, rfl, upd_same, hm.same S1, hs2, fun aMo aH aO H2 e1 e2 e3 e4 nHO n1 n2 n3 k => ⟨rfl, ?_⟩⟩
    have S2 : Same H H2 := fun b o e => k _ _ (by rw [List.mem_singleton]; exact ne_of_none e nv) (S1 _ _ e)
    have no : ∀ {b : Addr}, H b = none → b ∉ a.own := fun n z => by
      obtain ⟨o, ho, _⟩ := hm.ownAt _ z
      rw [n] at ho
      cases ho
    have n1' : H aMo = none := S1.free n1
    have n2' : H aH = none := S1.free n2
    have n3' : H aO = none := S1.free n3
    have hv2 : MvAt C_Moving C_Memory H2 v dv aMo aH aO st (1 - s.half) a c sh ⟨s, [], [], []⟩ := ⟨e1, e2, e3, e4, hm.same S2, no nv, no n1', no n2', no n3', nHO⟩
    have r2 := S2 _ _ hr0
    unfold moveYoungM at hx
    cases hL : ledsM c st (1 - s.half) ⟨s, [], [], []⟩ rs with
    | none => rw [hL] at hx; cases hx
    | some p =>
    obtain ⟨mR, ys⟩ := p
    rw [hL] at hx
    have hx : (if mR.s.rem.length ≤ 500000 ∧ mR.s.half = s.half then (foldO (leadM c st (1 - s.half)) mR (sortN mR.s.rem)).bind fun m2 => (scanM c sh st (1 - s.half) 500000 m2 0 0).bind fun m3 => (finishM c sh (1 - s.half) m3).map fun s' => (s', ys) else none) = some (s', rs') := hx
    split at hx
    case isFalse => cases hx
    rename_i hg
    cases hF : foldO (leadM c st (1 - s.half)) mR (sortN mR.s.rem) with
    | none => rw [hF] at hx; cases hx
    | some mF =>
    rw [hF] at hx
    have hx : (scanM c sh st (1 - s.half) 500000 mF 0 0).bind (fun m3 => (finishM c sh (1 - s.half) m3).map fun s' => (s', ys)) = some (s', rs') := hx
    cases hS : scanM c sh st (1 - s.half) 500000 mF 0 0 with
    | none => rw [hS] at hx; cases hx
    | some mS =>
    rw [hS] at hx
    have hx : (finishM c sh (1 - s.half) mS).map (fun s' => (s', ys)) = some (s', rs') := hx
    cases hE : finishM c sh (1 - s.half) mS with
    | none => rw [hE] at hx; cases hx
    | some sE =>
    rw [hE] at hx
    cases hx
    -- the roots
    refine ⟨_, rfl, r, rfl, ⟨_, SqT.of r2⟩, fun D nD => ?_⟩
    have nDH : H D = none := S2.free nD
    have Dn : D ∉ v :: mvOwn aMo aH aO a := fun z => by
      rcases List.mem_cons.mp z with z | z
      · rw [z, e1] at nD; cases nD
      · obtain ⟨o, ho, _⟩ := hv2.ownAt D z
        rw [nD] at ho; cases ho
    refine lc_tup (K := K) (xs := rs.map V.int) (fun i H3 => ∃ (mi : Mv) (as bs : List Int), H3 D = some (.lst (as.map V.int)) ∧ as.length = i ∧ MvAt C_Moving C_Memory H3 v dv aMo aH aO st (1 - s.half) a c sh mi ∧ KeptL (mvOwn aMo aH aO a) H2 H3 ∧ ledsM c st (1 - s.half) ⟨s, [], [], []⟩ (rs.take i) = some (mi, as) ∧ ledsM c st (1 - s.half) mi (rs.drop i) = some (mR, bs) ∧ rs' = as ++ bs) ⟨⟨s, [], [], []⟩, [], rs', upd_same, rfl, hv2.same (same_new nD), KeptL.of_same (same_new nD), rfl, hL, rfl⟩ ?_ ?_ ?_
    · rintro i H3 _ ⟨mi, as, bs, _, _, _, k3, _⟩
      exact SqT.of (k3 _ _ (fun z => by
        obtain ⟨o, ho, h2⟩ := hv2.ownAt r z
        rw [r2] at ho; cases ho; exact h2 _ rfl) r2)
    · rintro i xv H3 hi ⟨mi, as, bs, hD, hal, hv3, k3, l1, l2, l3⟩
      rw [List.getElem?_map] at hi
      obtain ⟨x, ex, rfl⟩ := Option.map_eq_some_iff.mp hi
      have hil := (List.getElem?_eq_some_iff.mp ex).1
      have ex' : rs[i] = x := (List.getElem?_eq_some_iff.mp ex).2
      rw [List.drop_eq_getElem_cons hil, ex'] at l2
      obtain ⟨m1, y, rb, d1, d2, rfl⟩ := ledsM_cons l2
      refine ⟨rfl, _, rfl, v, dv, _, rfl, hv3.v_, vF_no (by decide), _, rfl, v, dv, aMo, aH, aO, st, 1 - s.half, x, y, a, c, sh, mi, m1, rfl, hv3, d1, fun H4 hv4 k4 => ?_⟩
      have hD4 := k4 _ _ (fun z => Dn (List.mem_cons_of_mem _ z)) hD
      have tt : TupSame H4 (upd H4 D (.lst ((as ++ [y]).map V.int))) := fun b xs e => by rw [upd_ne (ne_of e hD4 (by intro z; cases z))]; exact e
      have kk : KeptL [D] H4 (upd H4 D (.lst ((as ++ [y]).map V.int))) := kept_upd (by simp)
      refine ⟨as.map V.int, hD4, by rw [List.length_map]; exact big (by omega), m1, as ++ [y], rb, by rw [List.map_append]; exact upd_same, by rw [List.length_append, hal]; rfl, ?_, ?_, ?_, d2, by rw [l3]; simp⟩
      · rw [show as.map V.int ++ [V.int y] = (as ++ [y]).map V.int by simp]
        exact hv4.kept kk tt (fun b hb z => Dn (by rw [← List.mem_singleton.mp z]; exact hb))
      · rw [show as.map V.int ++ [V.int y] = (as ++ [y]).map V.int by simp]
        exact fun b o nb e => by
          have nbD : b ≠ D := fun z => by rw [z, nD] at e; cases e
          rw [upd_ne nbD]
          exact k4 _ _ nb (k3 _ _ nb e)
      · rw [List.take_succ_eq_append_getElem hil, ex']
        exact ledsM_snoc l1 d1
    rintro H3 ⟨mi, as, bs, hD, hal, hv3, k3, l1, l2, l3⟩
    rw [List.length_map, List.drop_length] at l2
    cases l2
    rw [List.append_nil] at l3
    subst l3
    rw [List.length_map] at hal
    refine ⟨_, _, rfl, .inl ⟨SqL.of hD, fun t nt => ?_⟩⟩
    obtain ⟨H4, g4⟩ : ∃ G : Hp, G = upd H3 t (.tup (rs'.map V.int)) := ⟨_, rfl⟩
    refine at_nx g4 ?_
    have s4 : Same H3 H4 := by rw [g4]; exact same_new nt
    have ft : H4 t = some (.tup (rs'.map V.int)) := by rw [g4]; exact upd_same
    have hv4 := hv3.same s4
    have k4 : KeptL (mvOwn aMo aH aO a) H2 H4 := k3.trans (KeptL.of_same s4)
    have own0 : ∀ b ∈ mvOwn aMo aH aO a, b ∈ a.own ∨ H b = none := fun b hb => by
      unfold mvOwn at hb
      rcases List.mem_cons.mp hb with z | hb
      · rw [z]; exact .inr n1'
      rcases List.mem_cons.mp hb with z | hb
      · rw [z]; exact .inr n2'
      rcases List.mem_cons.mp hb with z | hb
      · rw [z]; exact .inr n3'
      exact .inl hb
    have ntH : H t = none := by
      cases e : H t with
      | none => rfl
      | some o =>
        by_cases z : t ∈ mvOwn aMo aH aO a
        · obtain ⟨o, ho, _⟩ := hv3.ownAt t z
          rw [nt] at ho; cases ho
        · rw [k3 _ _ z (S2 _ _ e)] at nt; cases nt
    have tn : t ∉ v :: mvOwn aMo aH aO a := fun z => by
      rcases List.mem_cons.mp z with z | z
      · have := hv3.v_
        rw [← z, nt] at this; cases this
      · obtain ⟨o, ho, _⟩ := hv3.ownAt t z
        rw [nt] at ho; cases ho
    have m4 := hv4.mem
    -- what is remembered
    refine ⟨_, rfl, a.m, C_Memory, a.dx, _, .ref a.aR, rfl, m4.at_, X.cl_Memory, X.n_Memory_remembered, rfl, a.aR, _, rfl, m4.rem, fun pl npl => ?_⟩
    have ek : ((dk mR.s.rem).map fun kv => kV kv.1) = (mR.s.rem.map fun (n : Nat) => (n : Int)).map V.int := by
      unfold dk
      rw [List.map_map, List.map_map]
      rfl
    rw [ek]
    refine ⟨pl, _, rfl, SqL.of upd_same, fun ns p2 pm pw np2 => ?_⟩
    have en := sortI pm pw
    have en2 : ns.map V.int = natI (sortN mR.s.rem) := by
      rw [en, List.map_map]
      rfl
    rw [en2] at *
    have S5 : Same H4 (upd H4 pl (.lst ((mR.s.rem.map fun (n : Nat) => (n : Int)).map V.int))) := same_new npl
    have S6 := S5.trans (same_new (o := .lst (natI (sortN mR.s.rem))) np2)
    have f2 : upd (upd H4 pl (.lst ((mR.s.rem.map fun (n : Nat) => (n : Int)).map V.int))) p2 (.lst (natI (sortN mR.s.rem))) p2 = some (.lst (natI (sortN mR.s.rem))) := upd_same
    have nH4 := S5.free np2
    revert S6 f2
    generalize upd (upd H4 pl (.lst ((mR.s.rem.map fun (n : Nat) => (n : Int)).map V.int))) p2 (.lst (natI (sortN mR.s.rem))) = H6
    intro S6 f2
    have hv6 := hv4.same S6
    have p2n : p2 ∉ mvOwn aMo aH aO a := fun z => by
      obtain ⟨o, ho, _⟩ := hv4.ownAt _ z
      rw [nH4] at ho; cases ho
    refine ⟨p2, rfl, ⟨_, SqL.of f2⟩, for_list (xs := natI (sortN mR.s.rem)) (fun i σ H' => ∃ (mj : Mv) (o5 : Option V), σ = [some (.ref a.m), some (.ref t), some (.bl st), some (.ref v), none, o5] ∧ MvAt C_Moving C_Memory H' v dv aMo aH aO st (1 - s.half) a c sh mj ∧ KeptL (mvOwn aMo aH aO a) H6 H' ∧ foldO (leadM c st (1 - s.half)) mR ((sortN mR.s.rem).take i) = some mj ∧ foldO (leadM c st (1 - s.half)) mj ((sortN mR.s.rem).drop i) = some mF) ⟨mR, _, rfl, hv6, fun _ _ _ e => e, rfl, hF⟩ ?_ ?_ ?_⟩
    · rintro i σ H' _ ⟨mj, o5, _, _, k, _⟩
      exact SqL.of (k _ _ p2n f2)
    · rintro i xv σ H7 hi ⟨mj, o5, rfl, hv7, k7, f3, f4⟩
      unfold natI at hi
      rw [List.getElem?_map] at hi
      obtain ⟨p, ep, rfl⟩ := Option.map_eq_some_iff.mp hi
      obtain ⟨md, d1, d2, d3⟩ := foldO_go ep f3 f4
      unfold leadM at d1
      cases hw : mj.s.words[p]? with
      | none => rw [hw] at d1; cases d1
      | some wv =>
      rw [hw] at d1
      simp only at d1
      cases hl : ledM c st (1 - s.half) mj wv with
      | none => rw [hl] at d1; cases d1
      | some pr =>
      obtain ⟨m3, y⟩ := pr
      rw [hl] at d1
      simp only at d1
      split at d1
      case isFalse => cases d1
      rename_i hpl
      cases d1
      have hm7 := hv7.mem
      refine ⟨_, rfl, v, dv, _, rfl, hv7.v_, vF_no (by decide), _, rfl, a.m, C_Memory, a.dx, _, .ref a.aW, rfl, hm7.at_, X.cl_Memory, X.n_Memory_words, rfl, _, rfl, a.aW, _, p, .int wv, rfl, rfl, SqL.of hm7.words, atI_nat (by rw [List.getElem?_map, hw]; rfl), ?_⟩
      refine ⟨v, dv, aMo, aH, aO, st, 1 - s.half, wv, y, a, c, sh, mj, m3, rfl, hv7, hl, fun H8 hv8 k8 => ?_⟩
      have hm8 := hv8.mem
      refine ⟨_, rfl, a.m, C_Memory, a.dx, _, .ref a.aW, rfl, hm8.at_, X.cl_Memory, X.n_Memory_words, rfl, _, rfl, a.aW, _, p, p, rfl, rfl, hm8.words, ixN_nat (by rw [List.length_map]; exact hpl), ?_⟩
      have eW : (m3.s.words.map V.int).set p (V.int y) = (m3.s.words.set p y).map V.int := by rw [List.map_set]
      rw [eW]
      exact ⟨_, _, rfl, hv8.setW _, (k7.trans k8).trans (kept_upd (by simp [mvOwn, Ma.own])), d2, d3⟩
    rintro σ H7 ⟨mj, o5, rfl, hv7, k7, f3, f4⟩
    rw [show (natI (sortN mR.s.rem)).length = (sortN mR.s.rem).length by unfold natI; rw [List.length_map], List.drop_length] at f4
    cases f4
    -- all the rest, the end
    refine ⟨_, rfl, v, dv, _, rfl, hv7.v_, vF_no (by decide), v, dv, aMo, aH, aO, st, 1 - s.half, 500000, a, c, sh, mF, mS, rfl, hv7, hS, fun H8 hv8 k8 => ?_⟩
    refine ⟨_, rfl, v, dv, _, rfl, hv8.v_, vF_no (by decide), v, dv, aMo, aH, aO, st, 1 - s.half, a, c, sh, mS, s', rfl, hv8, hE, fun a' H9 m9 ⟨ga, gb, gc⟩ => ?_⟩
    have kAll : KeptL (mvOwn aMo aH aO a) H2 H8 := ((k4.trans (KeptL.of_same S6)).trans k7).trans k8
    have K9 : KeptL a.own H H9 := fun b o nb e => gb _ _ nb (kAll _ _ (fun z => by
      rcases own0 b z with z | z
      · exact nb z
      · rw [z] at e; cases e) (S2 _ _ e))
    refine ⟨_, rfl, q a' t H9 m9 ⟨ga, K9, fun b hb => ?_⟩ ntH (gb _ _ (fun z => tn (by simp [mvOwn, z])) (k8 _ _ (fun z => tn (List.mem_cons_of_mem _ z)) (k7 _ _ (fun z => tn (List.mem_cons_of_mem _ z)) (S6 _ _ ft))))⟩
    rcases gc b hb with z | z
    · exact .inl z
    · by_cases hn : b ∈ mvOwn aMo aH aO a
      · exact own0 b hn
      · refine .inr ?_
        cases e : H b with
        | none => rfl
        | some o => rw [kAll _ _ hn (S2 _ _ e)] at z; cases z
end
end PH

/-! A heap's deeds. -/
namespace PH
open PySem PySem.Spec PyProof.Rows L2 KA KI KK PV T ET
theorem MemAt.setE {CM : Addr} {H : Hp} {a : Ma} {c : Sz} {sh : List (List Bool)} {s : Ms} (h : MemAt CM H a c sh s) (es : List Int) : MemAt CM (upd H a.aE (.lst (es.map V.int))) a c sh { s with ended := es } := by
  have nl := h.nl
  simp only [List.nodup_cons, List.mem_cons, List.not_mem_nil, or_false, not_or, not_false_eq_true, List.nodup_nil, and_true] at nl
  obtain ⟨⟨n1, n2, n3, n4⟩, ⟨n5, n6, n7⟩, ⟨n8, n9⟩, n10⟩ := nl
  obtain ⟨ls, hL, ll, he⟩ := h.links
  have ne : ∀ {b : Addr} {o : HO}, H b = some o → (∀ k, o ≠ .lst k) → upd H a.aE (.lst (es.map V.int)) b = some o := fun e n => by
    rw [upd_ne (fun z => by rw [z, h.ended] at e; cases e; exact n _ rfl)]
    exact e
  have tt : TupSame H (upd H a.aE (.lst (es.map V.int))) := fun b xs e => ne e (by intro k z; cases z)
  refine ⟨ne h.at_ (by intro k z; cases z), h.shp.same tt, tt _ _ h.fi, ⟨ls, ?_, ll, fun i r b e1 e2 => tt _ _ (he i r b e1 e2)⟩, ?_, ?_, ne h.young (by intro k z; cases z), ne h.old (by intro k z; cases z), ne h.rem (by intro k z; cases z), ?_, upd_same, h.nl, h.nd⟩
  · rw [upd_ne n4]; exact hL
  · rw [upd_ne n7]; exact h.words
  · rw [upd_ne n9]; exact h.nexts
  · rw [upd_ne n10]; exact h.grey
theorem GoneTo.refl {H : Hp} {a : Ma} : GoneTo H H a a := ⟨rfl, fun _ _ _ e => e, fun _ h => .inl h⟩
theorem GoneTo.trans {H H1 H2 : Hp} {a a1 a2 : Ma} (x : GoneTo H H1 a a1) (y : GoneTo H1 H2 a1 a2) : GoneTo H H2 a a2 := by
  obtain ⟨x1, x2, x3⟩ := x
  obtain ⟨y1, y2, y3⟩ := y
  have no : ∀ {b : Addr}, b ∉ a.own → H b ≠ none → b ∉ a1.own := fun n h z => by
    rcases x3 _ z with z | z
    · exact n z
    · exact h z
  refine ⟨y1.trans x1, fun b o nb e => y2 _ _ (no nb (by rw [e]; intro z; cases z)) (x2 _ _ nb e), fun b hb => ?_⟩
  rcases y3 b hb with z | z
  · exact x3 b z
  · by_cases hn : b ∈ a.own
    · exact .inl hn
    · refine .inr ?_
      cases e : H b with
      | none => rfl
      | some o => rw [x2 _ _ hn e] at z; cases z
theorem GoneTo.same {H H1 H2 : Hp} {a a1 : Ma} (x : GoneTo H H1 a a1) (y : Same H1 H2) : GoneTo H H2 a a1 := ⟨x.1, x.2.1.trans (KeptL.of_same y), x.2.2⟩
theorem GoneTo.of_kept {H H1 : Hp} {a : Ma} (k : KeptL a.own H H1) : GoneTo H H1 a a := ⟨rfl, k, fun _ h => .inl h⟩
theorem GoneTo.pre {H H0 H1 : Hp} {a a1 : Ma} (y : Same H H0) (x : GoneTo H0 H1 a a1) : GoneTo H H1 a a1 := ⟨x.1, (KeptL.of_same y).trans x.2.1, fun b hb => (x.2.2 b hb).imp id fun z => y.free z⟩
theorem HpAt.gone {CH CM : Addr} {H H' : Hp} {h : Addr} {a a' : Ma} {c : Sz} {sh : List (List Bool)} {s s' : Ms} (x : HpAt CH CM H h a c sh s) (g : GoneTo H H' a a') (m : MemAt CM H' a' c sh s') : HpAt CH CM H' h a' c sh s' := by
  obtain ⟨dx, hd⟩ := x.at_
  refine ⟨⟨dx, ?_⟩, m⟩
  have := g.2.1 _ _ x.notown hd
  rw [this]
  simp [HpF, g.1]
section
variable {P : Program} {w : World} {K : PySem.W.Frag} {mg : Str → Option Value} {base : Heap} {C_Moving C_Memory C_Heap : Addr}
def spHmv (CH CM : Addr) : Sp := fun vs H Q _ => ∃ (h r : Addr) (rs rs' : List Int) (a : Ma) (c : Sz) (sh : List (List Bool)) (s s' : Ms), vs = [.ref h, .ref r] ∧ HpAt CH CM H h a c sh s ∧ H r = some (.tup (rs.map V.int)) ∧ rs.length ≤ 40000 ∧ minorM c sh s rs = some (s', rs') ∧
  ∀ (a' : Ma) (b : Addr) (H' : Hp), HpAt CH CM H' h a' c sh s' → GoneTo H H' a a' → H b = none → H' b = some (.tup (rs'.map V.int)) → Q (.ref b) H'
theorem ok_hmv {f : Addr} {fd : FuncData} (G : Md K C_Heap "moved_young" "Heap.moved_young" s_Heap_moved_young ["self", "roots"] f fd) (X : Lw K mg C_Moving C_Memory C_Heap) : FnOk P w K mg base CX0 8 f fd ["self", "roots"] (spHmv C_Heap C_Memory) := by
  obtain ⟨f_move_young, d_move_young, G_move_young⟩ := X.f_move_young
  have H_move_young : FnOk P w K mg base CX0 7 f_move_young d_move_young ["memory", "roots", "is_settling"] (spMy C_Memory) := ok_my G_move_young X
  refine G.F.ok sc_Heap_moved_young (fun vs H Q E h => ?_) (fun cdv A outer s H vs Q E hr h => ?_)
  · obtain ⟨h, r, rs, rs', a, c, sh, s, s', rfl, _⟩ := h; rfl
  · obtain ⟨h, r, rs, rs', a, c, sh, s, s', rfl, hh, hr0, hrl, hx, q⟩ := h
    refine ⟨_, (pss_cons (ps_augS (pe_fld (pe_fld (pv 0) rfl) rfl) pe_int KK.get_list pe_int ip_add set_list)
      (pss_one (ps_ret (pe_call H_move_young hr (by rfl) G_move_young.g G_move_young.F.kp G_move_young.b .nil pass0 (pa_cons (pe_fld (pv 0) rfl) (pa_cons (pv 1) (pa_cons pe_bl pa_nil))))))), ?_⟩
    unfold minorM at hx
    split at hx
    case isFalse => cases hx
    rename_i hs2
    obtain ⟨dx, hd⟩ := hh.at_
    have hm := hh.mem
    cases hE : endedM s 0 with
    | none => rw [hE] at hx; cases hx
    | some s1 =>
    rw [hE] at hx
    have hx : moveYoungM c sh false s1 rs = some (s', rs') := hx
    unfold endedM at hE
    cases he : s.ended[0]? with
    | none => rw [he] at hE; cases hE
    | some e0 =>
    rw [he] at hE
    cases hE
    have hel := (List.getElem?_eq_some_iff.mp he).1
    refine ⟨_, rfl, h, C_Heap, dx, HpF a, .ref a.m, rfl, hd, X.cl_Heap, X.n_Heap_memory, rfl, a.m, C_Memory, a.dx, MemF a c s, .ref a.aE, rfl, hm.at_, X.cl_Memory, X.n_Memory_ended, rfl, a.aE, _, 0, .int e0, rfl, rfl, SqL.of hm.ended, atI_nat (j := 0) (by rw [List.getElem?_map, he]; rfl), _, _, rfl, rfl, a.aE, _, 0, 0, rfl, rfl, hm.ended, ixN_nat (k := 0) (by rw [List.length_map]; exact hel), ?_⟩
    have eW : (s.ended.map V.int).set 0 (V.int (e0 + 1)) = (s.ended.set 0 (e0 + 1)).map V.int := by rw [List.map_set]
    rw [eW]
    have m1 := hm.setE (s.ended.set 0 (e0 + 1))
    have k1 : KeptL a.own H (upd H a.aE (.lst ((s.ended.set 0 (e0 + 1)).map V.int))) := kept_upd (by simp [Ma.own])
    have hr1 := k1 _ _ (fun z => by
      obtain ⟨o, ho, h2⟩ := hm.ownAt r z
      rw [hr0] at ho; cases ho; exact h2 _ rfl) hr0
    have hd1 := k1 _ _ hh.notown hd
    have own1 := hm.ownAt
    revert m1 k1 hr1 hd1
    generalize upd H a.aE (.lst ((s.ended.set 0 (e0 + 1)).map V.int)) = H1
    intro m1 k1 hr1 hd1
    refine ⟨_, rfl, h, C_Heap, dx, HpF a, .ref a.m, rfl, hd1, X.cl_Heap, X.n_Heap_memory, rfl, _, rfl, r, false, rs, rs', a, c, sh, _, s', rfl, hr1, hrl, m1, hs2, hx, fun a' b H2 m2 g2 nb fb => ?_⟩
    have G : GoneTo H H2 a a' := (GoneTo.of_kept k1).trans g2
    refine q a' b H2 (hh.gone G m2) G ?_ fb
    cases e : H b with
    | none => rfl
    | some o =>
      by_cases z : b ∈ a.own
      · have hb := m1.ownAt b z
        obtain ⟨o, ho, _⟩ := hb
        rw [nb] at ho; cases ho
      · rw [k1 _ _ z e] at nb; cases nb
def spHminor (CH CM : Addr) : Sp := fun vs H Q _ => ∃ (h r : Addr) (rs rs' : List Int) (a : Ma) (c : Sz) (sh : List (List Bool)) (s s' : Ms), vs = [.ref h, .ref r] ∧ HpAt CH CM H h a c sh s ∧ H r = some (.tup (rs.map V.int)) ∧ rs.length ≤ 40000 ∧ rootsIn s rs ∧ minorM c sh s rs = some (s', rs') ∧
  ∀ (a' : Ma) (b : Addr) (H' : Hp), HpAt CH CM H' h a' c sh s' → GoneTo H H' a a' → H b = none → H' b = some (.tup (rs'.map V.int)) → Q (.ref b) H'
theorem ok_hminor {f : Addr} {fd : FuncData} (G : Md K C_Heap "minor" "Heap.minor" s_Heap_minor ["self", "roots"] f fd) (X : Lw K mg C_Moving C_Memory C_Heap) : FnOk P w K mg base CX0 9 f fd ["self", "roots"] (spHminor C_Heap C_Memory) := by
  obtain ⟨f_Heap_moved_young, d_Heap_moved_young, M_Heap_moved_young⟩ := X.m_Heap_moved_young
  have H_Heap_moved_young : FnOk P w K mg base CX0 8 f_Heap_moved_young d_Heap_moved_young ["self", "roots"] (spHmv C_Heap C_Memory) := ok_hmv M_Heap_moved_young X
  obtain ⟨f_Heap_look_at, d_Heap_look_at, M_Heap_look_at⟩ := X.m_Heap_look_at
  have H_Heap_look_at : FnOk P w K mg base CX0 4 f_Heap_look_at d_Heap_look_at ["self", "roots"] (spHla C_Heap C_Memory) := ok_hla M_Heap_look_at X
  refine G.F.ok sc_Heap_minor (fun vs H Q E h => ?_) (fun cdv A outer s H vs Q E hr h => ?_)
  · obtain ⟨h, r, rs, rs', a, c, sh, s, s', rfl, _⟩ := h; rfl
  · obtain ⟨h, r, rs, rs', a, c, sh, s, s', rfl, hh, hr0, hrl, hri, hx, q⟩ := h
    refine ⟨_, (pss_cons (ps_expr (pe_meth (pv 0) X.cl_Heap M_Heap_look_at.m H_Heap_look_at (hr.mono (by decide)) M_Heap_look_at.b .nil pass0 (pa_cons (pv 1) pa_nil)))
      (pss_one (ps_ret (pe_meth (pv 0) X.cl_Heap M_Heap_moved_young.m H_Heap_moved_young hr M_Heap_moved_young.b .nil pass0 (pa_cons (pv 1) pa_nil))))), ?_⟩
    obtain ⟨dx, hd⟩ := hh.at_
    exact ⟨_, rfl, h, dx, HpF a, rfl, hd, hpF_no (by decide), _, rfl, h, r, rs, a, c, sh, s, rfl, hh, hr0, hrl, hri, _, rfl, h, dx, HpF a, rfl, hd, hpF_no (by decide), _, rfl, h, r, rs, rs', a, c, sh, s, s', rfl, hh, hr0, hrl, hx, q⟩
def spHsettle (CH CM : Addr) : Sp := fun vs H Q _ => ∃ (h r : Addr) (rs rs' : List Int) (a : Ma) (c : Sz) (sh : List (List Bool)) (s s' : Ms), vs = [.ref h, .ref r] ∧ HpAt CH CM H h a c sh s ∧ H r = some (.tup (rs.map V.int)) ∧ rs.length ≤ 40000 ∧ rootsIn s rs ∧ settleM c sh s rs = some (s', rs') ∧
  ∀ (a' : Ma) (b : Addr) (H' : Hp), HpAt CH CM H' h a' c sh s' → GoneTo H H' a a' → H b = none → H' b = some (.tup (rs'.map V.int)) → Q (.ref b) H'
end
end PH

/-! What a heap makes, holds, tells. -/
namespace PH
open PySem PySem.Spec PyProof.Rows L2 KA KI KK PV T ET
section
variable {P : Program} {w : World} {K : PySem.W.Frag} {mg : Str → Option Value} {base : Heap} {C_Moving C_Memory C_Heap : Addr}
def spIsl : Sp := fun vs H Q _ => ∃ (v : V) (k : Int) (i : Nat) (sh : List (List Bool)), vs = [v, .int k, .int i] ∧ Dv H v (shPy sh) ∧ linkB sh k i = true ∧ Q (.bl (flag sh k i)) H
theorem ok_isl {f : Addr} {fd : FuncData} (G : Gd K mg "is_link" s_is_link ["shapes", "kind", "slot"] f fd) (X : Lw K mg C_Moving C_Memory C_Heap) : FnOk P w K mg base CX0 1 f fd ["shapes", "kind", "slot"] (spIsl) := by
  obtain ⟨_, m_LINK_ROW⟩ := X.c_LINK_ROW
  refine G.F.ok sc_is_link (fun vs H Q E h => ?_) (fun cdv A outer s H vs Q E hr h => ?_)
  · obtain ⟨v, k, i, sh, rfl, _⟩ := h; rfl
  · obtain ⟨v, k, i, sh, rfl, hv, hi, q⟩ := h
    obtain ⟨a, vs, rfl, ha, hl, he⟩ := shPy_at hv
    refine ⟨_, (pss_one (ps_ret (pe_ifExp (pt_cmpR op_ge (pv 1) pe_int (nomark _)) (pe_ix ix_tup (pe_ix ix_tup (pv 0) (pv 1) (fun _ _ => rfl)) (pv 2) (fun _ _ => rfl)) (pe_cmpR op_eq (pv 1) (pe_glob (v := .int (-2)) (by rfl) m_LINK_ROW ⟨_, rfl⟩) (nomark _))))), ?_⟩
    unfold linkB at hi
    refine ⟨_, rfl, k, 0, rfl, rfl, _, rfl, ite2 (fun e => ?_) (fun e => ?_)⟩
    · have e1 : 0 ≤ k := of_decide_eq_true e
      rw [if_pos e1] at hi
      cases er : sh[k.toNat]? with
      | none => rw [er] at hi; cases hi
      | some r =>
      rw [er] at hi
      have hi : i < r.length := of_decide_eq_true hi
      obtain ⟨b, e2, hb⟩ := he _ r er
      obtain ⟨j, rfl⟩ : ∃ j : Nat, k = j := ⟨k.toNat, by omega⟩
      refine ⟨_, rfl, .int j, rfl, a, _, j, .ref b, rfl, rfl, SqT.of ha, atI_nat e2, .int i, rfl, b, _, i, .bl r[i], rfl, rfl, SqT.of hb, atI_nat (by simp [hi]), ?_⟩
      have : flag sh (j : Int) i = r[i] := by
        unfold flag
        rw [if_neg (by omega), er]
        simp [hi]
      rw [← this]
      exact q
    · have e1 : ¬ 0 ≤ k := fun z => e (decide_eq_true z)
      refine ⟨_, rfl, rfl, ?_⟩
      have : flag sh k i = decide (V.int k = V.int (-2)) := by
        unfold flag
        rw [if_pos (by omega)]
        simp
      rw [this] at q
      exact q
def spHmk (CH CM : Addr) : Sp := fun vs H Q _ => ∃ (h r : Addr) (k : Int) (n y : Nat) (rs rs' : List Int) (a : Ma) (c : Sz) (sh : List (List Bool)) (s s' : Ms), vs = [.ref h, .int k, .int n, .ref r] ∧ HpAt CH CM H h a c sh s ∧ H r = some (.tup (rs.map V.int)) ∧ rs.length ≤ 40000 ∧ rootsIn s rs ∧
  -3 ≤ k ∧ k < sh.length ∧ sizeOk sh k n ∧ makeM c sh s k n rs = some (s', y, rs') ∧
  ∀ (a' : Ma) (b r' : Addr) (H' : Hp), HpAt CH CM H' h a' c sh s' → GoneTo H H' a a' → H' r' = some (.tup (rs'.map V.int)) → H' b = some (.tup [.int (y : Nat), .ref r']) → Q (.ref b) H'
theorem ok_hmk {f : Addr} {fd : FuncData} (G : Md K C_Heap "make" "Heap.make" s_Heap_make ["self", "kind", "slots", "roots"] f fd) (X : Lw K mg C_Moving C_Memory C_Heap) : FnOk P w K mg base CX0 9 f fd ["self", "kind", "slots", "roots"] (spHmk C_Heap C_Memory) := by
  obtain ⟨f_Memory_make, d_Memory_make, M_Memory_make⟩ := X.m_Memory_make
  have H_Memory_make : FnOk P w K mg base CX0 2 f_Memory_make d_Memory_make ["self", "kind", "slots"] (spMmake C_Memory) := ok_mmake M_Memory_make X
  obtain ⟨f_Heap_has_room, d_Heap_has_room, M_Heap_has_room⟩ := X.m_Heap_has_room
  have H_Heap_has_room : FnOk P w K mg base CX0 2 f_Heap_has_room d_Heap_has_room ["self", "slots"] (spHroom C_Heap C_Memory) := ok_hroom M_Heap_has_room X
  obtain ⟨f_Heap_moved_young, d_Heap_moved_young, M_Heap_moved_young⟩ := X.m_Heap_moved_young
  have H_Heap_moved_young : FnOk P w K mg base CX0 8 f_Heap_moved_young d_Heap_moved_young ["self", "roots"] (spHmv C_Heap C_Memory) := ok_hmv M_Heap_moved_young X
  obtain ⟨f_Heap_look_at, d_Heap_look_at, M_Heap_look_at⟩ := X.m_Heap_look_at
  have H_Heap_look_at : FnOk P w K mg base CX0 4 f_Heap_look_at d_Heap_look_at ["self", "roots"] (spHla C_Heap C_Memory) := ok_hla M_Heap_look_at X
  obtain ⟨f_look_at_size, d_look_at_size, G_look_at_size⟩ := X.f_look_at_size
  have H_look_at_size : FnOk P w K mg base CX0 2 f_look_at_size d_look_at_size ["shapes", "kind", "slots"] (spLaz) := ok_laz G_look_at_size X
  obtain ⟨f_look_at_kind, d_look_at_kind, G_look_at_kind⟩ := X.f_look_at_kind
  have H_look_at_kind : FnOk P w K mg base CX0 3 f_look_at_kind d_look_at_kind ["shapes", "kind"] (spLak) := ok_lak G_look_at_kind X
  refine G.F.ok sc_Heap_make (fun vs H Q E h => ?_) (fun cdv A outer s H vs Q E hr h => ?_)
  · obtain ⟨hp, r, k, n, y, rs, rs', a, c, sh, s, s', rfl, _⟩ := h; rfl
  · obtain ⟨hp, r, k, n, y, rs, rs', a, c, sh, s, s', rfl, hh, hr0, hrl, hri, k1, k2, hsz, hx, q⟩ := h
    obtain ⟨dx, hd⟩ := hh.at_
    have hm := hh.mem
    refine ⟨_, (pss_cons (ps_expr (pe_call H_look_at_kind (hr.mono (by decide)) (by rfl) G_look_at_kind.g G_look_at_kind.F.kp G_look_at_kind.b .nil pass0 (pa_cons (pe_fld (pe_fld (pv 0) rfl) rfl) (pa_cons (pv 1) pa_nil))))
      (pss_cons (ps_expr (pe_call H_look_at_size (hr.mono (by decide)) (by rfl) G_look_at_size.g G_look_at_size.F.kp G_look_at_size.b .nil pass0 (pa_cons (pe_fld (pe_fld (pv 0) rfl) rfl) (pa_cons (pv 1) (pa_cons (pv 2) pa_nil)))))
      (pss_cons (ps_expr (pe_meth (pv 0) X.cl_Heap M_Heap_look_at.m H_Heap_look_at (hr.mono (by decide)) M_Heap_look_at.b .nil pass0 (pa_cons (pv 3) pa_nil)))
      (C8.pss_cut (ps_if (pt_not (pt_val (pe_meth (pv 0) X.cl_Heap M_Heap_has_room.m H_Heap_has_room (hr.mono (by decide)) M_Heap_has_room.b .nil pass0 (pa_cons (pv 2) pa_nil))))
        (pss_one (ps_set (i := 3) sc_Heap_make.nd rfl (Or.inl rfl) (pe_meth (pv 0) X.cl_Heap M_Heap_moved_young.m H_Heap_moved_young hr M_Heap_moved_young.b .nil pass0 (pa_cons (pv 3) pa_nil)))) pss_nil)
      (pss_one (ps_ret (pe_tup (pa_cons (pe_meth (pe_fld (pv 0) rfl) X.cl_Memory M_Memory_make.m H_Memory_make (hr.mono (by decide)) M_Memory_make.b .nil pass0 (pa_cons (pv 1) (pa_cons (pv 2) pa_nil))) (pa_cons (pv 3) pa_nil))))))))), ?_⟩
    refine ⟨_, rfl, hp, C_Heap, dx, HpF a, .ref a.m, rfl, hd, X.cl_Heap, X.n_Heap_memory, rfl, a.m, C_Memory, a.dx, MemF a c s, .ref a.aSh, rfl, hm.at_, X.cl_Memory, X.n_Memory_shapes, rfl, _, rfl, .ref a.aSh, k, sh, rfl, hm.shp, k1, k2, ?_⟩
    refine ⟨_, rfl, hp, C_Heap, dx, HpF a, .ref a.m, rfl, hd, X.cl_Heap, X.n_Heap_memory, rfl, a.m, C_Memory, a.dx, MemF a c s, .ref a.aSh, rfl, hm.at_, X.cl_Memory, X.n_Memory_shapes, rfl, _, rfl, _, rfl, .ref a.aSh, k, n, sh, rfl, hm.shp, hsz, ?_⟩
    refine ⟨_, rfl, hp, dx, HpF a, rfl, hd, hpF_no (by decide), _, rfl, hp, r, rs, a, c, sh, s, rfl, hh, hr0, hrl, hri, ?_⟩
    unfold makeM at hx
    cases hR : roomM c s n with
    | none => rw [hR] at hx; cases hx
    | some rb =>
    rw [hR] at hx
    have hR0 := hR
    unfold roomM at hR
    cases hn0 : s.nexts[0]? with
    | none => rw [hn0] at hR; cases hR
    | some x0 =>
    rw [hn0] at hR
    have hrb : (decide (c.2.2.1 < 2 + n) || decide (x0 + (2 + n) ≤ c.1 + 1)) = rb := Option.some.inj hR
    refine ⟨fun σ' H' => ∃ (a1 : Ma) (s1 : Ms) (r' : Addr), σ' = [some (.ref hp), some (.int k), some (.int n), some (.ref r')] ∧ HpAt C_Heap C_Memory H' hp a1 c sh s1 ∧ GoneTo H H' a a1 ∧ H' r' = some (.tup (rs'.map V.int)) ∧ layM c s1 k n = some (s', y), ?_, ?_⟩
    · refine ⟨_, rfl, hp, dx, HpF a, rfl, hd, hpF_no (by decide), _, rfl, hp, n, x0, a, c, sh, s, rfl, hh, hn0, _, rfl, ?_⟩
      rw [hrb]
      cases rb with
      | true =>
        have hx : (layM c s k n).map (fun p => (p.1, p.2, rs)) = some (s', y, rs') := hx
        cases hL : layM c s k n with
        | none => rw [hL] at hx; cases hx
        | some p =>
        rw [hL] at hx
        cases hx
        exact iteF ⟨a, s, r, rfl, hh, GoneTo.refl, hr0, hL⟩
      | false =>
        have hx : (minorM c sh s rs).bind (fun p => (layM c p.1 k n).map fun q => (q.1, q.2, p.2)) = some (s', y, rs') := hx
        cases hM : minorM c sh s rs with
        | none => rw [hM] at hx; cases hx
        | some p =>
        obtain ⟨s1, rs1⟩ := p
        rw [hM] at hx
        have hx : (layM c s1 k n).map (fun q => (q.1, q.2, rs1)) = some (s', y, rs') := hx
        cases hL : layM c s1 k n with
        | none => rw [hL] at hx; cases hx
        | some p =>
        rw [hL] at hx
        cases hx
        exact iteT ⟨_, rfl, hp, dx, HpF a, rfl, hd, hpF_no (by decide), _, rfl, hp, r, rs, rs', a, c, sh, s, s1, rfl, hh, hr0, hrl, hM, fun a1 b H1 h1 g1 nb fb => ⟨a1, s1, b, rfl, h1, g1, fb, hL⟩⟩
    rintro _ H1 ⟨a1, s1, r', rfl, h1, g1, fr, hL⟩
    obtain ⟨dx1, hd1⟩ := h1.at_
    have m1 := h1.mem
    refine ⟨_, rfl, hp, C_Heap, dx1, HpF a1, .ref a1.m, rfl, hd1, X.cl_Heap, X.n_Heap_memory, rfl, a1.m, a1.dx, MemF a1 c s1, rfl, m1.at_, memF_no (by decide), _, rfl, _, rfl, ?_⟩
    have fin : ∀ (H2 : Hp), MemAt C_Memory H2 a1 c sh s' → KeptL a1.own H1 H2 → ∀ b, H2 b = none → Q (.ref b) (upd H2 b (.tup [.int (y : Int), .ref r'])) := fun H2 mH kH b nb => by
      have sb := same_new (o := .tup [.int (y : Int), .ref r']) nb
      have G : GoneTo H (upd H2 b (.tup [.int (y : Int), .ref r'])) a a1 := (g1.trans (GoneTo.of_kept kH)).same sb
      refine q a1 b r' _ (hh.gone G (mH.same sb)) G (sb _ _ (kH _ _ (fun z => ?_) fr)) upd_same
      obtain ⟨o, ho, h2⟩ := m1.ownAt r' z
      rw [fr] at ho; cases ho; exact h2 _ rfl
    unfold layM at hL
    split at hL
    case isFalse => cases hL
    rename_i hok
    obtain ⟨⟨b1, b2, b3, b4, b5⟩, b6, b7, hno⟩ := hok
    by_cases hg : c.2.2.1 < 2 + n
    · rw [if_pos hg] at hL
      cases hL
      exact ⟨a1, k, n, 0, c, sh, s1, rfl, m1, b6, b7, by omega, by omega, by omega, hno, .inl hg, fun _ H2 mH kH => ⟨_, rfl, by show 2 ≤ sizeLine; decide, fun b nb => fin H2 mH kH b nb⟩, fun z => absurd hg z⟩
    · rw [if_neg hg] at hL
      cases hn1 : s1.nexts[0]? with
      | none => rw [hn1] at hL; cases hL
      | some x1 =>
      rw [hn1] at hL
      simp only at hL
      split at hL
      case isFalse => cases hL
      rename_i hfit
      cases hL
      exact ⟨a1, k, n, y, c, sh, s1, rfl, m1, b6, b7, by omega, by omega, by omega, hno, .inr ⟨hn1, hfit.1, hfit.2⟩, fun z => absurd z hg, fun _ H2 mH kH => ⟨_, rfl, by show 2 ≤ sizeLine; decide, fun b nb => fin H2 mH kH b nb⟩⟩
def spHlas (CH CM : Addr) : Sp := fun vs H Q _ => ∃ (h : Addr) (x j : Nat) (hw : Int) (a : Ma) (c : Sz) (sh : List (List Bool)) (s : Ms), vs = [.ref h, .int x, .int j] ∧ HpAt CH CM H h a c sh s ∧ slotM s x j = some hw ∧ Q .non H
theorem ok_hlas {f : Addr} {fd : FuncData} (G : Md K C_Heap "look_at_slot" "Heap.look_at_slot" s_Heap_look_at_slot ["self", "address", "slot"] f fd) (X : Lw K mg C_Moving C_Memory C_Heap) : FnOk P w K mg base CX0 3 f fd ["self", "address", "slot"] (spHlas C_Heap C_Memory) := by
  obtain ⟨f_is_between, d_is_between, G_is_between⟩ := X.f_is_between
  have H_is_between : FnOk P w K mg base CX0 2 f_is_between d_is_between ["thing", "least", "greatest"] (spBtw) := ok_btw G_is_between X
  obtain ⟨f_Memory_slots, d_Memory_slots, M_Memory_slots⟩ := X.m_Memory_slots
  have H_Memory_slots : FnOk P w K mg base CX0 1 f_Memory_slots d_Memory_slots ["self", "address"] (spMslots C_Memory) := ok_mslots M_Memory_slots X
  obtain ⟨f_Heap_look_at_address, d_Heap_look_at_address, M_Heap_look_at_address⟩ := X.m_Heap_look_at_address
  have H_Heap_look_at_address : FnOk P w K mg base CX0 2 f_Heap_look_at_address d_Heap_look_at_address ["self", "address"] (spHlaa C_Heap C_Memory) := ok_hlaa M_Heap_look_at_address X
  refine G.F.ok sc_Heap_look_at_slot (fun vs H Q E h => ?_) (fun cdv A outer s H vs Q E hr h => ?_)
  · obtain ⟨hp, x, j, hw, a, c, sh, s, rfl, _⟩ := h; rfl
  · obtain ⟨hp, x, j, hw, a, c, sh, s, rfl, hh, hx, q⟩ := h
    obtain ⟨dx, hd⟩ := hh.at_
    refine ⟨_, (pss_cons (ps_expr (pe_meth (pv 0) X.cl_Heap M_Heap_look_at_address.m H_Heap_look_at_address hr M_Heap_look_at_address.b .nil pass0 (pa_cons (pv 1) pa_nil)))
      (pss_one (ps_if (pt_not (pt_val (pe_call H_is_between hr (by rfl) G_is_between.g G_is_between.F.kp G_is_between.b .nil pass0 (pa_cons (pv 2) (pa_cons pe_int (pa_cons (pe_op op_sub (pe_meth (pe_fld (pv 0) rfl) X.cl_Memory M_Memory_slots.m H_Memory_slots (hr.mono (by decide)) M_Memory_slots.b .nil pass0 (pa_cons (pv 1) pa_nil)) pe_int) pa_nil))))))
        pss_never pss_nil))), ?_⟩
    unfold slotM at hx
    cases e1 : s.words[x]? with
    | none => rw [e1] at hx; cases hx
    | some h =>
    cases e2 : s.words[x + 1]? with
    | none => rw [e1, e2] at hx; cases hx
    | some n =>
    rw [e1, e2] at hx
    simp only at hx
    split at hx
    case isFalse => cases hx
    rename_i hg
    refine ⟨_, rfl, hp, dx, HpF a, rfl, hd, hpF_no (by decide), _, rfl, hp, x, a, c, sh, s, rfl, hh, hg.1, ?_⟩
    refine ⟨_, rfl, _, rfl, hp, C_Heap, dx, HpF a, .ref a.m, rfl, hd, X.cl_Heap, X.n_Heap_memory, rfl, a.m, a.dx, MemF a c s, rfl, hh.mem.at_, memF_no (by decide), _, rfl, a, x, n, c, sh, s, rfl, hh.mem, e2, _, _, rfl, rfl, (j : Int), 0, n - 1, rfl, _, rfl, ?_⟩
    rw [decide_eq_true (show (0 : Int) ≤ (j : Int) ∧ (j : Int) ≤ n - 1 by have := hg.2; omega)]
    exact iteF q
def spHget (CH CM : Addr) : Sp := fun vs H Q _ => ∃ (h : Addr) (x j : Nat) (v : Int) (a : Ma) (c : Sz) (sh : List (List Bool)) (s : Ms), vs = [.ref h, .int x, .int j] ∧ HpAt CH CM H h a c sh s ∧ getM s x j = some v ∧ Q (.int v) H
theorem ok_hget {f : Addr} {fd : FuncData} (G : Md K C_Heap "get" "Heap.get" s_Heap_get ["self", "address", "slot"] f fd) (X : Lw K mg C_Moving C_Memory C_Heap) : FnOk P w K mg base CX0 4 f fd ["self", "address", "slot"] (spHget C_Heap C_Memory) := by
  obtain ⟨_, m_HEAD_WORDS⟩ := X.c_HEAD_WORDS
  obtain ⟨f_Heap_look_at_slot, d_Heap_look_at_slot, M_Heap_look_at_slot⟩ := X.m_Heap_look_at_slot
  have H_Heap_look_at_slot : FnOk P w K mg base CX0 3 f_Heap_look_at_slot d_Heap_look_at_slot ["self", "address", "slot"] (spHlas C_Heap C_Memory) := ok_hlas M_Heap_look_at_slot X
  refine G.F.ok sc_Heap_get (fun vs H Q E h => ?_) (fun cdv A outer s H vs Q E hr h => ?_)
  · obtain ⟨hp, x, j, v, a, c, sh, s, rfl, _⟩ := h; rfl
  · obtain ⟨hp, x, j, v, a, c, sh, s, rfl, hh, hx, q⟩ := h
    obtain ⟨dx, hd⟩ := hh.at_
    refine ⟨_, (pss_cons (ps_expr (pe_meth (pv 0) X.cl_Heap M_Heap_look_at_slot.m H_Heap_look_at_slot hr M_Heap_look_at_slot.b .nil pass0 (pa_cons (pv 1) (pa_cons (pv 2) pa_nil))))
      (pss_one (ps_ret (pe_ix ix_list (pe_fld (pe_fld (pv 0) rfl) rfl) (pe_op op_add (pe_op op_add (pv 1) (pe_glob (v := .int (2)) (by rfl) m_HEAD_WORDS ⟨_, rfl⟩)) (pv 2)) (fun _ _ => rfl))))), ?_⟩
    unfold getM at hx
    cases e1 : slotM s x j with
    | none => rw [e1] at hx; cases hx
    | some hw =>
    rw [e1] at hx
    have hx : s.words[x + 2 + j]? = some v := hx
    refine ⟨_, rfl, hp, dx, HpF a, rfl, hd, hpF_no (by decide), _, rfl, _, rfl, hp, x, j, hw, a, c, sh, s, rfl, hh, e1, ?_⟩
    exact ⟨_, rfl, hp, C_Heap, dx, HpF a, .ref a.m, rfl, hd, X.cl_Heap, X.n_Heap_memory, rfl, a.m, C_Memory, a.dx, MemF a c s, .ref a.aW, rfl, hh.mem.at_, X.cl_Memory, X.n_Memory_words, rfl, _, rfl, _, _, rfl, rfl, _, rfl, _, _, rfl, rfl, a.aW, _, ((x + 2 + j : Nat) : Int), .int v, rfl, rfl, SqL.of hh.mem.words, atI_nat (by rw [List.getElem?_map, hx]; rfl), q⟩
def spHput (CH CM : Addr) : Sp := fun vs H Q _ => ∃ (h : Addr) (x j : Nat) (v : Int) (a : Ma) (c : Sz) (sh : List (List Bool)) (s s' : Ms), vs = [.ref h, .int x, .int j, .int v] ∧ HpAt CH CM H h a c sh s ∧ putM c sh s x j v = some s' ∧ (∀ H', HpAt CH CM H' h a c sh s' → KeptL a.own H H' → Q .non H')
theorem ok_hput {f : Addr} {fd : FuncData} (G : Md K C_Heap "put" "Heap.put" s_Heap_put ["self", "address", "slot", "value"] f fd) (X : Lw K mg C_Moving C_Memory C_Heap) : FnOk P w K mg base CX0 5 f fd ["self", "address", "slot", "value"] (spHput C_Heap C_Memory) := by
  obtain ⟨f_is_link, d_is_link, G_is_link⟩ := X.f_is_link
  have H_is_link : FnOk P w K mg base CX0 1 f_is_link d_is_link ["shapes", "kind", "slot"] (spIsl) := ok_isl G_is_link X
  obtain ⟨f_Memory_kind, d_Memory_kind, M_Memory_kind⟩ := X.m_Memory_kind
  have H_Memory_kind : FnOk P w K mg base CX0 2 f_Memory_kind d_Memory_kind ["self", "address"] (spMkind C_Memory) := ok_mkind M_Memory_kind X
  obtain ⟨f_Memory_set_link, d_Memory_set_link, M_Memory_set_link⟩ := X.m_Memory_set_link
  have H_Memory_set_link : FnOk P w K mg base CX0 4 f_Memory_set_link d_Memory_set_link ["self", "address", "place", "reference"] (spMsl C_Memory) := ok_msl M_Memory_set_link X
  obtain ⟨f_Memory_is_object, d_Memory_is_object, M_Memory_is_object⟩ := X.m_Memory_is_object
  have H_Memory_is_object : FnOk P w K mg base CX0 1 f_Memory_is_object d_Memory_is_object ["self", "address"] (spMiso C_Memory) := ok_miso M_Memory_is_object X
  obtain ⟨f_is_integer, d_is_integer, G_is_integer⟩ := X.f_is_integer
  have H_is_integer : FnOk P w K mg base CX0 1 f_is_integer d_is_integer ["thing"] (spInt) := ok_int G_is_integer X
  obtain ⟨f_is_between, d_is_between, G_is_between⟩ := X.f_is_between
  have H_is_between : FnOk P w K mg base CX0 2 f_is_between d_is_between ["thing", "least", "greatest"] (spBtw) := ok_btw G_is_between X
  obtain ⟨_, m_GREATEST_INT⟩ := X.c_GREATEST_INT
  obtain ⟨_, m_LEAST_INT⟩ := X.c_LEAST_INT
  obtain ⟨_, m_HEAD_WORDS⟩ := X.c_HEAD_WORDS
  obtain ⟨f_Heap_look_at_slot, d_Heap_look_at_slot, M_Heap_look_at_slot⟩ := X.m_Heap_look_at_slot
  have H_Heap_look_at_slot : FnOk P w K mg base CX0 3 f_Heap_look_at_slot d_Heap_look_at_slot ["self", "address", "slot"] (spHlas C_Heap C_Memory) := ok_hlas M_Heap_look_at_slot X
  refine G.F.ok sc_Heap_put (fun vs H Q E h => ?_) (fun cdv A outer s H vs Q E hr h => ?_)
  · obtain ⟨hp, x, j, v, a, c, sh, s, s', rfl, _⟩ := h; rfl
  · obtain ⟨hp, x, j, v, a, c, sh, s, s', rfl, hh, hx, q⟩ := h
    obtain ⟨dx, hd⟩ := hh.at_
    have hm := hh.mem
    refine ⟨_, (pss_cons (ps_expr (pe_meth (pv 0) X.cl_Heap M_Heap_look_at_slot.m H_Heap_look_at_slot (hr.mono (by decide)) M_Heap_look_at_slot.b .nil pass0 (pa_cons (pv 1) (pa_cons (pv 2) pa_nil))))
      (pss_cons (ps_set (i := 4) sc_Heap_put.nd rfl (Or.inl rfl) (pe_op op_add (pe_op op_add (pv 1) (pe_glob (v := .int (2)) (by rfl) m_HEAD_WORDS ⟨_, rfl⟩)) (pv 2)))
      (pss_one (ps_if (pt_val (pe_call H_is_link (hr.mono (by decide)) (by rfl) G_is_link.g G_is_link.F.kp G_is_link.b .nil pass0 (pa_cons (pe_fld (pe_fld (pv 0) rfl) rfl) (pa_cons (pe_meth (pe_fld (pv 0) rfl) X.cl_Memory M_Memory_kind.m H_Memory_kind (hr.mono (by decide)) M_Memory_kind.b .nil pass0 (pa_cons (pv 1) pa_nil)) (pa_cons (pv 2) pa_nil)))))
        (pss_cons (ps_if (PW.pt (pw_or (pt_not (pt_val (pe_call H_is_integer (hr.mono (by decide)) (by rfl) G_is_integer.g G_is_integer.F.kp G_is_integer.b .nil pass0 (pa_cons (pv 3) pa_nil)))) (pw_or1 (PW.pt (pw_and (pt_cmpR op_ne (pv 3) pe_int (nomark _)) (pw_and1 (pt_not (pt_val (pe_meth (pe_fld (pv 0) rfl) X.cl_Memory M_Memory_is_object.m H_Memory_is_object (hr.mono (by decide)) M_Memory_is_object.b .nil pass0 (pa_cons (pv 3) pa_nil))))))))))
        pss_never pss_nil)
      (pss_one (ps_expr (pe_meth (pe_fld (pv 0) rfl) X.cl_Memory M_Memory_set_link.m H_Memory_set_link hr M_Memory_set_link.b .nil pass0 (pa_cons (pv 1) (pa_cons (pv 4) (pa_cons (pv 3) pa_nil))))))) (pss_cons (ps_if (pt_not (pt_val (pe_call H_is_between (hr.mono (by decide)) (by rfl) G_is_between.g G_is_between.F.kp G_is_between.b .nil pass0 (pa_cons (pv 3) (pa_cons (pe_glob (v := .int (-2147483648)) (by rfl) m_LEAST_INT ⟨_, rfl⟩) (pa_cons (pe_glob (v := .int (2147483647)) (by rfl) m_GREATEST_INT ⟨_, rfl⟩) pa_nil))))))
        pss_never pss_nil)
      (pss_one (ps_asg (pv 3) (pg_sub (pe_fld (pe_fld (pv 0) rfl) rfl) (pv 4) set_list)))))))), ?_⟩
    unfold putM at hx
    cases e1 : slotM s x j with
    | none => rw [e1] at hx; cases hx
    | some hw =>
    rw [e1] at hx
    simp only at hx
    split at hx
    case isTrue => cases hx
    rename_i hlb
    have hlb : linkB sh (hw / 64 - 3) j = true := by simpa using hlb
    have ew : s.words[x]? = some hw := by
      unfold slotM at e1
      cases z1 : s.words[x]? with
      | none => rw [z1] at e1; cases e1
      | some h =>
      cases z2 : s.words[x + 1]? with
      | none => rw [z1, z2] at e1; cases e1
      | some n =>
      rw [z1, z2] at e1
      simp only at e1
      split at e1
      · exact e1
      · cases e1
    refine ⟨_, rfl, hp, dx, HpF a, rfl, hd, hpF_no (by decide), _, rfl, _, rfl, hp, x, j, hw, a, c, sh, s, rfl, hh, e1, ?_⟩
    refine ⟨_, rfl, _, _, rfl, rfl, _, rfl, _, _, rfl, rfl, ?_⟩
    refine ⟨_, rfl, hp, C_Heap, dx, HpF a, .ref a.m, rfl, hd, X.cl_Heap, X.n_Heap_memory, rfl, a.m, C_Memory, a.dx, MemF a c s, .ref a.aSh, rfl, hm.at_, X.cl_Memory, X.n_Memory_shapes, rfl, ?_⟩
    refine ⟨_, rfl, hp, C_Heap, dx, HpF a, .ref a.m, rfl, hd, X.cl_Heap, X.n_Heap_memory, rfl, a.m, a.dx, MemF a c s, rfl, hm.at_, memF_no (by decide), _, rfl, a, x, hw, c, sh, s, rfl, hm, ew, _, rfl, .ref a.aSh, hw / 64 - 3, j, sh, rfl, hm.shp, hlb, flag sh (hw / 64 - 3) j, rfl, ?_⟩
    cases hf : flag sh (hw / 64 - 3) j with
    | true =>
      rw [hf, if_pos rfl] at hx
      split at hx
      case isFalse => cases hx
      rename_i hv
      refine iteT ⟨_, rfl, v, rfl, true, rfl, iteF ?_⟩
      refine ⟨_, rfl, rfl, _, rfl, ?_⟩
      have fin : ∀ D : Ends, (∀ H', HpAt C_Heap C_Memory H' hp a c sh s' → KeptL a.own H H' → D.nx [some (.ref hp), some (.int x), some (.int j), some (.int v), some (.int ((x : Int) + 2 + (j : Int)))] H') → True := fun _ _ => trivial
      clear fin
      by_cases e : v = 0
      · subst e
        refine iteF (iteF ?_)
        refine ⟨_, rfl, hp, C_Heap, dx, HpF a, .ref a.m, rfl, hd, X.cl_Heap, X.n_Heap_memory, rfl, a.m, a.dx, MemF a c s, rfl, hm.at_, memF_no (by decide), _, rfl, _, rfl, _, rfl, a, x, x + 2 + j, 0, c, sh, s, s', rfl, hm, hx, fun H' m' k' => q H' ⟨⟨dx, k' _ _ hh.notown hd⟩, m'⟩ k'⟩
      · have : (!decide (V.int v = V.int 0)) = true := by simp [e]
        rw [this]
        refine iteT ⟨_, rfl, hp, C_Heap, dx, HpF a, .ref a.m, rfl, hd, X.cl_Heap, X.n_Heap_memory, rfl, a.m, a.dx, MemF a c s, rfl, hm.at_, memF_no (by decide), _, rfl, a, v, c, sh, s, rfl, hm, _, rfl, ?_⟩
        rw [show (inL s.old v || inL s.young v) = true from hv.resolve_left e]
        refine iteF ?_
        refine ⟨_, rfl, hp, C_Heap, dx, HpF a, .ref a.m, rfl, hd, X.cl_Heap, X.n_Heap_memory, rfl, a.m, a.dx, MemF a c s, rfl, hm.at_, memF_no (by decide), _, rfl, _, rfl, _, rfl, a, x, x + 2 + j, v, c, sh, s, s', rfl, hm, hx, fun H' m' k' => q H' ⟨⟨dx, k' _ _ hh.notown hd⟩, m'⟩ k'⟩
    | false =>
      rw [hf, if_neg (by decide)] at hx
      split at hx
      case isFalse => cases hx
      rename_i hv
      cases hx
      refine iteF ⟨_, rfl, v, -2147483648, 2147483647, rfl, _, rfl, ?_⟩
      rw [decide_eq_true (show (-2147483648 : Int) ≤ v ∧ v ≤ 2147483647 from ⟨hv.1, hv.2.1⟩)]
      refine iteF ?_
      refine ⟨_, rfl, _, rfl, hp, C_Heap, dx, HpF a, .ref a.m, rfl, hd, X.cl_Heap, X.n_Heap_memory, rfl, a.m, C_Memory, a.dx, MemF a c s, .ref a.aW, rfl, hm.at_, X.cl_Memory, X.n_Memory_words, rfl, _, rfl, a.aW, _, ((x + 2 + j : Nat) : Int), x + 2 + j, rfl, rfl, hm.words, ixN_nat (by rw [List.length_map]; exact hv.2.2), ?_⟩
      have eW : (s.words.map V.int).set (x + 2 + j) (V.int v) = (s.words.set (x + 2 + j) v).map V.int := by rw [List.map_set]
      rw [eW]
      have k1 : KeptL a.own H (upd H a.aW (.lst ((s.words.set (x + 2 + j) v).map V.int))) := kept_upd (by simp [Ma.own])
      exact q _ ⟨⟨dx, k1 _ _ hh.notown hd⟩, hm.setW _⟩ k1
end
end PH

/-! Objects in rooms, by numbers; how they lie. -/
namespace PH
open PySem PySem.Spec PyProof.Rows L2 KA KI KK PV T ET
structure Obj where
  k : Int
  age : Nat
  col : Nat
  b : List Int
structure AM where
  nur : List Nat
  hlf : List Nat
  old : List Nat
  grey : List Nat
  ob : Nat → Obj
  which : Nat
  mark : Bool
def AM.all (A : AM) : List Nat := A.nur ++ A.hlf ++ A.old
def wd (o : Obj) : Nat := o.b.length + 2
def wsum (ob : Nat → Obj) : List Nat → Nat
  | [] => 0
  | n :: r => wd (ob n) + wsum ob r
theorem wsum_app (ob : Nat → Obj) : ∀ (a b : List Nat), wsum ob (a ++ b) = wsum ob a + wsum ob b
  | [], b => by simp [wsum]
  | n :: a, b => by simp [wsum, wsum_app ob a b, Nat.add_assoc]
theorem wsum_perm (ob : Nat → Obj) {a b : List Nat} (p : a.Perm b) : wsum ob a = wsum ob b := by
  induction p with
  | nil => rfl
  | cons x _ ih => simp [wsum, ih]
  | swap x y l => simp [wsum]; omega
  | trans _ _ h1 h2 => exact h1.trans h2
theorem wsum_congr {ob ob' : Nat → Obj} : ∀ {l : List Nat}, (∀ n ∈ l, wd (ob n) = wd (ob' n)) → wsum ob l = wsum ob' l
  | [], _ => rfl
  | n :: r, h => by
    show wd (ob n) + wsum ob r = wd (ob' n) + wsum ob' r
    rw [h n List.mem_cons_self, wsum_congr fun m hm => h m (List.mem_cons_of_mem _ hm)]
theorem wsum_len (ob : Nat → Obj) : ∀ (l : List Nat), 2 * l.length ≤ wsum ob l
  | [] => Nat.le_refl _
  | n :: r => by
    have := wsum_len ob r
    show 2 * (r.length + 1) ≤ wd (ob n) + wsum ob r
    unfold wd
    omega
/-- side by side from one address to ahead of another -/
def Laid (ob : Nat → Obj) (pl : Nat → Nat) : Nat → List Nat → Nat → Prop
  | f, [], l => f = l
  | f, n :: r, l => pl n = f ∧ Laid ob pl (f + wd (ob n)) r l
theorem Laid.len {ob : Nat → Obj} {pl : Nat → Nat} : ∀ {f : Nat} {ns : List Nat} {l : Nat}, Laid ob pl f ns l → l = f + wsum ob ns
  | f, [], l, h => by
    have h : f = l := h
    simp [wsum, h]
  | f, n :: r, l, h => by
    have := Laid.len h.2
    simp only [wsum]
    omega
theorem Laid.mem {ob : Nat → Obj} {pl : Nat → Nat} : ∀ {f : Nat} {ns : List Nat} {l n : Nat}, Laid ob pl f ns l → n ∈ ns → f ≤ pl n ∧ pl n + wd (ob n) ≤ l
  | f, m :: r, l, n, h, hn => by
    obtain ⟨h1, h2⟩ := h
    have hl := h2.len
    rcases List.mem_cons.mp hn with z | z
    · subst z
      omega
    · have := Laid.mem h2 z
      omega
theorem Laid.congr {ob ob' : Nat → Obj} {pl pl' : Nat → Nat} : ∀ {f : Nat} {ns : List Nat} {l : Nat}, Laid ob pl f ns l → (∀ n ∈ ns, pl' n = pl n ∧ wd (ob' n) = wd (ob n)) → Laid ob' pl' f ns l
  | f, [], l, h, _ => h
  | f, n :: r, l, h, e => by
    obtain ⟨e1, e2⟩ := e n List.mem_cons_self
    refine ⟨e1.trans h.1, ?_⟩
    rw [e2]
    exact Laid.congr h.2 fun m hm => e m (List.mem_cons_of_mem _ hm)
theorem Laid.snoc {ob : Nat → Obj} {pl : Nat → Nat} : ∀ {f : Nat} {ns : List Nat} {l n : Nat}, Laid ob pl f ns l → pl n = l → Laid ob pl f (ns ++ [n]) (l + wd (ob n))
  | f, [], l, n, h, e => by
    have h : f = l := h
    subst h
    exact ⟨e, rfl⟩
  | f, m :: r, l, n, h, e => ⟨h.1, Laid.snoc h.2 e⟩
theorem Laid.app {ob : Nat → Obj} {pl : Nat → Nat} : ∀ {f : Nat} {a b : List Nat} {l : Nat}, Laid ob pl f (a ++ b) l → ∃ m, Laid ob pl f a m ∧ Laid ob pl m b l
  | f, [], b, l, h => ⟨f, rfl, h⟩
  | f, n :: a, b, l, h => by
    obtain ⟨m, h1, h2⟩ := Laid.app h.2
    exact ⟨m, ⟨h.1, h1⟩, h2⟩
theorem Laid.join {ob : Nat → Obj} {pl : Nat → Nat} : ∀ {f : Nat} {a b : List Nat} {m l : Nat}, Laid ob pl f a m → Laid ob pl m b l → Laid ob pl f (a ++ b) l
  | f, [], b, m, l, h1, h2 => by
    have h1 : f = m := h1
    subst h1
    exact h2
  | f, n :: a, b, m, l, h1, h2 => ⟨h1.1, Laid.join h1.2 h2⟩
/-- two of one row do not overlap -/
theorem Laid.apart {ob : Nat → Obj} {pl : Nat → Nat} : ∀ {f : Nat} {ns : List Nat} {l n m : Nat}, Laid ob pl f ns l → n ∈ ns → m ∈ ns → n ≠ m → pl n + wd (ob n) ≤ pl m ∨ pl m + wd (ob m) ≤ pl n
  | f, k :: r, l, n, m, h, hn, hm, ne => by
    obtain ⟨h1, h2⟩ := h
    rcases List.mem_cons.mp hn with z | z <;> rcases List.mem_cons.mp hm with y | y
    · exact absurd (z.trans y.symm) ne
    · subst z
      have := h2.mem y
      exact .inl (by omega)
    · subst y
      have := h2.mem z
      exact .inr (by omega)
    · exact Laid.apart h2 z y ne
/-- ascending -/
theorem Laid.sorted {ob : Nat → Obj} {pl : Nat → Nat} : ∀ {f : Nat} {ns : List Nat} {l : Nat}, Laid ob pl f ns l → (ns.map pl).Pairwise (· < ·)
  | f, [], l, _ => .nil
  | f, n :: r, l, h => by
    refine List.pairwise_cons.mpr ⟨fun x hx => ?_, Laid.sorted h.2⟩
    obtain ⟨m, hm, rfl⟩ := List.mem_map.mp hx
    have := h.2.mem hm
    have := h.1
    unfold wd at *
    omega
/-- what a slot holds -/
def slotV (sh : List (List Bool)) (pl : Nat → Nat) (k : Int) (j : Nat) (v : Int) : Int := if flag sh k j = true then (pl v.toNat : Int) else v
/-- an object's words at an address -/
structure ObjAt (sh : List (List Bool)) (ws : List Int) (x : Nat) (pl : Nat → Nat → Nat) (o : Obj) : Prop where
  hd : ws[x]? = some (headW o.k o.age o.col)
  ln : ws[x + 1]? = some (o.b.length : Int)
  bd : ∀ (j : Nat) (v : Int), o.b[j]? = some v → ws[x + 2 + j]? = some (slotV sh (pl j) o.k j v)
/-- outside of some words all stand -/
def KeepW (ws ws' : List Int) (lo hi : Nat) : Prop := ∀ (i : Nat) (v : Int), ¬ (lo ≤ i ∧ i < hi) → ws[i]? = some v → ws'[i]? = some v
theorem ObjAt.keep {sh : List (List Bool)} {ws ws' : List Int} {x lo hi : Nat} {pl : Nat → Nat → Nat} {o : Obj} (h : ObjAt sh ws x pl o) (k : KeepW ws ws' lo hi) (d : x + wd o ≤ lo ∨ hi ≤ x) : ObjAt sh ws' x pl o := by
  unfold wd at d
  refine ⟨k _ _ (by omega) h.hd, k _ _ (by omega) h.ln, fun j v e => k _ _ ?_ (h.bd j v e)⟩
  have := (List.getElem?_eq_some_iff.mp e).1
  omega
theorem ObjAt.congr {sh : List (List Bool)} {ws : List Int} {x : Nat} {pl pl' : Nat → Nat → Nat} {o : Obj} (h : ObjAt sh ws x pl o) (e : ∀ (j : Nat) (v : Int), o.b[j]? = some v → flag sh o.k j = true → pl' j v.toNat = pl j v.toNat) : ObjAt sh ws x pl' o := by
  refine ⟨h.hd, h.ln, fun j v ev => ?_⟩
  rw [h.bd j v ev]
  unfold slotV
  split
  · rename_i hf
    rw [e j v ev hf]
  · rfl
theorem keepW_set (ws : List Int) (p : Nat) (v : Int) : KeepW ws (ws.set p v) p (p + 1) := fun i u h e => by
  rw [List.getElem?_set]
  rw [if_neg (by omega)]
  exact e
theorem keepW_app (ws us : List Int) : KeepW ws (ws ++ us) ws.length (ws.length + us.length) := fun i u h e => by
  rw [List.getElem?_append_left (List.getElem?_eq_some_iff.mp e).1]
  exact e
theorem keepW_lay {ws us : List Int} {x : Nat} (h : x + us.length ≤ ws.length) : KeepW ws (ws.take x ++ us ++ ws.drop (x + us.length)) x (x + us.length) := fun i u n e => by
  have hl := (List.getElem?_eq_some_iff.mp e).1
  rw [List.append_assoc]
  by_cases hi : i < x
  · rw [List.getElem?_append_left (by rw [List.length_take]; omega), List.getElem?_take, if_pos hi]
    exact e
  · rw [List.getElem?_append_right (by rw [List.length_take]; omega), List.length_take, Nat.min_eq_left (by omega), List.getElem?_append_right (by omega), List.getElem?_drop, show x + us.length + (i - x - us.length) = i by omega]
    exact e
theorem lay_get {ws us : List Int} {x j : Nat} {v : Int} (h : x + us.length ≤ ws.length) (e : us[j]? = some v) : (ws.take x ++ us ++ ws.drop (x + us.length))[x + j]? = some v := by
  have hl := (List.getElem?_eq_some_iff.mp e).1
  rw [List.append_assoc, List.getElem?_append_right (by rw [List.length_take]; omega), List.length_take, Nat.min_eq_left (by omega), Nat.add_sub_cancel_left, List.getElem?_append_left hl]
  exact e
theorem lay_len {ws us : List Int} {x : Nat} (h : x + us.length ≤ ws.length) : (ws.take x ++ us ++ ws.drop (x + us.length)).length = ws.length := by
  rw [List.length_append, List.length_append, List.length_take, List.length_drop]
  omega
theorem app_get {ws us : List Int} {j : Nat} {v : Int} (e : us[j]? = some v) : (ws ++ us)[ws.length + j]? = some v := by
  rw [List.getElem?_append_right (by omega), Nat.add_sub_cancel_left]
  exact e
def hfirst (c : Sz) (w : Nat) : Nat := c.firsts.getD (1 + w) 0
theorem hfirst_eq {c : Sz} {w : Nat} (h : w < 2) : hfirst c w = c.1 + 1 + w * c.2.1 ∧ hfirst c w + c.2.1 ≤ c.fo ∧ endOf c (1 + w) = hfirst c w + c.2.1 := by
  have fo : c.fo = c.1 + 2 * c.2.1 + 1 := rfl
  rcases (by omega : w = 0 ∨ w = 1) with rfl | rfl
  · refine ⟨by show c.1 + 1 = _; omega, by show c.1 + 1 + c.2.1 ≤ _; omega, ?_⟩
    show c.1 + c.2.1 + 1 = c.1 + 1 + c.2.1
    omega
  · refine ⟨by show c.1 + c.2.1 + 1 = _; omega, by show c.1 + c.2.1 + 1 + c.2.1 ≤ _; omega, ?_⟩
    show c.fo = c.1 + c.2.1 + 1 + c.2.1
    omega
/-- an object as it may be -/
structure ObOk (sh : List (List Bool)) (o : Obj) : Prop where
  k1 : -3 ≤ o.k
  k2 : o.k < sh.length
  sz : sizeOk sh o.k o.b.length
  ag : o.age < 8
  co : o.col < 3
/-- the references of an object, in their sequence -/
def refsOf (sh : List (List Bool)) (o : Obj) : List Nat := ((List.range o.b.length).filter (flag sh o.k)).map fun j => (o.b.getD j 0).toNat
theorem head_age {k : Int} {age col : Nat} (h1 : age < 16) (h2 : col < 4) : headW k age col / 4 % 16 = age ∧ headW k age col / 64 - 3 = k ∧ headW k age col % 4 = col := by
  unfold headW
  omega
end PH

/-! How a memory tells rooms of objects; a moving under way. -/
namespace PH
open PySem PySem.Spec PyProof.Rows L2 KA KI KK PV T ET
structure Rep (c : Sz) (sh : List (List Bool)) (s : Ms) (A : AM) (pl : Nat → Nat) : Prop where
  cz : szOk c
  shl : sh.length ≤ 60
  shr : ∀ r ∈ sh, r.length ≤ 100
  hf : s.half = A.which
  w2 : A.which < 2
  mrk : s.marks = A.mark
  z : pl 0 = 0
  nxl : s.nexts.length = 3
  ln : ∃ n0, s.nexts[0]? = some n0 ∧ Laid A.ob pl 1 A.nur n0 ∧ n0 ≤ c.1 + 1
  lh : ∃ n1, s.nexts[1 + A.which]? = some n1 ∧ Laid A.ob pl (hfirst c A.which) A.hlf n1 ∧ n1 ≤ hfirst c A.which + c.2.1
  lt : s.nexts[1 + (1 - A.which)]? = some (hfirst c (1 - A.which))
  lo : Laid A.ob pl c.fo A.old s.words.length
  at_ : ∀ n ∈ A.all, ObjAt sh s.words (pl n) (fun _ => pl) (A.ob n)
  yg : s.young.Perm ((A.hlf ++ A.nur).map pl)
  od : s.old = A.old.map pl
  rnd : s.rem.Nodup
  rem : ∀ p, p ∈ s.rem ↔ ∃ n, n ∈ A.old ∧ ∃ (j : Nat) (x : Int), (A.ob n).b[j]? = some x ∧ flag sh (A.ob n).k j = true ∧ x.toNat ∈ A.nur ++ A.hlf ∧ p = pl n + 2 + j
  gs : ∀ n ∈ A.grey, n ∈ A.old
  gr : s.grey.drop s.done = A.grey.map pl
  gd : s.done ≤ s.grey.length
  gb : s.grey.length ≤ (A.old.filter fun n => (A.ob n).col != 0).length
  en : s.ended.length = 3
  nd : A.all.Nodup
  n0 : 0 ∉ A.all
  ok : ∀ n ∈ A.all, ObOk sh (A.ob n)
  cl : ∀ n ∈ A.all, ∀ (j : Nat) (x : Int), (A.ob n).b[j]? = some x → flag sh (A.ob n).k j = true → 0 ≤ x ∧ (x.toNat = 0 ∨ x.toNat ∈ A.all)
  yc : ∀ n ∈ A.nur ++ A.hlf, (A.ob n).col = 0
  bud : wsum A.ob A.all ≤ 100000
/-- where each lies -/
theorem Rep.young_at {c : Sz} {sh : List (List Bool)} {s : Ms} {A : AM} {pl : Nat → Nat} (R : Rep c sh s A pl) {n : Nat} (h : n ∈ A.nur ++ A.hlf) : 0 < pl n ∧ pl n + wd (A.ob n) ≤ c.fo ∧ (pl n + wd (A.ob n) ≤ hfirst c (1 - A.which) ∨ hfirst c (1 - A.which) + c.2.1 ≤ pl n) := by
  obtain ⟨a, a1, a2, a3⟩ := R.ln
  obtain ⟨b, b1, b2, b3⟩ := R.lh
  have w2 := R.w2
  obtain ⟨e1, e2, _⟩ := hfirst_eq (c := c) w2
  obtain ⟨f1, f2, _⟩ := hfirst_eq (c := c) (show 1 - A.which < 2 by omega)
  have fo : c.fo = c.1 + 2 * c.2.1 + 1 := rfl
  rcases List.mem_append.mp h with z | z
  · have := a2.mem z
    refine ⟨by omega, by omega, .inl ?_⟩
    rw [f1]
    omega
  · have := b2.mem z
    refine ⟨by omega, by omega, ?_⟩
    rcases (by omega : A.which = 0 ∨ A.which = 1) with e | e
    · left
      rw [e] at e1 this b3 ⊢
      rw [e] at f1
      simp at e1 f1 ⊢
      omega
    · right
      rw [e] at e1 this b3 ⊢
      rw [e] at f1
      simp at e1 f1 ⊢
      omega
theorem Rep.old_at {c : Sz} {sh : List (List Bool)} {s : Ms} {A : AM} {pl : Nat → Nat} (R : Rep c sh s A pl) {n : Nat} (h : n ∈ A.old) : c.fo ≤ pl n ∧ pl n + wd (A.ob n) ≤ s.words.length := R.lo.mem h
theorem Rep.wl {c : Sz} {sh : List (List Bool)} {s : Ms} {A : AM} {pl : Nat → Nat} (R : Rep c sh s A pl) : s.words.length = c.fo + wsum A.ob A.old := R.lo.len
theorem mem_all {A : AM} {n : Nat} : n ∈ A.all ↔ n ∈ A.nur ++ A.hlf ∨ n ∈ A.old := by
  unfold AM.all
  rw [List.mem_append]
/-- no two lie at one address -/
theorem Rep.inj {c : Sz} {sh : List (List Bool)} {s : Ms} {A : AM} {pl : Nat → Nat} (R : Rep c sh s A pl) {n m : Nat} (hn : n ∈ A.all) (hm : m ∈ A.all) (e : pl n = pl m) : n = m := by
  have wn : 2 ≤ wd (A.ob n) := by unfold wd; omega
  have wm : 2 ≤ wd (A.ob m) := by unfold wd; omega
  by_cases ne : n = m
  · exact ne
  exfalso
  obtain ⟨a, a1, a2, a3⟩ := R.ln
  obtain ⟨b, b1, b2, b3⟩ := R.lh
  have w2 := R.w2
  obtain ⟨e1, e2, _⟩ := hfirst_eq (c := c) w2
  have key : ∀ {n : Nat}, n ∈ A.all → (n ∈ A.nur ∧ pl n + 2 ≤ c.1 + 1) ∨ (n ∈ A.hlf ∧ c.1 + 1 ≤ pl n ∧ pl n + 2 ≤ c.fo) ∨ (n ∈ A.old ∧ c.fo ≤ pl n) := fun {n} h => by
    have wn : 2 ≤ wd (A.ob n) := by unfold wd; omega
    rcases mem_all.mp h with z | z
    · rcases List.mem_append.mp z with z | z
      · have := a2.mem z
        exact .inl ⟨z, by omega⟩
      · have := b2.mem z
        exact .inr (.inl ⟨z, by omega, by omega⟩)
    · exact .inr (.inr ⟨z, (R.lo.mem z).1⟩)
  rcases key hn with ⟨x, x1⟩ | ⟨x, x1, x2⟩ | ⟨x, x1⟩ <;> rcases key hm with ⟨y, y1⟩ | ⟨y, y1, y2⟩ | ⟨y, y1⟩
  · have := a2.apart x y ne; omega
  · omega
  · omega
  · omega
  · have := b2.apart x y ne; omega
  · omega
  · omega
  · omega
  · have := R.lo.apart x y ne; omega
structure Wk where
  ob : Nat → Obj
  grey : List Nat
  th : List Nat
  fr : List Nat
def leadA (c : Sz) (st : Bool) (A : AM) (B : Wk) (x : Nat) : Wk :=
  if x ∈ A.nur ++ A.hlf ∧ x ∉ B.th ++ B.fr then
    if st = false ∧ (B.ob x).age + 1 < c.2.2.2 ∧ wsum B.ob B.th + wd (B.ob x) ≤ c.2.1 then
      { B with ob := fun y => if y = x then { B.ob x with age := (B.ob x).age + 1 } else B.ob y, th := B.th ++ [x] }
    else { ob := fun y => if y = x then { B.ob x with age := 0, col := if A.mark = true then 1 else (B.ob x).col } else B.ob y, grey := if A.mark = true then B.grey ++ [x] else B.grey, th := B.th, fr := B.fr ++ [x] }
  else B
def plL (L : Nat → Nat → Bool) (pl npl : Nat → Nat) (n j : Nat) : Nat → Nat := if L n j = true then npl else pl
structure Mid (c : Sz) (sh : List (List Bool)) (s0 : Ms) (A : AM) (pl : Nat → Nat) (m : Mv) (B : Wk) (npl : Nat → Nat) (L : Nat → Nat → Bool) : Prop where
  half : m.s.half = A.which
  marks : m.s.marks = A.mark
  done : m.s.done = s0.done
  ended : m.s.ended = s0.ended
  rem : m.s.rem = s0.rem
  nxl : m.s.nexts.length = 3
  nx0 : m.s.nexts[0]? = s0.nexts[0]?
  nx1 : m.s.nexts[1 + A.which]? = s0.nexts[1 + A.which]?
  nxt : ∃ t, m.s.nexts[1 + (1 - A.which)]? = some t ∧ Laid B.ob npl (hfirst c (1 - A.which)) B.th t ∧ t ≤ hfirst c (1 - A.which) + c.2.1
  lo : Laid B.ob npl c.fo (A.old ++ B.fr) m.s.words.length
  z : npl 0 = 0
  npo : ∀ n ∈ A.old, npl n = pl n
  from_ : ∀ n ∈ A.nur ++ A.hlf, ObjAt sh m.s.words (pl n) (fun _ => pl) (A.ob n)
  to_ : ∀ n ∈ B.th ++ B.fr ++ A.old, ObjAt sh m.s.words (npl n) (plL L pl npl n) (B.ob n)
  obk : ∀ n, (B.ob n).b = (A.ob n).b ∧ (B.ob n).k = (A.ob n).k
  obn : ∀ n, n ∉ B.th ++ B.fr → B.ob n = A.ob n
  ages : ∀ n ∈ B.th ++ B.fr, (B.ob n).age < 8 ∧ (B.ob n).col < 3
  thc : ∀ n ∈ B.th, (B.ob n).col = 0
  mv : ∀ n ∈ A.nur ++ A.hlf, m.mv.lookup (pl n) = if n ∈ B.th ++ B.fr then some (npl n) else none
  mvl : m.mv.length = (B.th ++ B.fr).length
  th : m.th = B.th.map npl
  to : m.to = B.fr.map npl
  yg : m.s.young = s0.young ++ B.th.map npl
  od : m.s.old = (A.old ++ B.fr).map npl
  gr : m.s.grey.drop m.s.done = B.grey.map npl
  gd : m.s.done ≤ m.s.grey.length
  gsub : ∀ n ∈ B.grey, n ∈ A.old ++ B.fr
  gb : m.s.grey.length ≤ ((A.old ++ B.fr).filter fun n => (B.ob n).col != 0).length
  sub : ∀ n ∈ B.th ++ B.fr, n ∈ A.nur ++ A.hlf
  nd : (B.th ++ B.fr).Nodup
  rest : ∃ r, (A.nur ++ A.hlf).Perm (r ++ (B.th ++ B.fr))
  Lno : ∀ n j, L n j = true → n ∈ B.th ++ B.fr ++ A.old ∧ ∀ x : Int, (A.ob n).b[j]? = some x → flag sh (A.ob n).k j = true → x.toNat = 0 ∨ x.toNat ∈ B.th ++ B.fr ++ A.old
theorem Mid.wdq {c : Sz} {sh : List (List Bool)} {s0 : Ms} {A : AM} {pl npl : Nat → Nat} {m : Mv} {B : Wk} {L : Nat → Nat → Bool} (M : Mid c sh s0 A pl m B npl L) (n : Nat) : wd (B.ob n) = wd (A.ob n) := by
  unfold wd
  rw [(M.obk n).1]
end PH

/-! One is led. -/
namespace PH
open PySem PySem.Spec PyProof.Rows L2 KA KI KK PV T ET
theorem lookup_app {l : List (Nat × Nat)} {x y k : Nat} (h : l.lookup x = none) : (l ++ [(x, y)]).lookup k = if k = x then some y else l.lookup k := by
  induction l with
  | nil =>
    by_cases e : k = x
    · simp [List.lookup, e]
    · have : (k == x) = false := by simpa using e
      simp [List.lookup, this, e]
  | cons p r ih =>
    obtain ⟨a, b⟩ := p
    have h1 : (x == a) = false ∧ r.lookup x = none := by
      simp only [List.lookup] at h
      cases e : x == a with
      | true => rw [e] at h; cases h
      | false => rw [e] at h; exact ⟨rfl, h⟩
    rw [List.cons_append]
    simp only [List.lookup]
    cases e : k == a with
    | true =>
      have : ¬ k = x := fun z => by rw [z, h1.1] at e; cases e
      rw [if_neg this]
    | false => exact ih h1.2
theorem drop_set {ws : List Int} {p n : Nat} {v : Int} (h : p + n ≤ ws.length) : (((ws.drop p).take n).set 0 v).length = n := by
  rw [List.length_set, List.length_take, List.length_drop]
  omega
theorem drop_get {ws : List Int} {p n j : Nat} {u : Int} (hj : 0 < j) (hn : j < n) : (((ws.drop p).take n).set 0 u)[j]? = ws[p + j]? := by
  rw [List.getElem?_set, if_neg (by omega), List.getElem?_take, if_pos hn, List.getElem?_drop]
theorem drop_get0 {ws : List Int} {p n : Nat} {u : Int} (hn : 0 < n) (h : p < ws.length) : (((ws.drop p).take n).set 0 u)[0]? = some u := by
  rw [List.getElem?_set, if_pos rfl, if_pos]
  rw [List.length_take, List.length_drop]
  omega
theorem nodup_lt : ∀ {N : Nat} {l : List Nat}, l.Nodup → (∀ x ∈ l, x < N) → l.length ≤ N
  | 0, [], _, _ => Nat.le_refl _
  | 0, x :: r, _, h => absurd (h x List.mem_cons_self) (by omega)
  | N + 1, l, nd, h => by
    have h1 := nodup_lt (N := N) (nd.erase N) fun x hx => by
      have h2 := h x (List.mem_of_mem_erase hx)
      have h3 : x ≠ N := fun z => by
        rw [z] at hx
        exact (nd.mem_erase_iff.mp hx).1 rfl
      omega
    rw [List.length_erase] at h1
    split at h1 <;> omega
/-- who is led to where it is -/
theorem led_old {c : Sz} {sh : List (List Bool)} {s0 : Ms} {A : AM} {pl npl : Nat → Nat} {m : Mv} {B : Wk} {L : Nat → Nat → Bool} {st : Bool} (R : Rep c sh s0 A pl) (M : Mid c sh s0 A pl m B npl L) {x : Nat} (hx : x = 0 ∨ x ∈ A.all) (hy : x ∉ A.nur ++ A.hlf) : ledM c st (1 - A.which) m (pl x) = some (m, (npl x : Int)) ∧ leadA c st A B x = B := by
  refine ⟨?_, by unfold leadA; rw [if_neg (fun z => hy z.1)]⟩
  unfold ledM
  rcases hx with rfl | hx
  · rw [R.z, M.z, if_neg (by omega)]
  · have ho := (mem_all.mp hx).resolve_left hy
    have := (R.lo.mem ho).1
    rw [M.npo _ ho, if_neg (by omega)]
theorem led_there {c : Sz} {sh : List (List Bool)} {s0 : Ms} {A : AM} {pl npl : Nat → Nat} {m : Mv} {B : Wk} {L : Nat → Nat → Bool} {st : Bool} (R : Rep c sh s0 A pl) (M : Mid c sh s0 A pl m B npl L) {x : Nat} (hy : x ∈ A.nur ++ A.hlf) (hb : x ∈ B.th ++ B.fr) : ledM c st (1 - A.which) m (pl x) = some (m, (npl x : Int)) ∧ leadA c st A B x = B := by
  refine ⟨?_, by unfold leadA; rw [if_neg (fun z => z.2 hb)]⟩
  obtain ⟨h1, h2, _⟩ := R.young_at hy
  have : 2 ≤ wd (A.ob x) := by unfold wd; omega
  unfold ledM
  rw [if_pos ⟨by omega, by omega⟩, Int.toNat_natCast, M.mv x hy, if_pos hb]
theorem Mid.young_len {c : Sz} {sh : List (List Bool)} {s0 : Ms} {A : AM} {pl npl : Nat → Nat} {m : Mv} {B : Wk} {L : Nat → Nat → Bool} (R : Rep c sh s0 A pl) (M : Mid c sh s0 A pl m B npl L) :
    okB m.s ∧ m.th.length ≤ 50000 ∧ m.to.length ≤ 50000 ∧ m.mv.length ≤ 50000 ∧ m.s.words.length ≤ 112289 ∧ m.s.old.length ≤ 50000 ∧ m.s.rem.length ≤ 112289 := by
  obtain ⟨r, pr⟩ := M.rest
  obtain ⟨z1, z2, z3, z4, z5, z6, z7⟩ := R.cz
  have fo : c.fo = c.1 + 2 * c.2.1 + 1 := rfl
  have w0 := M.lo.len
  have bud := R.bud
  have e1 : wsum B.ob (A.old ++ B.fr) = wsum A.ob (A.old ++ B.fr) := wsum_congr fun n _ => M.wdq n
  have e2 : wsum A.ob A.all = wsum A.ob (A.nur ++ A.hlf) + wsum A.ob A.old := by unfold AM.all; rw [wsum_app]
  have e3 : wsum A.ob (A.nur ++ A.hlf) = wsum A.ob r + (wsum A.ob B.th + wsum A.ob B.fr) := by rw [wsum_perm A.ob pr, wsum_app, wsum_app]
  rw [e1, wsum_app] at w0
  have l1 := wsum_len A.ob (A.nur ++ A.hlf)
  have l2 := wsum_len A.ob A.old
  have l3 := wsum_len A.ob B.fr
  have l4 := wsum_len A.ob B.th
  have y0 := R.yg.length_eq
  have hth : m.th.length = B.th.length := by rw [M.th, List.length_map]
  have hto : m.to.length = B.fr.length := by rw [M.to, List.length_map]
  have hyl : m.s.young.length = s0.young.length + B.th.length := by rw [M.yg, List.length_append, List.length_map]
  have hol : m.s.old.length = A.old.length + B.fr.length := by rw [M.od, List.length_map, List.length_append]
  rw [List.length_map, List.length_append] at y0
  rw [List.length_append] at l1
  have hg := M.gb
  have hg2 := List.length_filter_le (fun n => (B.ob n).col != 0) (A.old ++ B.fr)
  rw [List.length_append] at hg2
  have hmv := M.mvl
  rw [List.length_append] at hmv
  have hrm : m.s.rem.length ≤ 112289 := by
    rw [M.rem]
    refine Nat.le_trans (nodup_lt R.rnd (N := s0.words.length) fun p hp => ?_) ?_
    · obtain ⟨n, hn, j, x, ej, _, _, rfl⟩ := (R.rem p).mp hp
      have := (R.lo.mem hn).2
      have := (List.getElem?_eq_some_iff.mp ej).1
      unfold wd at *
      omega
    · rw [R.wl]
      omega
  exact ⟨⟨by omega, by omega, by omega, by omega, by omega⟩, by omega, by omega, by omega, by omega, by omega, hrm⟩
end PH

/-! One is moved. -/
namespace PH
open PySem PySem.Spec PyProof.Rows L2 KA KI KK PV T ET
theorem Rep.apart {c : Sz} {sh : List (List Bool)} {s : Ms} {A : AM} {pl : Nat → Nat} (R : Rep c sh s A pl) {x : Nat} (h : x ∈ A.nur ++ A.hlf) : x ∉ A.old ∧ x ∈ A.all ∧ x ≠ 0 := by
  have nd := R.nd
  unfold AM.all at nd
  refine ⟨fun z => (List.nodup_append.mp nd).2.2 x h x z rfl, mem_all.mpr (.inl h), fun z => R.n0 (z ▸ mem_all.mpr (.inl h))⟩
theorem Mid.fin {c : Sz} {sh : List (List Bool)} {s0 : Ms} {A : AM} {pl npl : Nat → Nat} {m : Mv} {B : Wk} {L : Nat → Nat → Bool} (R : Rep c sh s0 A pl) (M : Mid c sh s0 A pl m B npl L) {x : Nat} {T F : List Nat} {ob' : Nat → Obj} {g' : List Nat} {m' : Mv} {y : Nat} (hy : x ∈ A.nur ++ A.hlf) (hb : x ∉ B.th ++ B.fr)
    (eTF : (T = B.th ++ [x] ∧ F = B.fr) ∨ (T = B.th ∧ F = B.fr ++ [x])) (e1 : ∀ n, n ≠ x → ob' n = B.ob n) (e2 : (ob' x).b = (A.ob x).b ∧ (ob' x).k = (A.ob x).k) (e3 : (ob' x).age < 8 ∧ (ob' x).col < 3) (e4 : x ∈ T → (ob' x).col = 0)
    (half : m'.s.half = m.s.half) (marks : m'.s.marks = m.s.marks) (done : m'.s.done = m.s.done) (ended : m'.s.ended = m.s.ended) (rem : m'.s.rem = m.s.rem) (nxl : m'.s.nexts.length = 3) (nx0 : m'.s.nexts[0]? = m.s.nexts[0]?) (nx1 : m'.s.nexts[1 + A.which]? = m.s.nexts[1 + A.which]?)
    (nxt : ∃ t, m'.s.nexts[1 + (1 - A.which)]? = some t ∧ Laid ob' (fun z => if z = x then y else npl z) (hfirst c (1 - A.which)) T t ∧ t ≤ hfirst c (1 - A.which) + c.2.1)
    (lo : Laid ob' (fun z => if z = x then y else npl z) c.fo (A.old ++ F) m'.s.words.length)
    (lo' : ∃ lw hw, KeepW m.s.words m'.s.words lw hw ∧ (∀ n ∈ A.nur ++ A.hlf, pl n + wd (A.ob n) ≤ lw ∨ hw ≤ pl n) ∧ (∀ n ∈ B.th ++ B.fr ++ A.old, npl n + wd (A.ob n) ≤ lw ∨ hw ≤ npl n))
    (new : ObjAt sh m'.s.words y (fun _ => pl) (ob' x))
    (mv : m'.mv = m.mv ++ [(pl x, y)]) (th : m'.th = T.map fun z => if z = x then y else npl z) (to : m'.to = F.map fun z => if z = x then y else npl z)
    (yg : m'.s.young = s0.young ++ T.map fun z => if z = x then y else npl z) (od : m'.s.old = (A.old ++ F).map fun z => if z = x then y else npl z)
    (gr : m'.s.grey.drop m'.s.done = g'.map fun z => if z = x then y else npl z) (gd : m'.s.done ≤ m'.s.grey.length) (gsub : ∀ n ∈ g', n ∈ A.old ++ F) (gb : m'.s.grey.length ≤ ((A.old ++ F).filter fun n => (ob' n).col != 0).length) :
    Mid c sh s0 A pl m' ⟨ob', g', T, F⟩ (fun z => if z = x then y else npl z) L := by
  obtain ⟨ho, ha, hx0⟩ := R.apart hy
  have memTF : ∀ n, n ∈ T ++ F ↔ n = x ∨ n ∈ B.th ++ B.fr := fun n => by
    rcases eTF with ⟨rfl, rfl⟩ | ⟨rfl, rfl⟩ <;> simp [List.mem_append] <;> constructor <;> (intro h; rcases h with h | h | h <;> simp [h])
  have hT : ∀ n, n ∈ T → n = x ∨ n ∈ B.th := fun n h => by
    rcases eTF with ⟨rfl, rfl⟩ | ⟨rfl, rfl⟩
    · rcases List.mem_append.mp h with z | z
      · exact .inr z
      · exact .inl (List.mem_singleton.mp z)
    · exact .inr h
  obtain ⟨lw, hw, kw, d1, d2⟩ := lo'
  have memA : ∀ n, n ∈ T ++ F ++ A.old → n = x ∨ n ∈ B.th ++ B.fr ++ A.old := fun n h => by
    rcases List.mem_append.mp h with z | z
    · rcases (memTF n).mp z with z | z
      · exact .inl z
      · exact .inr (List.mem_append_left _ z)
    · exact .inr (List.mem_append_right _ z)
  have upA : ∀ n, n ∈ B.th ++ B.fr ++ A.old → n ∈ T ++ F ++ A.old := fun n h => by
    rcases List.mem_append.mp h with z | z
    · exact List.mem_append_left _ ((memTF n).mpr (.inr z))
    · exact List.mem_append_right _ z
  have xno : x ∉ B.th ++ B.fr ++ A.old := fun z => by
    rcases List.mem_append.mp z with z | z
    · exact hb z
    · exact ho z
  obtain ⟨r, pr⟩ := M.rest
  exact {
    half := half.trans M.half
    marks := marks.trans M.marks
    done := done.trans M.done
    ended := ended.trans M.ended
    rem := rem.trans M.rem
    nxl := nxl
    nx0 := nx0.trans M.nx0
    nx1 := nx1.trans M.nx1
    nxt := nxt
    lo := lo
    z := by show (if (0 : Nat) = x then y else npl 0) = 0; rw [if_neg (fun z => hx0 z.symm)]; exact M.z
    npo := fun n hn => by
      show (if n = x then y else npl n) = pl n
      rw [if_neg (show ¬ n = x from fun z => ho (by rw [← z]; exact hn))]
      exact M.npo n hn
    from_ := fun n hn => (M.from_ n hn).keep kw (d1 n hn)
    to_ := fun n hn => by
      rcases memA n hn with rfl | z
      · show ObjAt sh m'.s.words (if n = n then y else npl n) _ (ob' n)
        rw [if_pos rfl]
        refine new.congr fun j v ev hf => ?_
        have : L n j = false := by
          cases e : L n j with
          | false => rfl
          | true => exact absurd (M.Lno n j e).1 xno
        show plL L pl _ n j v.toNat = pl v.toNat
        unfold plL
        rw [this]
        rfl
      · have nx : n ≠ x := fun e => xno (e ▸ z)
        show ObjAt sh m'.s.words (if n = x then y else npl n) _ (ob' n)
        rw [if_neg nx, e1 n nx]
        have o1 := (M.to_ n z).keep kw (by rw [M.wdq n]; exact d2 n z)
        refine o1.congr fun j v ev hf => ?_
        show plL L pl _ n j v.toNat = plL L pl npl n j v.toNat
        unfold plL
        cases e : L n j with
        | false => rfl
        | true =>
          rw [(M.obk n).1] at ev
          rw [(M.obk n).2] at hf
          have := (M.Lno n j e).2 v ev hf
          show (if v.toNat = x then y else npl v.toNat) = npl v.toNat
          rw [if_neg]
          intro q
          rcases this with h | h
          · exact hx0 (q.symm.trans h)
          · exact xno (q ▸ h)
    obk := fun n => by
      by_cases e : n = x
      · subst e; exact e2
      · show (ob' n).b = _ ∧ (ob' n).k = _
        rw [e1 n e]; exact M.obk n
    obn := fun n hn => by
      have nx : n ≠ x := fun e => hn ((memTF n).mpr (.inl e))
      show ob' n = A.ob n
      rw [e1 n nx]
      exact M.obn n fun z => hn ((memTF n).mpr (.inr z))
    ages := fun n hn => by
      rcases (memTF n).mp hn with rfl | z
      · exact e3
      · have nx : n ≠ x := fun e => hb (e ▸ z)
        show (ob' n).age < 8 ∧ (ob' n).col < 3
        rw [e1 n nx]
        exact M.ages n z
    thc := fun n hn => by
      rcases hT n hn with rfl | z
      · exact e4 hn
      · have nx : n ≠ x := fun e => hb (e ▸ List.mem_append_left _ z)
        show (ob' n).col = 0
        rw [e1 n nx]
        exact M.thc n z
    mv := fun n hn => by
      have hl : m.mv.lookup (pl x) = none := by rw [M.mv x hy, if_neg hb]
      rw [mv, lookup_app hl]
      by_cases e : n = x
      · subst e
        rw [if_pos rfl, if_pos ((memTF n).mpr (.inl rfl)), if_pos rfl]
      · have pe : pl n ≠ pl x := fun z => e (R.inj (mem_all.mpr (.inl hn)) ha z)
        rw [if_neg pe, M.mv n hn, if_neg e]
        by_cases z : n ∈ B.th ++ B.fr
        · rw [if_pos z, if_pos ((memTF n).mpr (.inr z))]
        · rw [if_neg z, if_neg (fun q => z (((memTF n).mp q).resolve_left e))]
    mvl := by
      rw [mv, List.length_append, M.mvl]
      rcases eTF with ⟨rfl, rfl⟩ | ⟨rfl, rfl⟩ <;> simp <;> omega
    th := th
    to := to
    yg := yg
    od := od
    gr := gr
    gd := gd
    gsub := gsub
    gb := gb
    sub := fun n hn => by
      rcases (memTF n).mp hn with rfl | z
      · exact hy
      · exact M.sub n z
    nd := by
      have nd := M.nd
      rcases eTF with ⟨rfl, rfl⟩ | ⟨rfl, rfl⟩
      · show ((B.th ++ [x]) ++ B.fr).Nodup
        have : ((B.th ++ [x]) ++ B.fr).Perm (x :: (B.th ++ B.fr)) := by
          rw [List.append_assoc]
          exact List.perm_middle
        rw [this.nodup_iff]
        exact List.nodup_cons.mpr ⟨hb, nd⟩
      · show (B.th ++ (B.fr ++ [x])).Nodup
        have : (B.th ++ (B.fr ++ [x])).Perm (x :: (B.th ++ B.fr)) := by
          rw [← List.append_assoc]
          exact (List.perm_append_comm).trans (.refl _)
        rw [this.nodup_iff]
        exact List.nodup_cons.mpr ⟨hb, nd⟩
    rest := by
      have hr : x ∈ r := by
        rcases List.mem_append.mp (pr.mem_iff.mp hy) with z | z
        · exact z
        · exact absurd z hb
      refine ⟨r.erase x, pr.trans ?_⟩
      have p1 : (r ++ (B.th ++ B.fr)).Perm (x :: (r.erase x ++ (B.th ++ B.fr))) := (List.perm_cons_erase hr).append_right _
      refine p1.trans (List.Perm.symm ?_)
      rcases eTF with ⟨rfl, rfl⟩ | ⟨rfl, rfl⟩
      · show (r.erase x ++ ((B.th ++ [x]) ++ B.fr)).Perm _
        have : r.erase x ++ ((B.th ++ [x]) ++ B.fr) = (r.erase x ++ B.th) ++ x :: B.fr := by simp
        rw [this]
        exact List.perm_middle.trans (by rw [List.append_assoc])
      · show (r.erase x ++ (B.th ++ (B.fr ++ [x]))).Perm _
        have : r.erase x ++ (B.th ++ (B.fr ++ [x])) = (r.erase x ++ (B.th ++ B.fr)) ++ [x] := by simp
        rw [this]
        exact List.perm_append_comm
    Lno := fun n j e => by
      obtain ⟨h1, h2⟩ := M.Lno n j e
      exact ⟨upA n h1, fun v ev hf => (h2 v ev hf).imp id (upA _)⟩ }
theorem led_new {c : Sz} {sh : List (List Bool)} {s0 : Ms} {A : AM} {pl npl : Nat → Nat} {m : Mv} {B : Wk} {L : Nat → Nat → Bool} {st : Bool} (R : Rep c sh s0 A pl) (M : Mid c sh s0 A pl m B npl L) {x : Nat} (hy : x ∈ A.nur ++ A.hlf) (hb : x ∉ B.th ++ B.fr) :
    ∃ m' npl', ledM c st (1 - A.which) m (pl x) = some (m', (npl' x : Int)) ∧ Mid c sh s0 A pl m' (leadA c st A B x) npl' L ∧ ∀ n, n ≠ x → npl' n = npl n := by
  obtain ⟨ho, ha, hx0⟩ := R.apart hy
  obtain ⟨ya, yb, yc⟩ := R.young_at hy
  obtain ⟨bOk, bth, bto, bmv, bw, bol, brm⟩ := M.young_len R
  have F := M.from_ x hy
  have O := R.ok x ha
  have ebx : B.ob x = A.ob x := M.obn x hb
  obtain ⟨len, el⟩ : ∃ len : Nat, len = (A.ob x).b.length := ⟨_, rfl⟩
  have ew : wd (A.ob x) = len + 2 := by unfold wd; rw [el]
  have hd := F.hd
  have hl := F.ln
  rw [← el] at hl
  obtain ⟨ha1, ha2, _⟩ := head_age (k := (A.ob x).k) (age := (A.ob x).age) (col := (A.ob x).col) (by have := O.ag; omega) (by have := O.co; omega)
  obtain ⟨t, t1, t2, t3⟩ := M.nxt
  have tl := t2.len
  have w2 := R.w2
  obtain ⟨f1, f2, f3⟩ := hfirst_eq (c := c) (show 1 - A.which < 2 by omega)
  have cz := R.cz
  have wl0 := M.lo.len
  have hk : (A.ob x).k.natAbs < 1000 := by
    have := O.k1
    have := O.k2
    have := R.shl
    omega
  have len1000 : len ≤ 1000 := by rw [el]; exact O.sz.1
  have xB : ∀ n ∈ B.th ++ B.fr ++ A.old, n ≠ x := fun n hn e => by
    rcases List.mem_append.mp hn with z | z
    · exact hb (e ▸ z)
    · exact ho (e ▸ z)
  -- what the program does
  have e0 : ledM c st (1 - A.which) m (pl x) = match moveM c st (1 - A.which) m (pl x) with
      | some (m', y) => if m'.mv = m.mv ∧ m.mv.length ≤ 500000 then some ({ m' with mv := m'.mv ++ [(pl x, y)] }, (y : Int)) else none
      | none => none := by
    unfold ledM
    rw [if_pos ⟨by omega, by omega⟩, Int.toNat_natCast, M.mv x hy, if_neg hb]
    all_goals rfl
  have e1 : moveM c st (1 - A.which) m (pl x) = if st = false ∧ headW (A.ob x).k (A.ob x).age (A.ob x).col / 4 % 16 + 1 < (c.2.2.2 : Int) ∧ t + (len + 2) ≤ endOf c (1 + (1 - A.which)) then
        if t + (len + 2) ≤ m.s.words.length ∧ t ∉ m.s.young then
          some ({ m with s := layY m.s (1 + (1 - A.which)) t (((m.s.words.drop (pl x)).take (len + 2)).set 0 (headW (A.ob x).k ((A.ob x).age + 1) 0)), th := m.th ++ [t] }, t)
        else none
      else if m.s.words.length ∉ m.s.old then
        some ({ m with s := { layO m.s (((m.s.words.drop (pl x)).take (len + 2)).set 0 (headW (A.ob x).k 0 (if m.s.marks = true then 1 else 0))) with grey := if m.s.marks = true then m.s.grey ++ [m.s.words.length] else m.s.grey }, to := m.to ++ [m.s.words.length] }, m.s.words.length)
      else none := by
    unfold moveM
    rw [hd, hl, t1]
    simp only
    rw [if_pos ⟨by omega, by omega, by rw [Int.toNat_natCast]; omega, by rw [ha2]; exact hk, bOk, by omega, by omega, by omega⟩, Int.toNat_natCast, ha1, ha2]
    rfl
  have hage : headW (A.ob x).k (A.ob x).age (A.ob x).col / 4 % 16 + 1 < (c.2.2.2 : Int) ↔ (B.ob x).age + 1 < c.2.2.2 := by rw [ha1, ebx]; omega
  have hfit : t + (len + 2) ≤ endOf c (1 + (1 - A.which)) ↔ wsum B.ob B.th + wd (B.ob x) ≤ c.2.1 := by rw [f3, tl, ebx, ew]; omega
  have eA : leadA c st A B x = if st = false ∧ (B.ob x).age + 1 < c.2.2.2 ∧ wsum B.ob B.th + wd (B.ob x) ≤ c.2.1 then
      { B with ob := fun y => if y = x then { B.ob x with age := (B.ob x).age + 1 } else B.ob y, th := B.th ++ [x] }
    else { ob := fun y => if y = x then { B.ob x with age := 0, col := if A.mark = true then 1 else (B.ob x).col } else B.ob y, grey := if A.mark = true then B.grey ++ [x] else B.grey, th := B.th, fr := B.fr ++ [x] } := by
    unfold leadA
    rw [if_pos ⟨hy, hb⟩]
  have pw : pl x + (len + 2) ≤ m.s.words.length := by omega
  have bodies : ∀ (u : Int) (j : Nat) (v : Int), (A.ob x).b[j]? = some v → (((m.s.words.drop (pl x)).take (len + 2)).set 0 u)[2 + j]? = some (slotV sh pl (A.ob x).k j v) := fun u j v e => by
    have := (List.getElem?_eq_some_iff.mp e).1
    rw [drop_get (by omega) (by omega), ← Nat.add_assoc]
    exact F.bd j v e
  have lens : ∀ u : Int, (((m.s.words.drop (pl x)).take (len + 2)).set 0 u)[1]? = some (len : Int) := fun u => by
    rw [drop_get (by omega) (by omega)]
    exact hl
  have heads : ∀ u : Int, (((m.s.words.drop (pl x)).take (len + 2)).set 0 u)[0]? = some u := fun u => drop_get0 (by omega) (by omega)
  by_cases hc : st = false ∧ (B.ob x).age + 1 < c.2.2.2 ∧ wsum B.ob B.th + wd (B.ob x) ≤ c.2.1
  · have hc' : st = false ∧ headW (A.ob x).k (A.ob x).age (A.ob x).col / 4 % 16 + 1 < (c.2.2.2 : Int) ∧ t + (len + 2) ≤ endOf c (1 + (1 - A.which)) := ⟨hc.1, hage.mpr hc.2.1, hfit.mpr hc.2.2⟩
    have hfo : t + (len + 2) ≤ hfirst c (1 - A.which) + c.2.1 := by rw [← f3]; exact hc'.2.2
    have tw : t + (len + 2) ≤ m.s.words.length := by omega
    have ty : t ∉ m.s.young := fun z => by
      rw [M.yg] at z
      rcases List.mem_append.mp z with z | z
      · obtain ⟨n, hn, e⟩ := List.mem_map.mp (R.yg.mem_iff.mp z)
        have hn' : n ∈ A.nur ++ A.hlf := by
          rcases List.mem_append.mp hn with q | q
          · exact List.mem_append_right _ q
          · exact List.mem_append_left _ q
        obtain ⟨q1, q2, q3⟩ := R.young_at hn'
        have : 2 ≤ wd (A.ob n) := by unfold wd; omega
        omega
      · obtain ⟨n, hn, e⟩ := List.mem_map.mp z
        have := t2.mem hn
        have : 2 ≤ wd (B.ob n) := by unfold wd; omega
        omega
    rw [e0, e1, if_pos hc', if_pos ⟨tw, ty⟩, eA, if_pos hc]
    simp only
    rw [if_pos ⟨trivial, by omega⟩]
    refine ⟨_, fun z => if z = x then t else npl z, by show some (_, ((t : Nat) : Int)) = some (_, ((if x = x then t else npl x : Nat) : Int)); rw [if_pos rfl], ?_, fun n hn => if_neg hn⟩
    have wlen : ∀ u : Int, (((m.s.words.drop (pl x)).take (len + 2)).set 0 u).length = len + 2 := fun u => drop_set pw
    have kk := keepW_lay (ws := m.s.words) (us := ((m.s.words.drop (pl x)).take (len + 2)).set 0 (headW (A.ob x).k ((A.ob x).age + 1) 0)) (x := t) (by rw [wlen]; exact tw)
    refine M.fin R (x := x) (T := B.th ++ [x]) (F := B.fr) (y := t) (ob' := fun y => if y = x then { B.ob x with age := (B.ob x).age + 1 } else B.ob y) (g' := B.grey) hy hb (.inl ⟨rfl, rfl⟩) (fun n hn => if_neg hn) ?_ ?_ ?_ rfl rfl rfl rfl rfl ?_ ?_ ?_ ?_ ?_ ?_ ?_ rfl ?_ ?_ ?_ ?_ ?_ M.gd M.gsub ?_
    · rw [if_pos rfl, ebx]; exact ⟨rfl, rfl⟩
    · rw [if_pos rfl, ebx]
      have hcz := cz.2.2.2.2.2.2
      have h2 := hc.2.1
      rw [ebx] at h2
      exact ⟨by show (A.ob x).age + 1 < 8; omega, O.co⟩
    · intro _
      rw [if_pos rfl, ebx]
      exact R.yc x hy
    · show (m.s.nexts.set _ _).length = 3
      rw [List.length_set]; exact M.nxl
    · show (m.s.nexts.set _ _)[0]? = _
      rw [List.getElem?_set, if_neg (by omega)]
    · show (m.s.nexts.set _ _)[1 + A.which]? = _
      rw [List.getElem?_set, if_neg (by omega)]
    · refine ⟨t + (len + 2), ?_, ?_, by omega⟩
      · show (m.s.nexts.set (1 + (1 - A.which)) (t + _))[1 + (1 - A.which)]? = _
        rw [List.getElem?_set, if_pos rfl, if_pos (by rw [M.nxl]; omega), wlen]
      · have l1 : Laid (fun y => if y = x then { B.ob x with age := (B.ob x).age + 1 } else B.ob y) (fun z => if z = x then t else npl z) (hfirst c (1 - A.which)) B.th t := t2.congr fun n hn => by
          have nx : n ≠ x := xB n (by simp [hn])
          rw [if_neg nx, if_neg nx]
          exact ⟨rfl, rfl⟩
        have l2 := l1.snoc (n := x) (by rw [if_pos rfl])
        have : wd (if x = x then { B.ob x with age := (B.ob x).age + 1 } else B.ob x) = len + 2 := by rw [if_pos rfl, ebx]; exact ew
        rw [this] at l2
        exact l2
    · show Laid _ _ c.fo (A.old ++ B.fr) (m.s.words.take t ++ _ ++ m.s.words.drop _).length
      rw [lay_len (by rw [wlen]; exact tw)]
      refine M.lo.congr fun n hn => ?_
      have nx : n ≠ x := xB n (by rcases List.mem_append.mp hn with z | z <;> simp [z])
      rw [if_neg nx, if_neg nx]
      exact ⟨rfl, rfl⟩
    · refine ⟨t, t + (len + 2), ?_, fun n hn => ?_, fun n hn => ?_⟩
      · exact fun i v h e => kk i v (by rw [wlen]; exact h) e
      · obtain ⟨q1, q2, q3⟩ := R.young_at hn
        omega
      · rcases List.mem_append.mp hn with z | z
        · rcases List.mem_append.mp z with z | z
          · have := t2.mem z
            rw [M.wdq n] at this
            omega
          · have := M.lo.mem (List.mem_append_right A.old z)
            omega
        · have := M.lo.mem (List.mem_append_left B.fr z)
          omega
    · refine ⟨?_, ?_, fun j v e => ?_⟩
      · have := lay_get (ws := m.s.words) (x := t) (j := 0) (by rw [wlen]; exact tw) (heads (headW (A.ob x).k ((A.ob x).age + 1) 0))
        show (m.s.words.take t ++ _ ++ m.s.words.drop _)[t]? = _
        refine Eq.trans this ?_
        rw [if_pos rfl, ebx]
        show _ = some (headW (A.ob x).k ((A.ob x).age + 1) (A.ob x).col)
        rw [R.yc x hy]
      · have := lay_get (ws := m.s.words) (x := t) (j := 1) (by rw [wlen]; exact tw) (lens (headW (A.ob x).k ((A.ob x).age + 1) 0))
        show (m.s.words.take t ++ _ ++ m.s.words.drop _)[t + 1]? = _
        refine Eq.trans this ?_
        rw [if_pos rfl, ebx]
        show _ = some (((A.ob x).b.length : Nat) : Int)
        rw [el]
      · rw [if_pos rfl, ebx] at e ⊢
        have := lay_get (ws := m.s.words) (x := t) (j := 2 + j) (by rw [wlen]; exact tw) (bodies (headW (A.ob x).k ((A.ob x).age + 1) 0) j v e)
        show (m.s.words.take t ++ _ ++ m.s.words.drop _)[t + 2 + j]? = _
        rw [Nat.add_assoc]
        exact this
    · show m.th ++ [t] = _
      rw [M.th, List.map_append]
      congr 1
      · exact List.map_congr_left fun n hn => (if_neg (xB n (by simp [hn]))).symm
      · simp
    · show m.to = _
      rw [M.to]
      exact List.map_congr_left fun n hn => (if_neg (xB n (by simp [hn]))).symm
    · show m.s.young ++ [t] = _
      rw [M.yg, List.map_append, List.append_assoc]
      congr 2
      · exact List.map_congr_left fun n hn => (if_neg (xB n (by simp [hn]))).symm
      · simp
    · show m.s.old = _
      rw [M.od]
      exact List.map_congr_left fun n hn => (if_neg (xB n (by rcases List.mem_append.mp hn with z | z <;> simp [z]))).symm
    · show m.s.grey.drop m.s.done = _
      rw [M.gr]
      exact List.map_congr_left fun n hn => (if_neg (xB n (by rcases List.mem_append.mp (M.gsub n hn) with z | z <;> simp [z]))).symm
    · show m.s.grey.length ≤ _
      refine Nat.le_trans M.gb (Nat.le_of_eq ?_)
      congr 1
      refine List.filter_congr fun n hn => ?_
      rw [if_neg (xB n (by rcases List.mem_append.mp hn with z | z <;> simp [z]))]
  · have hc' : ¬ (st = false ∧ headW (A.ob x).k (A.ob x).age (A.ob x).col / 4 % 16 + 1 < (c.2.2.2 : Int) ∧ t + (len + 2) ≤ endOf c (1 + (1 - A.which))) := fun z => hc ⟨z.1, hage.mp z.2.1, hfit.mp z.2.2⟩
    have hno : m.s.words.length ∉ m.s.old := fun z => by
      rw [M.od] at z
      obtain ⟨n, hn, e⟩ := List.mem_map.mp z
      have := M.lo.mem hn
      have : 2 ≤ wd (B.ob n) := by unfold wd; omega
      omega
    rw [e0, e1, if_neg hc', if_pos hno, eA, if_neg hc]
    simp only
    rw [if_pos ⟨trivial, by omega⟩]
    obtain ⟨y, ey⟩ : ∃ y : Nat, y = m.s.words.length := ⟨_, rfl⟩
    rw [← ey]
    refine ⟨_, fun z => if z = x then y else npl z, by show some (_, ((y : Nat) : Int)) = some (_, ((if x = x then y else npl x : Nat) : Int)); rw [if_pos rfl], ?_, fun n hn => if_neg hn⟩
    have wlen : ∀ u : Int, (((m.s.words.drop (pl x)).take (len + 2)).set 0 u).length = len + 2 := fun u => drop_set pw
    have mk := M.marks
    have marked : (if m.s.marks = true then 1 else 0) = (if A.mark = true then 1 else (B.ob x).col) := by
      rw [mk, ebx, R.yc x hy]
    have kk := keepW_app m.s.words (((m.s.words.drop (pl x)).take (len + 2)).set 0 (headW (A.ob x).k 0 (if m.s.marks = true then 1 else 0)))
    have xo : ∀ n ∈ A.old ++ B.fr, n ≠ x := fun n hn => xB n (by rcases List.mem_append.mp hn with z | z <;> simp [z])
    refine M.fin R (x := x) (T := B.th) (F := B.fr ++ [x]) (y := y) (ob' := fun y => if y = x then { B.ob x with age := 0, col := if A.mark = true then 1 else (B.ob x).col } else B.ob y) (g' := if A.mark = true then B.grey ++ [x] else B.grey) hy hb (.inr ⟨rfl, rfl⟩) (fun n hn => if_neg hn) ?_ ?_ ?_ rfl rfl rfl rfl rfl M.nxl rfl rfl ?_ ?_ ?_ ?_ rfl ?_ ?_ ?_ ?_ ?_ ?_ ?_ ?_
    · rw [if_pos rfl, ebx]; exact ⟨rfl, rfl⟩
    · rw [if_pos rfl, ebx]
      refine ⟨by show 0 < 8; decide, ?_⟩
      show (if A.mark = true then 1 else (A.ob x).col) < 3
      have := O.co
      split <;> omega
    · exact fun z => absurd (List.mem_append_left _ z) hb
    · refine ⟨t, t1, t2.congr fun n hn => ?_, t3⟩
      have nx : n ≠ x := xB n (by simp [hn])
      rw [if_neg nx, if_neg nx]
      exact ⟨rfl, rfl⟩
    · show Laid _ _ c.fo (A.old ++ (B.fr ++ [x])) (m.s.words ++ _).length
      have l1 : Laid (fun y => if y = x then { B.ob x with age := 0, col := if A.mark = true then 1 else (B.ob x).col } else B.ob y) (fun z => if z = x then y else npl z) c.fo (A.old ++ B.fr) m.s.words.length := M.lo.congr fun n hn => by
        rw [if_neg (xo n hn), if_neg (xo n hn)]
        exact ⟨rfl, rfl⟩
      have l2 := l1.snoc (n := x) (by rw [if_pos rfl]; exact ey)
      have : wd (if x = x then { B.ob x with age := 0, col := if A.mark = true then 1 else (B.ob x).col } else B.ob x) = len + 2 := by rw [if_pos rfl, ebx]; exact ew
      rw [this] at l2
      rw [List.length_append, wlen, ← List.append_assoc]
      exact l2
    · refine ⟨m.s.words.length, _, kk, fun n hn => ?_, fun n hn => ?_⟩
      · obtain ⟨q1, q2, q3⟩ := R.young_at hn
        left
        omega
      · left
        rcases List.mem_append.mp hn with z | z
        · rcases List.mem_append.mp z with z | z
          · have := t2.mem z
            rw [M.wdq n] at this
            omega
          · have := M.lo.mem (List.mem_append_right A.old z)
            rw [M.wdq n] at this
            omega
        · have := M.lo.mem (List.mem_append_left B.fr z)
          rw [M.wdq n] at this
          omega
    · refine ⟨?_, ?_, fun j v e => ?_⟩
      · have := app_get (ws := m.s.words) (j := 0) (heads (headW (A.ob x).k 0 (if m.s.marks = true then 1 else 0)))
        rw [ey]
        refine Eq.trans this ?_
        rw [if_pos rfl, marked, ebx]
      · have := app_get (ws := m.s.words) (j := 1) (lens (headW (A.ob x).k 0 (if m.s.marks = true then 1 else 0)))
        rw [ey]
        refine Eq.trans this ?_
        rw [if_pos rfl, ebx]
        show _ = some (((A.ob x).b.length : Nat) : Int)
        rw [el]
      · rw [if_pos rfl, ebx] at e ⊢
        have := app_get (ws := m.s.words) (j := 2 + j) (bodies (headW (A.ob x).k 0 (if m.s.marks = true then 1 else 0)) j v e)
        rw [ey, Nat.add_assoc]
        exact this
    · show m.th = _
      rw [M.th]
      exact List.map_congr_left fun n hn => (if_neg (xB n (by simp [hn]))).symm
    · show m.to ++ [y] = _
      rw [M.to, List.map_append]
      congr 1
      · exact List.map_congr_left fun n hn => (if_neg (xB n (by simp [hn]))).symm
      · simp [ey]
    · show m.s.young = _
      rw [M.yg]
      congr 1
      exact List.map_congr_left fun n hn => (if_neg (xB n (by simp [hn]))).symm
    · show m.s.old ++ [m.s.words.length] = _
      rw [M.od, ← List.append_assoc, List.map_append (l₂ := [x])]
      congr 1
      · exact List.map_congr_left fun n hn => (if_neg (xo n hn)).symm
      · simp [ey]
    · show (if m.s.marks = true then m.s.grey ++ [y] else m.s.grey).drop m.s.done = _
      have g0 : m.s.grey.drop m.s.done = B.grey.map fun z => if z = x then y else npl z := by
        rw [M.gr]
        exact List.map_congr_left fun n hn => (if_neg (xo n (M.gsub n hn))).symm
      rw [mk]
      split
      · rw [List.drop_append_of_le_length M.gd, g0, List.map_append]
        simp [ey]
      · exact g0
    · show m.s.done ≤ (if m.s.marks = true then m.s.grey ++ [y] else m.s.grey).length
      have := M.gd
      split
      · rw [List.length_append]; omega
      · exact this
    · intro n hn
      rw [← List.append_assoc]
      split at hn
      · rcases List.mem_append.mp hn with z | z
        · exact List.mem_append_left _ (M.gsub n z)
        · exact List.mem_append_right _ z
      · exact List.mem_append_left _ (M.gsub n hn)
    · show (if m.s.marks = true then m.s.grey ++ [y] else m.s.grey).length ≤ _
      have gb := M.gb
      have ef : (A.old ++ B.fr).filter (fun n => ((fun y => if y = x then { B.ob x with age := 0, col := if A.mark = true then 1 else (B.ob x).col } else B.ob y) n).col != 0) = (A.old ++ B.fr).filter (fun n => (B.ob n).col != 0) := List.filter_congr fun n hn => by
        show ((if n = x then _ else B.ob n : Obj).col != 0) = _
        rw [if_neg (xo n hn)]
      rw [← List.append_assoc, List.filter_append, List.length_append, ef, mk]
      split
      · have h1 : ∀ f : Nat → Bool, f x = true → ([x].filter f).length = 1 := fun f h => by simp [h]
        rw [List.length_append, h1 _ (by simp)]
        simp only [List.length_singleton]
        omega
      · omega
end PH

/-! A slot is led. -/
namespace PH
open PySem PySem.Spec PyProof.Rows L2 KA KI KK PV T ET
theorem leadA_mem {c : Sz} {st : Bool} {A : AM} {B : Wk} {x : Nat} : (∀ n, n ∈ B.th ++ B.fr ++ A.old → n ∈ (leadA c st A B x).th ++ (leadA c st A B x).fr ++ A.old) ∧ (x ∈ A.nur ++ A.hlf → x ∈ (leadA c st A B x).th ++ (leadA c st A B x).fr ++ A.old) := by
  unfold leadA
  split
  · split
    · refine ⟨fun n h => ?_, fun _ => by simp⟩
      simp only [List.mem_append, List.mem_singleton] at h ⊢
      rcases h with (h | h) | h <;> simp [h]
    · refine ⟨fun n h => ?_, fun _ => by simp⟩
      simp only [List.mem_append, List.mem_singleton] at h ⊢
      rcases h with (h | h) | h <;> simp [h]
  · rename_i hn
    refine ⟨fun n h => h, fun hx => ?_⟩
    by_cases z : x ∈ B.th ++ B.fr
    · exact List.mem_append_left _ z
    · exact absurd ⟨hx, z⟩ hn
theorem led_ok {c : Sz} {sh : List (List Bool)} {s0 : Ms} {A : AM} {pl npl : Nat → Nat} {m : Mv} {B : Wk} {L : Nat → Nat → Bool} {st : Bool} (R : Rep c sh s0 A pl) (M : Mid c sh s0 A pl m B npl L) {x : Nat} (hx : x = 0 ∨ x ∈ A.all) :
    ∃ m' npl', ledM c st (1 - A.which) m (pl x) = some (m', (npl' x : Int)) ∧ Mid c sh s0 A pl m' (leadA c st A B x) npl' L ∧ (∀ n, n = 0 ∨ n ∈ B.th ++ B.fr ++ A.old → npl' n = npl n) ∧ (x = 0 ∨ x ∈ (leadA c st A B x).th ++ (leadA c st A B x).fr ++ A.old) := by
  by_cases hy : x ∈ A.nur ++ A.hlf
  · by_cases hb : x ∈ B.th ++ B.fr
    · obtain ⟨h1, h2⟩ := led_there (st := st) R M hy hb
      exact ⟨m, npl, h1, by rw [h2]; exact M, fun _ _ => rfl, .inr (by rw [h2]; exact List.mem_append_left _ hb)⟩
    · obtain ⟨m', npl', h1, h2, h3⟩ := led_new (st := st) R M hy hb
      obtain ⟨ho, ha, hx0⟩ := R.apart hy
      refine ⟨m', npl', h1, h2, fun n hn => h3 n fun e => ?_, .inr (leadA_mem.2 hy)⟩
      subst e
      rcases hn with z | z
      · exact hx0 z
      · rcases List.mem_append.mp z with z | z
        · exact hb z
        · exact ho z
  · obtain ⟨h1, h2⟩ := led_old (st := st) R M hx hy
    refine ⟨m, npl, h1, by rw [h2]; exact M, fun _ _ => rfl, ?_⟩
    rcases hx with z | z
    · exact .inl z
    · exact .inr (by rw [h2]; exact List.mem_append_right _ ((mem_all.mp z).resolve_left hy))
def setL (L : Nat → Nat → Bool) (n j : Nat) : Nat → Nat → Bool := fun a b => L a b || (decide (a = n) && decide (b = j))
theorem setL_at {L : Nat → Nat → Bool} {n j : Nat} : setL L n j n j = true := by simp [setL]
theorem setL_ne {L : Nat → Nat → Bool} {n j a b : Nat} (h : ¬ (a = n ∧ b = j)) : setL L n j a b = L a b := by
  unfold setL
  by_cases e1 : a = n <;> by_cases e2 : b = j
  · exact absurd ⟨e1, e2⟩ h
  · simp [e2]
  · simp [e1]
  · simp [e1]
/-- what is moved or old lies apart -/
theorem Mid.apart {c : Sz} {sh : List (List Bool)} {s0 : Ms} {A : AM} {pl npl : Nat → Nat} {m : Mv} {B : Wk} {L : Nat → Nat → Bool} (R : Rep c sh s0 A pl) (M : Mid c sh s0 A pl m B npl L) {n k : Nat} (hn : n ∈ B.th ++ B.fr ++ A.old) (hk : k ∈ B.th ++ B.fr ++ A.old) (ne : n ≠ k) : npl n + wd (A.ob n) ≤ npl k ∨ npl k + wd (A.ob k) ≤ npl n := by
  obtain ⟨t, t1, t2, t3⟩ := M.nxt
  have w2 := R.w2
  obtain ⟨f1, f2, f3⟩ := hfirst_eq (c := c) (show 1 - A.which < 2 by omega)
  have key : ∀ {n : Nat}, n ∈ B.th ++ B.fr ++ A.old → (n ∈ B.th ∧ npl n + wd (A.ob n) ≤ c.fo) ∨ (n ∈ A.old ++ B.fr ∧ c.fo ≤ npl n) := fun {n} h => by
    rcases List.mem_append.mp h with z | z
    · rcases List.mem_append.mp z with z | z
      · have := t2.mem z
        rw [M.wdq n] at this
        exact .inl ⟨z, by omega⟩
      · exact .inr ⟨List.mem_append_right _ z, (M.lo.mem (List.mem_append_right _ z)).1⟩
    · exact .inr ⟨List.mem_append_left _ z, (M.lo.mem (List.mem_append_left _ z)).1⟩
  rcases key hn with ⟨x, x1⟩ | ⟨x, x1⟩ <;> rcases key hk with ⟨y, y1⟩ | ⟨y, y1⟩
  · have := t2.apart x y ne
    rw [M.wdq n, M.wdq k] at this
    exact this
  · exact .inl (by omega)
  · exact .inr (by omega)
  · have := M.lo.apart x y ne
    rw [M.wdq n, M.wdq k] at this
    exact this
theorem Mid.set {c : Sz} {sh : List (List Bool)} {s0 : Ms} {A : AM} {pl npl : Nat → Nat} {m : Mv} {B : Wk} {L : Nat → Nat → Bool} (R : Rep c sh s0 A pl) (M : Mid c sh s0 A pl m B npl L) {n j : Nat} {v : Int} (hn : n ∈ B.th ++ B.fr ++ A.old) (ev : (A.ob n).b[j]? = some v) (hf : flag sh (A.ob n).k j = true) (hv : v.toNat = 0 ∨ v.toNat ∈ B.th ++ B.fr ++ A.old) :
    npl n + 2 + j < m.s.words.length ∧ Mid c sh s0 A pl { m with s := { m.s with words := m.s.words.set (npl n + 2 + j) (npl v.toNat) } } B npl (setL L n j) := by
  have hj := (List.getElem?_eq_some_iff.mp ev).1
  have hw : npl n + 2 + j < npl n + wd (A.ob n) := by unfold wd; omega
  obtain ⟨t, t1, t2, t3⟩ := M.nxt
  have w2 := R.w2
  obtain ⟨f1, f2, f3⟩ := hfirst_eq (c := c) (show 1 - A.which < 2 by omega)
  have wl := M.lo.len
  have inr : npl n + wd (A.ob n) ≤ m.s.words.length ∧ (∀ k ∈ A.nur ++ A.hlf, pl k + wd (A.ob k) ≤ npl n ∨ npl n + wd (A.ob n) ≤ pl k) := by
    rcases List.mem_append.mp hn with z | z
    · rcases List.mem_append.mp z with z | z
      · have := t2.mem z
        rw [M.wdq n] at this
        refine ⟨by omega, fun k hk => ?_⟩
        obtain ⟨q1, q2, q3⟩ := R.young_at hk
        omega
      · have := M.lo.mem (List.mem_append_right A.old z)
        rw [M.wdq n] at this
        refine ⟨by omega, fun k hk => ?_⟩
        obtain ⟨q1, q2, q3⟩ := R.young_at hk
        omega
    · have := M.lo.mem (List.mem_append_left B.fr z)
      rw [M.wdq n] at this
      refine ⟨by omega, fun k hk => ?_⟩
      obtain ⟨q1, q2, q3⟩ := R.young_at hk
      omega
  have kk := keepW_set m.s.words (npl n + 2 + j) (npl v.toNat)
  refine ⟨by omega, { M with
    lo := by show Laid B.ob npl c.fo (A.old ++ B.fr) (m.s.words.set _ _).length; rw [List.length_set]; exact M.lo
    from_ := fun k hk => (M.from_ k hk).keep kk (by have := inr.2 k hk; omega)
    to_ := fun k hk => ?_
    Lno := fun a b e => ?_ }⟩
  · by_cases e : k = n
    · subst e
      have T := M.to_ k hk
      have obk := M.obk k
      refine ⟨kk _ _ (by omega) T.hd, kk _ _ (by omega) T.ln, fun i u eu => ?_⟩
      by_cases ei : i = j
      · subst ei
        rw [obk.1] at eu
        rw [ev] at eu
        cases eu
        show (m.s.words.set (npl k + 2 + i) _)[npl k + 2 + i]? = _
        rw [List.getElem?_set, if_pos rfl, if_pos (by omega)]
        unfold slotV plL
        rw [obk.2, hf, setL_at]
        rfl
      · have := kk _ _ (by omega) (T.bd i u eu)
        refine this.trans ?_
        unfold slotV plL
        rw [setL_ne (fun z => ei z.2)]
    · have d := M.apart R hn hk (fun z => e z.symm)
      have T := (M.to_ k hk).keep kk (by rw [M.wdq k]; omega)
      refine T.congr fun i u _ _ => ?_
      show plL (setL L n j) pl npl k i u.toNat = plL L pl npl k i u.toNat
      unfold plL
      rw [setL_ne (fun z => e z.1)]
  · by_cases h : a = n ∧ b = j
    · obtain ⟨rfl, rfl⟩ := h
      refine ⟨hn, fun x ex _ => ?_⟩
      rw [ev] at ex
      cases ex
      exact hv
    · rw [setL_ne h] at e
      exact M.Lno a b e
/-- the slot j of n -/
theorem lead_ok {c : Sz} {sh : List (List Bool)} {s0 : Ms} {A : AM} {pl npl : Nat → Nat} {m : Mv} {B : Wk} {L : Nat → Nat → Bool} {st : Bool} (R : Rep c sh s0 A pl) (M : Mid c sh s0 A pl m B npl L) {n j : Nat} {v : Int} (hn : n ∈ B.th ++ B.fr ++ A.old) (ev : (A.ob n).b[j]? = some v) (hf : flag sh (A.ob n).k j = true) (hL : L n j = false) (hna : n ∈ A.all) :
    ∃ m' npl', leadM c st (1 - A.which) m (npl n + 2 + j) = some m' ∧ Mid c sh s0 A pl m' (leadA c st A B v.toNat) npl' (setL L n j) ∧ (∀ k, k = 0 ∨ k ∈ B.th ++ B.fr ++ A.old → npl' k = npl k) := by
  have obk := M.obk n
  have w0 : m.s.words[npl n + 2 + j]? = some (pl v.toNat : Int) := by
    have := (M.to_ n hn).bd j v (by rw [obk.1]; exact ev)
    rw [this]
    unfold slotV plL
    rw [obk.2, hf, hL]
    rfl
  obtain ⟨v0, hv⟩ := R.cl n hna j v ev hf
  obtain ⟨m', npl', h1, h2, h3, h4⟩ := led_ok (st := st) R M hv
  have en : npl' n = npl n := h3 n (.inr hn)
  obtain ⟨h5, h6⟩ := h2.set R (n := n) (j := j) (v := v) (leadA_mem.1 n hn) ev hf h4
  rw [en] at h5 h6
  refine ⟨_, npl', ?_, h6, h3⟩
  unfold leadM
  rw [w0]
  simp only
  rw [h1]
  simp only
  rw [if_pos h5]
end PH

/-! Slots are led, one by one. -/
namespace PH
open PySem PySem.Spec PyProof.Rows L2 KA KI KK PV T ET
def refIx (sh : List (List Bool)) (o : Obj) : List Nat := (List.range o.b.length).filter (flag sh o.k)
theorem link_ok {sh : List (List Bool)} {s : Ms} {x : Nat} {o : Obj} (O : ObOk sh o) (sh100 : ∀ r ∈ sh, r.length ≤ 100) (hx : x ≤ 1000000) (h1 : s.words[x]? = some (headW o.k o.age o.col)) (h2 : s.words[x + 1]? = some (o.b.length : Int)) : linkM sh s x = some ((refIx sh o).map fun j => x + 2 + j) := by
  unfold linkM
  rw [h1]
  simp only
  obtain ⟨_, hk, _⟩ := head_age (k := o.k) (age := o.age) (col := o.col) (by have := O.ag; omega) (by have := O.co; omega)
  rw [hk]
  have sz := O.sz
  by_cases k0 : 0 ≤ o.k
  · rw [if_pos k0]
    obtain ⟨r, er, el⟩ := sz.2 k0
    rw [er]
    simp only
    rw [if_pos (sh100 r (List.mem_of_getElem? er))]
    unfold idxOf refIx
    rw [el]
    congr 2
    refine List.filter_congr fun j _ => ?_
    unfold flag
    rw [if_neg (by omega), er]
    rfl
  · rw [if_neg k0]
    by_cases k2 : o.k = -2
    · rw [if_pos k2, h2]
      simp only
      rw [if_pos ⟨by omega, by have := sz.1; omega, hx⟩, Int.toNat_natCast]
      unfold refIx
      congr 2
      rw [eq_comm, List.filter_eq_self]
      intro j _
      unfold flag
      rw [if_pos (by omega), k2]
      rfl
    · rw [if_neg k2]
      unfold refIx
      have : (List.range o.b.length).filter (flag sh o.k) = [] := by
        rw [List.filter_eq_nil_iff]
        intro j _
        unfold flag
        rw [if_pos (by omega)]
        simpa using k2
      rw [this]
      rfl
def refA (A : AM) (p : Nat × Nat) : Nat := ((A.ob p.1).b.getD p.2 0).toNat
def SlotOk (sh : List (List Bool)) (A : AM) (p : Nat × Nat) : Prop := p.1 ∈ A.all ∧ p.2 < (A.ob p.1).b.length ∧ flag sh (A.ob p.1).k p.2 = true
theorem SlotOk.get {sh : List (List Bool)} {A : AM} {p : Nat × Nat} (h : SlotOk sh A p) : ∃ v, (A.ob p.1).b[p.2]? = some v ∧ refA A p = v.toNat := by
  refine ⟨(A.ob p.1).b[p.2]'h.2.1, List.getElem?_eq_getElem h.2.1, ?_⟩
  unfold refA
  rw [List.getD_eq_getElem?_getD, List.getElem?_eq_getElem h.2.1]
  rfl
def setLs (L : Nat → Nat → Bool) : List (Nat × Nat) → (Nat → Nat → Bool)
  | [] => L
  | p :: r => setLs (setL L p.1 p.2) r
theorem setLs_at : ∀ {ps : List (Nat × Nat)} {L : Nat → Nat → Bool} {a b : Nat}, setLs L ps a b = true ↔ L a b = true ∨ (a, b) ∈ ps
  | [], L, a, b => by simp [setLs]
  | p :: r, L, a, b => by
    show setLs (setL L p.1 p.2) r a b = true ↔ _
    rw [setLs_at, List.mem_cons]
    have : setL L p.1 p.2 a b = true ↔ L a b = true ∨ (a, b) = p := by
      unfold setL
      rw [Bool.or_eq_true, Bool.and_eq_true, decide_eq_true_iff, decide_eq_true_iff]
      constructor
      · rintro (h | ⟨h1, h2⟩)
        · exact .inl h
        · exact .inr (by rw [h1, h2])
      · rintro (h | h)
        · exact .inl h
        · exact .inr ⟨by rw [← h], by rw [← h]⟩
    rw [this, or_assoc]
theorem lead_all {c : Sz} {sh : List (List Bool)} {s0 : Ms} {A : AM} {pl : Nat → Nat} {st : Bool} (R : Rep c sh s0 A pl) : ∀ (ps : List (Nat × Nat)) {npl : Nat → Nat} {m : Mv} {B : Wk} {L : Nat → Nat → Bool}, Mid c sh s0 A pl m B npl L → ps.Nodup → (∀ p ∈ ps, SlotOk sh A p ∧ p.1 ∈ B.th ++ B.fr ++ A.old ∧ L p.1 p.2 = false) →
    ∃ m' npl', foldO (leadM c st (1 - A.which)) m (ps.map fun p => npl p.1 + 2 + p.2) = some m' ∧ Mid c sh s0 A pl m' ((ps.map (refA A)).foldl (leadA c st A) B) npl' (setLs L ps) ∧ (∀ k, k = 0 ∨ k ∈ B.th ++ B.fr ++ A.old → npl' k = npl k) ∧ (∀ k, k ∈ B.th ++ B.fr ++ A.old → k ∈ ((ps.map (refA A)).foldl (leadA c st A) B).th ++ ((ps.map (refA A)).foldl (leadA c st A) B).fr ++ A.old)
  | [], npl, m, B, L, M, _, _ => ⟨m, npl, rfl, M, fun _ _ => rfl, fun _ h => h⟩
  | p :: r, npl, m, B, L, M, nd, h => by
    obtain ⟨nd1, nd2⟩ := List.nodup_cons.mp nd
    obtain ⟨q1, q2, q3⟩ := h p List.mem_cons_self
    obtain ⟨v, e1, e2⟩ := q1.get
    obtain ⟨m1, npl1, a1, a2, a3⟩ := lead_ok (st := st) R M q2 e1 q1.2.2 q3 q1.1
    rw [← e2] at a2
    have up := (leadA_mem (c := c) (st := st) (A := A) (B := B) (x := refA A p)).1
    obtain ⟨m2, npl2, b1, b2, b3, b4⟩ := lead_all R r a2 nd2 fun p' hp' => by
      obtain ⟨g1, g2, g3⟩ := h p' (List.mem_cons_of_mem _ hp')
      refine ⟨g1, up _ g2, ?_⟩
      rw [setL_ne (fun z => nd1 (by
        have : p' = p := Prod.ext z.1 z.2
        exact this ▸ hp'))]
      exact g3
    refine ⟨m2, npl2, ?_, b2, fun k hk => ?_, fun k hk => b4 k (up k hk)⟩
    · show (leadM c st (1 - A.which) m (npl p.1 + 2 + p.2)).bind (fun a' => foldO (leadM c st (1 - A.which)) a' (r.map fun p => npl p.1 + 2 + p.2)) = some m2
      rw [a1]
      have : (r.map fun p => npl p.1 + 2 + p.2) = r.map fun p => npl1 p.1 + 2 + p.2 := List.map_congr_left fun p' hp' => by
        rw [a3 _ (.inr (h p' (List.mem_cons_of_mem _ hp')).2.1)]
      rw [this]
      exact b1
    · rw [b3 k (hk.imp id (up k)), a3 k hk]
/-- all slots of one object -/
theorem slots_ok {c : Sz} {sh : List (List Bool)} {s0 : Ms} {A : AM} {pl npl : Nat → Nat} {m : Mv} {B : Wk} {L : Nat → Nat → Bool} {st : Bool} (R : Rep c sh s0 A pl) (M : Mid c sh s0 A pl m B npl L) {n : Nat} (hn : n ∈ B.th ++ B.fr ++ A.old) (hna : n ∈ A.all) (hL : ∀ j, L n j = false) :
    ∃ m' npl', leadSlotsM c sh st (1 - A.which) m (npl n) = some m' ∧ Mid c sh s0 A pl m' ((refsOf sh (A.ob n)).foldl (leadA c st A) B) npl' (setLs L ((refIx sh (A.ob n)).map fun j => (n, j))) ∧ (∀ k, k = 0 ∨ k ∈ B.th ++ B.fr ++ A.old → npl' k = npl k) ∧ (∀ k, k ∈ B.th ++ B.fr ++ A.old → k ∈ ((refsOf sh (A.ob n)).foldl (leadA c st A) B).th ++ ((refsOf sh (A.ob n)).foldl (leadA c st A) B).fr ++ A.old) := by
  obtain ⟨bOk, bth, bto, bmv, bw, bol, brm⟩ := M.young_len R
  have T := M.to_ n hn
  have O := R.ok n hna
  obtain ⟨ob1, ob2⟩ := M.obk n
  have hpl : npl n ≤ 1000000 := by
    have := (List.getElem?_eq_some_iff.mp T.hd).1
    omega
  have O' : ObOk sh (B.ob n) := by
    refine ⟨by rw [ob2]; exact O.k1, by rw [ob2]; exact O.k2, by rw [ob2, ob1]; exact O.sz, ?_, ?_⟩
    · by_cases z : n ∈ B.th ++ B.fr
      · exact (M.ages n z).1
      · rw [M.obn n z]; exact O.ag
    · by_cases z : n ∈ B.th ++ B.fr
      · exact (M.ages n z).2
      · rw [M.obn n z]; exact O.co
  have l1 := link_ok O' R.shr hpl T.hd T.ln
  have ri : refIx sh (B.ob n) = refIx sh (A.ob n) := by unfold refIx; rw [ob1, ob2]
  rw [ri] at l1
  have nd : ((refIx sh (A.ob n)).map fun j => (n, j)).Nodup := by
    unfold refIx
    refine List.Pairwise.map _ (fun a b h e => h (by injection e)) ((List.nodup_range).filter _)
  obtain ⟨m', npl', h1, h2, h3, h4⟩ := lead_all (st := st) R ((refIx sh (A.ob n)).map fun j => (n, j)) M nd fun p hp => by
    obtain ⟨j, hj, rfl⟩ := List.mem_map.mp hp
    unfold refIx at hj
    obtain ⟨hj1, hj2⟩ := List.mem_filter.mp hj
    exact ⟨⟨hna, List.mem_range.mp hj1, hj2⟩, hn, hL j⟩
  have er : (((refIx sh (A.ob n)).map fun j => (n, j)).map (refA A)) = refsOf sh (A.ob n) := by
    unfold refsOf refIx
    rw [List.map_map]
    rfl
  rw [er] at h2 h4
  refine ⟨m', npl', ?_, h2, h3, h4⟩
  unfold leadSlotsM
  rw [l1]
  rw [List.map_map] at h1
  exact h1
end PH

/-! All that is moved is led. -/
namespace PH
open PySem PySem.Spec PyProof.Rows L2 KA KI KK PV T ET
def scanA (c : Sz) (sh : List (List Bool)) (st : Bool) (A : AM) : Nat → Wk → Nat → Nat → Wk
  | 0, B, _, _ => B
  | f + 1, B, i, j =>
    if i < B.th.length then scanA c sh st A f ((refsOf sh (A.ob (B.th.getD i 0))).foldl (leadA c st A) B) (i + 1) j
    else if j < B.fr.length then scanA c sh st A f ((refsOf sh (A.ob (B.fr.getD j 0))).foldl (leadA c st A) B) i (j + 1)
    else B
theorem leadA_grow (c : Sz) (st : Bool) (A : AM) (B : Wk) (x : Nat) : ∃ a b, (leadA c st A B x).th = B.th ++ a ∧ (leadA c st A B x).fr = B.fr ++ b := by
  unfold leadA
  split
  · split
    · exact ⟨[x], [], rfl, (List.append_nil _).symm⟩
    · exact ⟨[], [x], (List.append_nil _).symm, rfl⟩
  · exact ⟨[], [], (List.append_nil _).symm, (List.append_nil _).symm⟩
theorem leadsA_grow (c : Sz) (st : Bool) (A : AM) : ∀ (xs : List Nat) (B : Wk), ∃ a b, (xs.foldl (leadA c st A) B).th = B.th ++ a ∧ (xs.foldl (leadA c st A) B).fr = B.fr ++ b
  | [], B => ⟨[], [], (List.append_nil _).symm, (List.append_nil _).symm⟩
  | x :: xs, B => by
    obtain ⟨a, b, h1, h2⟩ := leadA_grow c st A B x
    obtain ⟨d, e, h3, h4⟩ := leadsA_grow c st A xs (leadA c st A B x)
    exact ⟨a ++ d, b ++ e, by rw [List.foldl_cons, h3, h1, List.append_assoc], by rw [List.foldl_cons, h4, h2, List.append_assoc]⟩
theorem Mid.count {c : Sz} {sh : List (List Bool)} {s0 : Ms} {A : AM} {pl npl : Nat → Nat} {m : Mv} {B : Wk} {L : Nat → Nat → Bool} (M : Mid c sh s0 A pl m B npl L) : B.th.length + B.fr.length ≤ (A.nur ++ A.hlf).length := by
  obtain ⟨r, pr⟩ := M.rest
  have := pr.length_eq
  simp only [List.length_append] at this ⊢
  omega
/-- the state of a scan -/
structure Scan (sh : List (List Bool)) (A : AM) (B : Wk) (L : Nat → Nat → Bool) (i j : Nat) : Prop where
  hi : i ≤ B.th.length
  hj : j ≤ B.fr.length
  done : ∀ n, n ∈ B.th.take i ∨ n ∈ B.fr.take j → ∀ k, SlotOk sh A (n, k) → L n k = true
  todo : ∀ n, n ∈ B.th.drop i ∨ n ∈ B.fr.drop j → ∀ k, L n k = false
theorem take_or_drop {l : List Nat} {n i : Nat} (h : n ∈ l) : n ∈ l.take i ∨ n ∈ l.drop i := by
  rw [← List.take_append_drop i l] at h
  exact List.mem_append.mp h
theorem scan_ok {c : Sz} {sh : List (List Bool)} {s0 : Ms} {A : AM} {pl : Nat → Nat} {st : Bool} (R : Rep c sh s0 A pl) : ∀ (f : Nat) {npl : Nat → Nat} {m : Mv} {B : Wk} {L : Nat → Nat → Bool} {i j : Nat}, Mid c sh s0 A pl m B npl L → Scan sh A B L i j → (A.nur ++ A.hlf).length < f + i + j →
    ∃ m' npl' L', scanM c sh st (1 - A.which) f m i j = some m' ∧ Mid c sh s0 A pl m' (scanA c sh st A f B i j) npl' L' ∧ (∀ k, k = 0 ∨ k ∈ B.th ++ B.fr ++ A.old → npl' k = npl k) ∧ (∀ k, k ∈ B.th ++ B.fr ++ A.old → k ∈ (scanA c sh st A f B i j).th ++ (scanA c sh st A f B i j).fr ++ A.old) ∧
      (∀ n, n ∈ (scanA c sh st A f B i j).th ++ (scanA c sh st A f B i j).fr → ∀ k, SlotOk sh A (n, k) → L' n k = true) ∧ (∀ n, n ∈ A.old → L' n = L n)
  | 0, npl, m, B, L, i, j, M, S, hf => by
    have := M.count
    have := S.hi
    have := S.hj
    omega
  | f + 1, npl, m, B, L, i, j, M, S, hf => by
    have nd := M.nd
    obtain ⟨nd1, nd2, nd3⟩ := List.nodup_append.mp nd
    have step : ∀ (n i' j' : Nat), n ∈ B.th ++ B.fr → (∀ k, L n k = false) → (∀ a, a ∈ B.th.take i' ∨ a ∈ B.fr.take j' → a = n ∨ a ∈ B.th.take i ∨ a ∈ B.fr.take j) → (∀ a, a ∈ B.th.drop i' ∨ a ∈ B.fr.drop j' → a ≠ n ∧ (a ∈ B.th.drop i ∨ a ∈ B.fr.drop j)) → i' ≤ B.th.length → j' ≤ B.fr.length → (A.nur ++ A.hlf).length < f + i' + j' →
        ∃ m1, leadSlotsM c sh st (1 - A.which) m (npl n) = some m1 ∧ ∃ m' npl' L', scanM c sh st (1 - A.which) f m1 i' j' = some m' ∧ Mid c sh s0 A pl m' (scanA c sh st A f ((refsOf sh (A.ob n)).foldl (leadA c st A) B) i' j') npl' L' ∧ (∀ k, k = 0 ∨ k ∈ B.th ++ B.fr ++ A.old → npl' k = npl k) ∧ (∀ k, k ∈ B.th ++ B.fr ++ A.old → k ∈ (scanA c sh st A f ((refsOf sh (A.ob n)).foldl (leadA c st A) B) i' j').th ++ (scanA c sh st A f ((refsOf sh (A.ob n)).foldl (leadA c st A) B) i' j').fr ++ A.old) ∧
          (∀ a, a ∈ (scanA c sh st A f ((refsOf sh (A.ob n)).foldl (leadA c st A) B) i' j').th ++ (scanA c sh st A f ((refsOf sh (A.ob n)).foldl (leadA c st A) B) i' j').fr → ∀ k, SlotOk sh A (a, k) → L' a k = true) ∧ (∀ a, a ∈ A.old → L' a = L a) := by
      intro n i' j' hn hLn ht hd hi' hj' hf'
      have hny := M.sub n hn
      obtain ⟨hno, hna, _⟩ := R.apart hny
      obtain ⟨m1, npl1, a1, a2, a3, a4⟩ := slots_ok (st := st) R M (n := n) (List.mem_append_left _ hn) hna hLn
      refine ⟨m1, a1, ?_⟩
      obtain ⟨ga, gb, g1, g2⟩ := leadsA_grow c st A (refsOf sh (A.ob n)) B
      have ndN := a2.nd
      have S' : Scan sh A ((refsOf sh (A.ob n)).foldl (leadA c st A) B) (setLs L ((refIx sh (A.ob n)).map fun k => (n, k))) i' j' := by
        refine ⟨by rw [g1, List.length_append]; omega, by rw [g2, List.length_append]; omega, fun a ha k hk => ?_, fun a ha k => ?_⟩
        · rw [g1, g2, List.take_append_of_le_length hi', List.take_append_of_le_length hj'] at ha
          rw [setLs_at]
          rcases ht a ha with rfl | z
          · refine .inr (List.mem_map.mpr ⟨k, ?_, rfl⟩)
            unfold refIx
            exact List.mem_filter.mpr ⟨List.mem_range.mpr hk.2.1, hk.2.2⟩
          · exact .inl (S.done a z k hk)
        · cases e : setLs L ((refIx sh (A.ob n)).map fun k => (n, k)) a k with
          | false => rfl
          | true =>
            exfalso
            rw [g1, g2, List.drop_append_of_le_length hi', List.drop_append_of_le_length hj'] at ha
            have ha2 : (a ∈ B.th.drop i' ∨ a ∈ B.fr.drop j') ∨ (a ∈ ga ∨ a ∈ gb) := by
              rcases ha with z | z
              · rcases List.mem_append.mp z with z | z
                · exact .inl (.inl z)
                · exact .inr (.inl z)
              · rcases List.mem_append.mp z with z | z
                · exact .inl (.inr z)
                · exact .inr (.inr z)
            rcases ha2 with z | z
            · obtain ⟨ne, z2⟩ := hd a z
              rcases setLs_at.mp e with y | y
              · rw [S.todo a z2 k] at y; cases y
              · obtain ⟨k', _, e'⟩ := List.mem_map.mp y
                exact ne (by injection e' with e1 _; exact e1.symm)
            · -- one that was moved just now
              rw [g1, g2] at ndN
              obtain ⟨p1, p2, p3⟩ := List.nodup_append.mp ndN
              obtain ⟨q1, q2, q3⟩ := List.nodup_append.mp p1
              obtain ⟨r1, r2, r3⟩ := List.nodup_append.mp p2
              have nin : a ∉ B.th ++ B.fr := fun y => by
                rcases List.mem_append.mp y with y | y <;> rcases z with z | z
                · exact q3 a y a z rfl
                · exact p3 a (List.mem_append_left _ y) a (List.mem_append_right _ z) rfl
                · exact p3 a (List.mem_append_right _ z) a (List.mem_append_left _ y) rfl
                · exact r3 a y a z rfl
              have hay : a ∈ A.nur ++ A.hlf := a2.sub a (by
                rw [g1, g2]
                rcases z with z | z
                · exact List.mem_append_left _ (List.mem_append_right _ z)
                · exact List.mem_append_right _ (List.mem_append_right _ z))
              obtain ⟨hao, _, _⟩ := R.apart hay
              rcases setLs_at.mp e with y | y
              · rcases List.mem_append.mp (M.Lno a k y).1 with w | w
                · exact nin w
                · exact hao w
              · obtain ⟨k', _, e'⟩ := List.mem_map.mp y
                injection e' with e1 _
                exact nin (e1 ▸ hn)
      obtain ⟨m2, npl2, L2', b1, b2, b3, b4, b5, b6⟩ := scan_ok R f a2 S' hf'
      refine ⟨m2, npl2, L2', b1, b2, fun k hk => ?_, fun k hk => b4 k (a4 k hk), b5, fun a ha => ?_⟩
      · rw [b3 k (hk.imp id (a4 k)), a3 k hk]
      · rw [b6 a ha]
        funext k
        have : ∀ b : Bool, (setLs L ((refIx sh (A.ob n)).map fun k => (n, k)) a k = true ↔ L a k = true) → setLs L ((refIx sh (A.ob n)).map fun k => (n, k)) a k = L a k := fun _ h => by
          cases x : L a k <;> cases y : setLs L ((refIx sh (A.ob n)).map fun k => (n, k)) a k <;> simp_all
        refine this true (setLs_at.trans ⟨fun h => ?_, .inl⟩)
        rcases h with h | h
        · exact h
        · obtain ⟨k', _, e'⟩ := List.mem_map.mp h
          injection e' with e1 _
          exact absurd (e1 ▸ ha) hno
    unfold scanM scanA
    have el : m.th.length = B.th.length := by rw [M.th, List.length_map]
    have el2 : m.to.length = B.fr.length := by rw [M.to, List.length_map]
    rw [el, el2]
    by_cases h1 : i < B.th.length
    · rw [if_pos h1, if_pos h1]
      have en : B.th.getD i 0 = B.th[i] := by rw [List.getD_eq_getElem?_getD, List.getElem?_eq_getElem h1]; rfl
      have em : m.th.getD i 0 = npl B.th[i] := by rw [M.th, List.getD_eq_getElem?_getD, List.getElem?_map, List.getElem?_eq_getElem h1]; rfl
      rw [en, em]
      have hm : B.th[i] ∈ B.th := List.getElem_mem h1
      have hdr : B.th.drop i = B.th[i] :: B.th.drop (i + 1) := List.drop_eq_getElem_cons h1
      have htk : B.th.take (i + 1) = B.th.take i ++ [B.th[i]] := List.take_succ_eq_append_getElem h1
      obtain ⟨m1, s1, s2⟩ := step B.th[i] (i + 1) j (List.mem_append_left _ hm) (S.todo _ (.inl (by rw [hdr]; exact List.mem_cons_self))) (fun a ha => by
          rcases ha with z | z
          · rw [htk] at z
            rcases List.mem_append.mp z with z | z
            · exact .inr (.inl z)
            · exact .inl (List.mem_singleton.mp z)
          · exact .inr (.inr z)) (fun a ha => by
          rcases ha with z | z
          · refine ⟨fun e => ?_, .inl (by rw [hdr]; exact List.mem_cons_of_mem _ z)⟩
            have nd4 : (B.th.drop i).Nodup := nd1.sublist (List.drop_sublist _ _)
            rw [hdr] at nd4
            exact (List.nodup_cons.mp nd4).1 (e ▸ z)
          · exact ⟨fun e => nd3 _ hm a (List.mem_of_mem_drop z) e.symm, .inr z⟩) h1 S.hj (by omega)
      rw [s1]
      exact s2
    · rw [if_neg h1, if_neg h1]
      by_cases h2 : j < B.fr.length
      · rw [if_pos h2, if_pos h2]
        have en : B.fr.getD j 0 = B.fr[j] := by rw [List.getD_eq_getElem?_getD, List.getElem?_eq_getElem h2]; rfl
        have em : m.to.getD j 0 = npl B.fr[j] := by rw [M.to, List.getD_eq_getElem?_getD, List.getElem?_map, List.getElem?_eq_getElem h2]; rfl
        rw [en, em]
        have hm : B.fr[j] ∈ B.fr := List.getElem_mem h2
        have hdr : B.fr.drop j = B.fr[j] :: B.fr.drop (j + 1) := List.drop_eq_getElem_cons h2
        have htk : B.fr.take (j + 1) = B.fr.take j ++ [B.fr[j]] := List.take_succ_eq_append_getElem h2
        obtain ⟨m1, s1, s2⟩ := step B.fr[j] i (j + 1) (List.mem_append_right _ hm) (S.todo _ (.inr (by rw [hdr]; exact List.mem_cons_self))) (fun a ha => by
            rcases ha with z | z
            · exact .inr (.inl z)
            · rw [htk] at z
              rcases List.mem_append.mp z with z | z
              · exact .inr (.inr z)
              · exact .inl (List.mem_singleton.mp z)) (fun a ha => by
            rcases ha with z | z
            · exact ⟨fun e => nd3 a (List.mem_of_mem_drop z) _ hm e, .inl z⟩
            · refine ⟨fun e => ?_, .inr (by rw [hdr]; exact List.mem_cons_of_mem _ z)⟩
              have nd4 : (B.fr.drop j).Nodup := nd2.sublist (List.drop_sublist _ _)
              rw [hdr] at nd4
              exact (List.nodup_cons.mp nd4).1 (e ▸ z)) S.hi h2 (by omega)
        rw [s1]
        exact s2
      · rw [if_neg h2, if_neg h2]
        have hi := S.hi
        have hj := S.hj
        refine ⟨m, npl, L, rfl, M, fun _ _ => rfl, fun _ h => h, fun n hn k hk => S.done n ?_ k hk, fun _ _ => rfl⟩
        have e1 : i = B.th.length := by omega
        have e2 : j = B.fr.length := by omega
        rw [e1, e2, List.take_length, List.take_length]
        exact List.mem_append.mp hn
end PH

/-! What is remembered; the roots. -/
namespace PH
open PySem PySem.Spec PyProof.Rows L2 KA KI KK PV T ET
/-- places of slots of a row of objects -/
def spots (pl : Nat → Nat) (J : Nat → List Nat) (ns : List Nat) : List Nat := ns.flatMap fun n => (J n).map fun j => pl n + 2 + j
theorem spots_mem {pl : Nat → Nat} {J : Nat → List Nat} {ns : List Nat} {p : Nat} : p ∈ spots pl J ns ↔ ∃ n, n ∈ ns ∧ ∃ j, j ∈ J n ∧ p = pl n + 2 + j := by
  unfold spots
  rw [List.mem_flatMap]
  constructor
  · rintro ⟨n, hn, h⟩
    obtain ⟨j, hj, rfl⟩ := List.mem_map.mp h
    exact ⟨n, hn, j, hj, rfl⟩
  · rintro ⟨n, hn, j, hj, rfl⟩
    exact ⟨n, hn, List.mem_map.mpr ⟨j, hj, rfl⟩⟩
theorem spots_sorted {ob : Nat → Obj} {pl : Nat → Nat} {J : Nat → List Nat} (hJ : ∀ n, (J n).Pairwise (· < ·)) (hJ2 : ∀ n, ∀ j ∈ J n, j < (ob n).b.length) : ∀ {ns : List Nat} {f l : Nat}, Laid ob pl f ns l → (spots pl J ns).Pairwise (· < ·)
  | [], f, l, _ => .nil
  | n :: r, f, l, h => by
    show (((J n).map fun j => pl n + 2 + j) ++ spots pl J r).Pairwise (· < ·)
    refine List.pairwise_append.mpr ⟨?_, spots_sorted hJ hJ2 h.2, fun a ha b hb => ?_⟩
    · refine List.Pairwise.map _ (fun a b h => ?_) (hJ n)
      show pl n + 2 + a < pl n + 2 + b
      omega
    · obtain ⟨j, hj, rfl⟩ := List.mem_map.mp ha
      obtain ⟨m, hm, k, hk, rfl⟩ := spots_mem.mp hb
      have h1 := hJ2 n j hj
      have h2 := h.2.mem hm
      have h3 := h.1
      unfold wd at h2
      omega
theorem range_sorted (n : Nat) : (List.range n).Pairwise (· < ·) := List.pairwise_lt_range
theorem refIx_sorted (sh : List (List Bool)) (o : Obj) : (refIx sh o).Pairwise (· < ·) := (range_sorted _).filter _
theorem refIx_mem {sh : List (List Bool)} {o : Obj} {j : Nat} : j ∈ refIx sh o ↔ j < o.b.length ∧ flag sh o.k j = true := by
  unfold refIx
  rw [List.mem_filter, List.mem_range]
theorem nodup_of_lt {l : List Nat} (h : l.Pairwise (· < ·)) : l.Nodup := h.imp fun h => by omega
/-- one row of the same things -/
theorem nodup_perm : ∀ {a b : List Nat}, a.Nodup → b.Nodup → (∀ x, x ∈ a ↔ x ∈ b) → a.Perm b
  | [], b, _, _, h => by
    have : b = [] := List.eq_nil_iff_forall_not_mem.mpr fun x hx => by
      have := (h x).mpr hx
      cases this
    rw [this]
  | x :: a, b, na, nb, h => by
    obtain ⟨n1, n2⟩ := List.nodup_cons.mp na
    have hx : x ∈ b := (h x).mp List.mem_cons_self
    have p := List.perm_cons_erase hx
    refine (List.Perm.cons x (nodup_perm n2 (nb.erase x) fun y => ?_)).trans p.symm
    rw [nb.mem_erase_iff]
    constructor
    · intro hy
      exact ⟨fun e => n1 (e ▸ hy), (h y).mp (List.mem_cons_of_mem _ hy)⟩
    · rintro ⟨e, hy⟩
      rcases List.mem_cons.mp ((h y).mpr hy) with z | z
      · exact absurd z e
      · exact z
def remJ (sh : List (List Bool)) (A : AM) (n : Nat) : List Nat := (refIx sh (A.ob n)).filter fun j => decide (refA A (n, j) ∈ A.nur ++ A.hlf)
def remPairs (sh : List (List Bool)) (A : AM) : List (Nat × Nat) := A.old.flatMap fun n => (remJ sh A n).map fun j => (n, j)
theorem Rep.rem_eq {c : Sz} {sh : List (List Bool)} {s : Ms} {A : AM} {pl : Nat → Nat} (R : Rep c sh s A pl) : sortN s.rem = spots pl (remJ sh A) A.old := by
  have hs : (spots pl (remJ sh A) A.old).Pairwise (· < ·) := spots_sorted (fun n => (refIx_sorted sh _).filter _) (fun n j hj => (refIx_mem.mp (List.mem_filter.mp hj).1).1) R.lo
  refine sorted_one ((sortN_perm _).trans (nodup_perm R.rnd (nodup_of_lt hs) fun p => ?_)) (sortN_sorted _) (hs.imp fun h => by omega)
  rw [R.rem p, spots_mem]
  constructor
  · rintro ⟨n, hn, j, x, e1, e2, e3, rfl⟩
    refine ⟨n, hn, j, List.mem_filter.mpr ⟨refIx_mem.mpr ⟨(List.getElem?_eq_some_iff.mp e1).1, e2⟩, decide_eq_true ?_⟩, rfl⟩
    unfold refA
    rw [List.getD_eq_getElem?_getD, e1]
    exact e3
  · rintro ⟨n, hn, j, hj, rfl⟩
    obtain ⟨h1, h2⟩ := List.mem_filter.mp hj
    obtain ⟨h3, h4⟩ := refIx_mem.mp h1
    refine ⟨n, hn, j, (A.ob n).b[j], List.getElem?_eq_getElem h3, h4, ?_, rfl⟩
    have := of_decide_eq_true h2
    unfold refA at this
    rw [List.getD_eq_getElem?_getD, List.getElem?_eq_getElem h3] at this
    exact this
theorem leads_filter {c : Sz} {st : Bool} {A : AM} : ∀ (xs : List Nat) (B : Wk), (xs.filter fun x => decide (x ∈ A.nur ++ A.hlf)).foldl (leadA c st A) B = xs.foldl (leadA c st A) B
  | [], B => rfl
  | x :: xs, B => by
    rw [List.filter_cons]
    by_cases h : x ∈ A.nur ++ A.hlf
    · rw [if_pos (decide_eq_true h)]
      exact leads_filter xs (leadA c st A B x)
    · rw [if_neg (by rw [decide_eq_false h]; decide)]
      have : leadA c st A B x = B := by unfold leadA; rw [if_neg (fun z => h z.1)]
      rw [List.foldl_cons, this]
      exact leads_filter xs B
theorem remPairs_refs (sh : List (List Bool)) (A : AM) : (remPairs sh A).map (refA A) = (A.old.flatMap fun n => refsOf sh (A.ob n)).filter fun x => decide (x ∈ A.nur ++ A.hlf) := by
  unfold remPairs
  rw [List.map_flatMap, List.filter_flatMap]
  congr 1
  funext n
  show ((remJ sh A n).map fun j => (n, j)).map (refA A) = (refsOf sh (A.ob n)).filter _
  unfold remJ refsOf
  rw [List.map_map, List.filter_map]
  rfl
def minorA (c : Sz) (sh : List (List Bool)) (st : Bool) (A : AM) (hands : List Nat) : AM :=
  let B := scanA c sh st A 500000 ((A.old.flatMap fun n => refsOf sh (A.ob n)).foldl (leadA c st A) (hands.foldl (leadA c st A) ⟨A.ob, A.grey, [], []⟩)) 0 0
  { nur := [], hlf := B.th, old := A.old ++ B.fr, grey := B.grey, ob := B.ob, which := 1 - A.which, mark := A.mark }
theorem leads_ok {c : Sz} {sh : List (List Bool)} {s0 : Ms} {A : AM} {pl : Nat → Nat} {st : Bool} (R : Rep c sh s0 A pl) : ∀ (xs : List Nat) {npl : Nat → Nat} {m : Mv} {B : Wk} {L : Nat → Nat → Bool}, Mid c sh s0 A pl m B npl L → (∀ x ∈ xs, x = 0 ∨ x ∈ A.all) →
    ∃ m' npl', ledsM c st (1 - A.which) m (xs.map fun x => (pl x : Int)) = some (m', xs.map fun x => (npl' x : Int)) ∧ Mid c sh s0 A pl m' (xs.foldl (leadA c st A) B) npl' L ∧ (∀ n, n = 0 ∨ n ∈ B.th ++ B.fr ++ A.old → npl' n = npl n) ∧
      (∀ n, n ∈ B.th ++ B.fr ++ A.old → n ∈ (xs.foldl (leadA c st A) B).th ++ (xs.foldl (leadA c st A) B).fr ++ A.old) ∧ (∀ x ∈ xs, x = 0 ∨ x ∈ (xs.foldl (leadA c st A) B).th ++ (xs.foldl (leadA c st A) B).fr ++ A.old)
  | [], npl, m, B, L, M, _ => ⟨m, npl, rfl, M, fun _ _ => rfl, fun _ h => h, fun _ h => nomatch h⟩
  | x :: xs, npl, m, B, L, M, h => by
    obtain ⟨m1, npl1, a1, a2, a3, a4⟩ := led_ok (st := st) R M (h x List.mem_cons_self)
    have up := (leadA_mem (c := c) (st := st) (A := A) (B := B) (x := x)).1
    obtain ⟨m2, npl2, b1, b2, b3, b4, b5⟩ := leads_ok R xs a2 fun y hy => h y (List.mem_cons_of_mem _ hy)
    refine ⟨m2, npl2, ?_, b2, fun n hn => ?_, fun n hn => b4 n (up n hn), fun y hy => ?_⟩
    · show (ledM c st (1 - A.which) m (pl x)).bind (fun p => (ledsM c st (1 - A.which) p.1 (xs.map fun x => (pl x : Int))).map fun q => (q.1, p.2 :: q.2)) = _
      rw [a1]
      show (ledsM c st (1 - A.which) m1 (xs.map fun x => (pl x : Int))).map (fun q => (q.1, (npl1 x : Int) :: q.2)) = _
      rw [b1]
      show some (m2, (npl1 x : Int) :: xs.map fun x => (npl2 x : Int)) = some (m2, (npl2 x : Int) :: xs.map fun x => (npl2 x : Int))
      rw [b3 x a4]
    · rw [b3 n (hn.imp id (up n)), a3 n hn]
    · rcases List.mem_cons.mp hy with rfl | hy
      · exact a4.imp id (b4 y)
      · exact b5 y hy
theorem Rep.start {c : Sz} {sh : List (List Bool)} {s : Ms} {A : AM} {pl : Nat → Nat} (R : Rep c sh s A pl) : Mid c sh s A pl ⟨s, [], [], []⟩ ⟨A.ob, A.grey, [], []⟩ pl fun _ _ => false := by
  refine {
    half := R.hf, marks := R.mrk, done := rfl, ended := rfl, rem := rfl, nxl := R.nxl, nx0 := rfl, nx1 := rfl
    nxt := ⟨_, R.lt, rfl, by omega⟩
    lo := by rw [List.append_nil]; exact R.lo
    z := R.z
    npo := fun _ _ => rfl
    from_ := fun n hn => R.at_ n (mem_all.mpr (.inl hn))
    to_ := fun n hn => R.at_ n (mem_all.mpr (.inr (by simpa using hn)))
    obk := fun _ => ⟨rfl, rfl⟩
    obn := fun _ _ => rfl
    ages := fun n hn => by simp at hn
    thc := fun n hn => nomatch hn
    mv := fun n hn => by simp [List.lookup]
    mvl := rfl
    th := rfl
    to := rfl
    yg := by simp
    od := by rw [List.append_nil]; exact R.od
    gr := R.gr
    gd := R.gd
    gsub := fun n hn => by rw [List.append_nil]; exact R.gs n hn
    gb := by rw [List.append_nil]; exact R.gb
    sub := fun n hn => by simp at hn
    nd := by simp
    rest := ⟨A.nur ++ A.hlf, by simp⟩
    Lno := fun _ _ e => nomatch e }
end PH

/-! A moving whole. -/
namespace PH
open PySem PySem.Spec PyProof.Rows L2 KA KI KK PV T ET
theorem places_ok {sh : List (List Bool)} {s : Ms} {pl : Nat → Nat} {ob : Nat → Obj} (shr : ∀ r ∈ sh, r.length ≤ 100) : ∀ {ns : List Nat}, (∀ n ∈ ns, ObOk sh (ob n) ∧ pl n ≤ 1000000 ∧ s.words[pl n]? = some (headW (ob n).k (ob n).age (ob n).col) ∧ s.words[pl n + 1]? = some ((ob n).b.length : Int)) → placesM sh s (ns.map pl) = some (spots pl (fun n => refIx sh (ob n)) ns)
  | [], _ => rfl
  | n :: ns, h => by
    obtain ⟨h1, h2, h3, h4⟩ := h n List.mem_cons_self
    show (linkM sh s (pl n)).bind (fun ps => (placesM sh s (ns.map pl)).map fun qs => ps ++ qs) = _
    rw [link_ok h1 shr h2 h3 h4, places_ok shr fun m hm => h m (List.mem_cons_of_mem _ hm)]
    rfl
/-- behind the scan -/
theorem Mid.end {c : Sz} {sh : List (List Bool)} {s0 : Ms} {A : AM} {pl npl : Nat → Nat} {m : Mv} {B : Wk} {L : Nat → Nat → Bool} (R : Rep c sh s0 A pl) (M : Mid c sh s0 A pl m B npl L) (hT : ∀ n, n ∈ B.th ++ B.fr → ∀ k, SlotOk sh A (n, k) → L n k = true) (hO : ∀ n, n ∈ A.old → ∀ j, j ∈ remJ sh A n → L n j = true) :
    ∃ s', finishM c sh (1 - A.which) m = some s' ∧ Rep c sh s' { nur := [], hlf := B.th, old := A.old ++ B.fr, grey := B.grey, ob := B.ob, which := 1 - A.which, mark := A.mark } npl := by
  obtain ⟨bOk, bth, bto, bmv, bw, bol, brm⟩ := M.young_len R
  obtain ⟨t, t1, t2, t3⟩ := M.nxt
  have w2 := R.w2
  obtain ⟨f1, f2, f3⟩ := hfirst_eq (c := c) (show 1 - A.which < 2 by omega)
  have nd := M.nd
  obtain ⟨nd1, nd2, nd3⟩ := List.nodup_append.mp nd
  have allY : ∀ n ∈ B.th ++ B.fr, n ∈ A.all ∧ n ∉ A.old ∧ n ≠ 0 := fun n hn => by
    obtain ⟨h1, h2, h3⟩ := R.apart (M.sub n hn)
    exact ⟨h2, h1, h3⟩
  have inAll : ∀ n ∈ B.th ++ B.fr ++ A.old, n ∈ A.all := fun n hn => by
    rcases List.mem_append.mp hn with z | z
    · exact (allY n z).1
    · exact mem_all.mpr (.inr z)
  have okB' : ∀ n ∈ B.th ++ B.fr ++ A.old, ObOk sh (B.ob n) := fun n hn => by
    have O := R.ok n (inAll n hn)
    obtain ⟨ob1, ob2⟩ := M.obk n
    refine ⟨by rw [ob2]; exact O.k1, by rw [ob2]; exact O.k2, by rw [ob2, ob1]; exact O.sz, ?_, ?_⟩
    · by_cases z : n ∈ B.th ++ B.fr
      · exact (M.ages n z).1
      · rw [M.obn n z]; exact O.ag
    · by_cases z : n ∈ B.th ++ B.fr
      · exact (M.ages n z).2
      · rw [M.obn n z]; exact O.co
  -- a reference of what is there now is of what is there now, and is told by the new places
  have refs : ∀ n ∈ B.th ++ B.fr ++ A.old, ∀ (j : Nat) (v : Int), (A.ob n).b[j]? = some v → flag sh (A.ob n).k j = true → (v.toNat = 0 ∨ v.toNat ∈ B.th ++ B.fr ++ A.old) ∧ plL L pl npl n j v.toNat = npl v.toNat := fun n hn j v ev hf => by
    have so : SlotOk sh A (n, j) := ⟨inAll n hn, (List.getElem?_eq_some_iff.mp ev).1, hf⟩
    cases e : L n j with
    | true =>
      refine ⟨(M.Lno n j e).2 v ev hf, ?_⟩
      unfold plL
      rw [e]
      rfl
    | false =>
      rcases List.mem_append.mp hn with z | z
      · rw [hT n z j so] at e; cases e
      · have hv := R.cl n (inAll n hn) j v ev hf
        have hny : v.toNat ∉ A.nur ++ A.hlf := fun y => by
          have : j ∈ remJ sh A n := List.mem_filter.mpr ⟨refIx_mem.mpr ⟨so.2.1, hf⟩, decide_eq_true (by
            unfold refA
            rw [List.getD_eq_getElem?_getD, ev]
            exact y)⟩
          rw [hO n z j this] at e
          cases e
        unfold plL
        rw [e]
        rcases hv.2 with y | y
        · exact ⟨.inl y, by show pl v.toNat = npl v.toNat; rw [y, R.z, M.z]⟩
        · have yo := (mem_all.mp y).resolve_left hny
          exact ⟨.inr (List.mem_append_right _ yo), (M.npo _ yo).symm⟩
  have at' : ∀ n ∈ B.th ++ B.fr ++ A.old, ObjAt sh m.s.words (npl n) (fun _ => npl) (B.ob n) := fun n hn => by
    obtain ⟨ob1, ob2⟩ := M.obk n
    refine (M.to_ n hn).congr fun j v ev hf => ?_
    rw [ob1] at ev
    rw [ob2] at hf
    exact (refs n hn j v ev hf).2.symm
  have hFs : ∀ n ∈ B.fr, ObOk sh (B.ob n) ∧ npl n ≤ 1000000 ∧ m.s.words[npl n]? = some (headW (B.ob n).k (B.ob n).age (B.ob n).col) ∧ m.s.words[npl n + 1]? = some ((B.ob n).b.length : Int) := fun n hn => by
    have h3 : n ∈ B.th ++ B.fr ++ A.old := List.mem_append_left _ (List.mem_append_right _ hn)
    have T := at' n h3
    exact ⟨okB' n h3, by have := (List.getElem?_eq_some_iff.mp T.hd).1; omega, T.hd, T.ln⟩
  have ep : placesM sh m.s m.to = some (spots npl (fun n => refIx sh (B.ob n)) B.fr) := by rw [M.to]; exact places_ok R.shr hFs
  obtain ⟨mid, lo1, lo2⟩ := M.lo.app
  have ps_sorted : (spots npl (fun n => refIx sh (B.ob n)) B.fr).Pairwise (· < ·) := spots_sorted (fun n => refIx_sorted sh _) (fun n j hj => (refIx_mem.mp hj).1) lo2
  -- where a place is, and what it holds
  have spotAt : ∀ n ∈ B.th ++ B.fr ++ A.old, ∀ (j : Nat) (v : Int), (B.ob n).b[j]? = some v → flag sh (B.ob n).k j = true → m.s.words[npl n + 2 + j]? = some (npl v.toNat : Int) := fun n hn j v ev hf => by
    rw [(at' n hn).bd j v ev]
    unfold slotV
    rw [if_pos hf]
  have isYoung : ∀ x, x = 0 ∨ x ∈ B.th ++ B.fr ++ A.old → ((0 < npl x ∧ npl x < c.fo) ↔ x ∈ B.th) := fun x hx => by
    constructor
    · intro h
      rcases hx with rfl | hx
      · rw [M.z] at h; omega
      · rcases List.mem_append.mp hx with z | z
        · rcases List.mem_append.mp z with z | z
          · exact z
          · have := (M.lo.mem (List.mem_append_right A.old z)).1
            omega
        · have := (M.lo.mem (List.mem_append_left B.fr z)).1
          omega
    · intro h
      have := t2.mem h
      have : 2 ≤ wd (B.ob x) := by unfold wd; omega
      omega
  have youngIff : ∀ (s : Ms), s.words = m.s.words → ∀ n ∈ B.th ++ B.fr ++ A.old, ∀ (j : Nat) (v : Int), (B.ob n).b[j]? = some v → flag sh (B.ob n).k j = true → (youngW c s (npl n + 2 + j) = true ↔ v.toNat ∈ B.th) := fun s es n hn j v ev hf => by
    obtain ⟨ob1, ob2⟩ := M.obk n
    have hv := (refs n hn j v (by rw [← ob1]; exact ev) (by rw [← ob2]; exact hf)).1
    unfold youngW
    rw [es, List.getD_eq_getElem?_getD, spotAt n hn j v ev hf, decide_eq_true_iff]
    show (0 < (npl v.toNat : Int) ∧ (npl v.toNat : Int) < (c.fo : Int)) ↔ _
    rw [← isYoung _ hv]
    omega
  have remIn : ∀ p ∈ m.s.rem, ∃ n, n ∈ A.old ∧ ∃ (j : Nat) (v : Int), (B.ob n).b[j]? = some v ∧ flag sh (B.ob n).k j = true ∧ p = npl n + 2 + j := fun p hp => by
    rw [M.rem] at hp
    obtain ⟨n, hn, j, x, e1, e2, e3, rfl⟩ := (R.rem p).mp hp
    obtain ⟨ob1, ob2⟩ := M.obk n
    exact ⟨n, hn, j, x, by rw [ob1]; exact e1, by rw [ob2]; exact e2, by rw [M.npo n hn]⟩
  have psIn : ∀ p ∈ spots npl (fun n => refIx sh (B.ob n)) B.fr, ∃ n, n ∈ B.fr ∧ ∃ (j : Nat) (v : Int), (B.ob n).b[j]? = some v ∧ flag sh (B.ob n).k j = true ∧ p = npl n + 2 + j := fun p hp => by
    obtain ⟨n, hn, j, hj, rfl⟩ := spots_mem.mp hp
    obtain ⟨h1, h2⟩ := refIx_mem.mp hj
    exact ⟨n, hn, j, (B.ob n).b[j], List.getElem?_eq_getElem h1, h2, rfl⟩
  have endOf' : ∀ {n j : Nat} {v : Int}, (B.ob n).b[j]? = some v → npl n + 2 + j < npl n + wd (B.ob n) := fun {n j v} e => by
    have := (List.getElem?_eq_some_iff.mp e).1
    unfold wd
    omega
  have ndAll : (m.s.rem ++ spots npl (fun n => refIx sh (B.ob n)) B.fr).Nodup := by
    refine List.nodup_append.mpr ⟨by rw [M.rem]; exact R.rnd, nodup_of_lt ps_sorted, fun a ha b hb e => ?_⟩
    subst e
    obtain ⟨n, hn, j, v, e1, _, e2⟩ := remIn a ha
    obtain ⟨n', hn', j', v', e1', _, e2'⟩ := psIn a hb
    have q1 := lo1.mem hn
    have q2 := lo2.mem hn'
    have q3 := endOf' e1
    have q4 := endOf' e1'
    omega
  have ltAll : ∀ p ∈ m.s.rem ++ spots npl (fun n => refIx sh (B.ob n)) B.fr, p < m.s.words.length := fun p hp => by
    rcases List.mem_append.mp hp with z | z
    · obtain ⟨n, hn, j, v, e1, _, rfl⟩ := remIn p z
      have := (M.lo.mem (List.mem_append_left B.fr hn)).2
      have := endOf' e1
      omega
    · obtain ⟨n, hn, j, v, e1, _, rfl⟩ := psIn p z
      have := (M.lo.mem (List.mem_append_right A.old hn)).2
      have := endOf' e1
      omega
  have lenAll := nodup_lt ndAll ltAll
  have thnd : m.th.Nodup := by
    rw [M.th]
    exact nodup_of_lt t2.sorted
  have hgo : (m.s.rem ++ spots npl (fun n => refIx sh (B.ob n)) B.fr).Nodup ∧ (∀ p ∈ m.s.rem ++ spots npl (fun n => refIx sh (B.ob n)) B.fr, p < m.s.words.length) ∧ m.th.Nodup ∧ (m.s.rem ++ spots npl (fun n => refIx sh (B.ob n)) B.fr).length ≤ 500000 ∧ m.th.length ≤ 500000 ∧ m.s.half < 2 ∧ m.s.nexts.length = 3 := ⟨ndAll, ltAll, thnd, by omega, by omega, by rw [M.half]; exact w2, M.nxl⟩
  refine ⟨{ m.s with half := 1 - A.which, young := m.th, nexts := (m.s.nexts.set 0 1).set (1 + m.s.half) (c.firsts.getD (1 + m.s.half) 0), rem := (m.s.rem ++ spots npl (fun n => refIx sh (B.ob n)) B.fr).filter (youngW c { m.s with young := m.th, nexts := (m.s.nexts.set 0 1).set (1 + m.s.half) (c.firsts.getD (1 + m.s.half) 0), half := 1 - A.which }) }, ?_, ?_⟩
  · unfold finishM
    rw [ep]
    simp only
    rw [if_pos hgo]
  obtain ⟨r, pr⟩ := M.rest
  have memN : ∀ n, n ∈ (AM.all { nur := [], hlf := B.th, old := A.old ++ B.fr, grey := B.grey, ob := B.ob, which := 1 - A.which, mark := A.mark }) ↔ n ∈ B.th ++ B.fr ++ A.old := fun n => by
    show n ∈ ([] ++ B.th) ++ (A.old ++ B.fr) ↔ _
    simp only [List.mem_append, List.nil_append]
    constructor
    · rintro (h | h | h) <;> simp [h]
    · rintro ((h | h) | h) <;> simp [h]
  refine {
    cz := R.cz, shl := R.shl, shr := R.shr, hf := rfl
    w2 := by show 1 - A.which < 2; omega
    mrk := M.marks
    z := M.z
    nxl := by show ((m.s.nexts.set 0 1).set _ _).length = 3; rw [List.length_set, List.length_set]; exact M.nxl
    ln := ⟨1, ?_, rfl, by omega⟩
    lh := ⟨t, ?_, t2, t3⟩
    lt := ?_
    lo := M.lo
    at_ := fun n hn => at' n ((memN n).mp hn)
    yg := ?_
    od := M.od
    rnd := ndAll.filter _
    rem := ?_
    gs := M.gsub
    gr := M.gr
    gd := M.gd
    gb := M.gb
    en := by show m.s.ended.length = 3; rw [M.ended]; exact R.en
    nd := ?_
    n0 := fun h => R.n0 (inAll 0 ((memN 0).mp h))
    ok := fun n hn => okB' n ((memN n).mp hn)
    cl := ?_
    yc := fun n hn => M.thc n (by simpa using hn)
    bud := ?_ }
  · show ((m.s.nexts.set 0 1).set (1 + m.s.half) _)[0]? = some 1
    have := M.nxl
    rw [List.getElem?_set, if_neg (by omega), List.getElem?_set, if_pos rfl, if_pos (by omega)]
  · show ((m.s.nexts.set 0 1).set (1 + m.s.half) _)[1 + (1 - A.which)]? = some t
    have h := M.half
    rw [List.getElem?_set, if_neg (by omega), List.getElem?_set, if_neg (by omega)]
    exact t1
  · show ((m.s.nexts.set 0 1).set (1 + m.s.half) _)[1 + (1 - (1 - A.which))]? = some (hfirst c (1 - (1 - A.which)))
    have h := M.half
    have e : 1 - (1 - A.which) = A.which := by omega
    rw [e, h, List.getElem?_set, if_pos rfl, if_pos (by rw [List.length_set, M.nxl]; omega)]
    rfl
  · show m.th.Perm ((B.th ++ []).map npl)
    rw [M.th, List.append_nil]
  · intro p
    show p ∈ (m.s.rem ++ _).filter _ ↔ ∃ n, n ∈ A.old ++ B.fr ∧ ∃ (j : Nat) (x : Int), (B.ob n).b[j]? = some x ∧ flag sh (B.ob n).k j = true ∧ x.toNat ∈ [] ++ B.th ∧ p = npl n + 2 + j
    rw [List.mem_filter, List.nil_append]
    constructor
    · rintro ⟨h1, h2⟩
      rcases List.mem_append.mp h1 with z | z
      · obtain ⟨n, hn, j, v, e1, e2, rfl⟩ := remIn p z
        exact ⟨n, List.mem_append_left _ hn, j, v, e1, e2, (youngIff _ rfl n (List.mem_append_right _ hn) j v e1 e2).mp h2, rfl⟩
      · obtain ⟨n, hn, j, v, e1, e2, rfl⟩ := psIn p z
        exact ⟨n, List.mem_append_right _ hn, j, v, e1, e2, (youngIff _ rfl n (List.mem_append_left _ (List.mem_append_right _ hn)) j v e1 e2).mp h2, rfl⟩
    · rintro ⟨n, hn, j, v, e1, e2, e3, rfl⟩
      have hn3 : n ∈ B.th ++ B.fr ++ A.old := by
        rcases List.mem_append.mp hn with z | z
        · exact List.mem_append_right _ z
        · exact List.mem_append_left _ (List.mem_append_right _ z)
      refine ⟨?_, (youngIff _ rfl n hn3 j v e1 e2).mpr e3⟩
      obtain ⟨ob1, ob2⟩ := M.obk n
      rcases List.mem_append.mp hn with z | z
      · refine List.mem_append_left _ ?_
        rw [M.rem, R.rem, M.npo n z]
        exact ⟨n, z, j, v, by rw [← ob1]; exact e1, by rw [← ob2]; exact e2, M.sub _ (List.mem_append_left _ e3), rfl⟩
      · exact List.mem_append_right _ (spots_mem.mpr ⟨n, z, j, refIx_mem.mpr ⟨(List.getElem?_eq_some_iff.mp e1).1, e2⟩, rfl⟩)
  · show (([] ++ B.th) ++ (A.old ++ B.fr)).Nodup
    rw [List.nil_append]
    have hA := R.nd
    unfold AM.all at hA
    obtain ⟨_, ao, _⟩ := List.nodup_append.mp hA
    refine List.nodup_append.mpr ⟨nd1, List.nodup_append.mpr ⟨ao, nd2, fun a ha b hb e => ?_⟩, fun a ha b hb e => ?_⟩
    · subst e
      exact (allY a (List.mem_append_right _ hb)).2.1 ha
    · subst e
      rcases List.mem_append.mp hb with z | z
      · exact (allY a (List.mem_append_left _ ha)).2.1 z
      · exact nd3 a ha a z rfl
  · intro n hn j x ev hf
    have hn3 := (memN n).mp hn
    obtain ⟨ob1, ob2⟩ := M.obk n
    have ev : (B.ob n).b[j]? = some x := ev
    have hf : flag sh (B.ob n).k j = true := hf
    rw [ob1] at ev
    rw [ob2] at hf
    refine ⟨(R.cl n (inAll n hn3) j x ev hf).1, (refs n hn3 j x ev hf).1.imp id fun h => (memN _).mpr h⟩
  · show wsum B.ob (([] ++ B.th) ++ (A.old ++ B.fr)) ≤ 100000
    have bud := R.bud
    have e1 : wsum B.ob (([] ++ B.th) ++ (A.old ++ B.fr)) = wsum A.ob (([] ++ B.th) ++ (A.old ++ B.fr)) := wsum_congr fun n _ => M.wdq n
    have e2 : wsum A.ob A.all = wsum A.ob (A.nur ++ A.hlf) + wsum A.ob A.old := by unfold AM.all; rw [wsum_app]
    have e3 : wsum A.ob (A.nur ++ A.hlf) = wsum A.ob r + (wsum A.ob B.th + wsum A.ob B.fr) := by rw [wsum_perm A.ob pr, wsum_app, wsum_app]
    rw [e1, List.nil_append, wsum_app, wsum_app]
    omega
end PH

/-! A whole moving. -/
namespace PH
open PySem PySem.Spec PyProof.Rows L2 KA KI KK PV T ET
theorem remPairs_mem {sh : List (List Bool)} {A : AM} {p : Nat × Nat} : p ∈ remPairs sh A ↔ p.1 ∈ A.old ∧ p.2 ∈ remJ sh A p.1 := by
  unfold remPairs
  rw [List.mem_flatMap]
  constructor
  · rintro ⟨n, hn, h⟩
    obtain ⟨j, hj, rfl⟩ := List.mem_map.mp h
    exact ⟨hn, hj⟩
  · rintro ⟨h1, h2⟩
    exact ⟨p.1, h1, List.mem_map.mpr ⟨p.2, h2, rfl⟩⟩
theorem remPairs_nodup {sh : List (List Bool)} {A : AM} : ∀ {ns : List Nat}, ns.Nodup → (ns.flatMap fun n => (remJ sh A n).map fun j => (n, j)).Nodup
  | [], _ => .nil
  | n :: r, h => by
    obtain ⟨h1, h2⟩ := List.nodup_cons.mp h
    rw [List.flatMap_cons]
    refine List.nodup_append.mpr ⟨?_, remPairs_nodup h2, fun a ha b hb e => ?_⟩
    · refine List.Pairwise.map _ (fun a b (hab : a ≠ b) (e : (n, a) = (n, b)) => hab (congrArg Prod.snd e)) ?_
      exact nodup_of_lt ((refIx_sorted sh _).filter _)
    · subst e
      obtain ⟨j, _, rfl⟩ := List.mem_map.mp ha
      obtain ⟨m, hm, h3⟩ := List.mem_flatMap.mp hb
      obtain ⟨j', _, e⟩ := List.mem_map.mp h3
      have : m = n := congrArg Prod.fst e
      exact h1 (this ▸ hm)
theorem spots_pairs (pl : Nat → Nat) (sh : List (List Bool)) (A : AM) : (remPairs sh A).map (fun p => pl p.1 + 2 + p.2) = spots pl (remJ sh A) A.old := by
  unfold remPairs spots
  rw [List.map_flatMap]
  congr 1
  funext n
  rw [List.map_map]
  rfl
theorem moveYoung_ok {c : Sz} {sh : List (List Bool)} {s : Ms} {A : AM} {pl : Nat → Nat} {st : Bool} (R : Rep c sh s A pl) {hands : List Nat} (hh : ∀ x ∈ hands, x = 0 ∨ x ∈ A.all) :
    ∃ s' pl', moveYoungM c sh st s (hands.map fun x => (pl x : Int)) = some (s', hands.map fun x => (pl' x : Int)) ∧ Rep c sh s' (minorA c sh st A hands) pl' ∧ (∀ x ∈ hands, x = 0 ∨ x ∈ (minorA c sh st A hands).all) ∧ s'.ended = s.ended ∧ s'.done = s.done := by
  obtain ⟨m1, npl1, a1, a2, a3, a4, a5⟩ := leads_ok (st := st) R hands R.start hh
  have M1 := a2
  obtain ⟨bOk, _⟩ := M1.young_len R
  have sr : sortN m1.s.rem = (remPairs sh A).map fun p => npl1 p.1 + 2 + p.2 := by
    rw [M1.rem, R.rem_eq, spots_pairs]
    unfold spots
    refine congrArg List.flatten (List.map_congr_left fun n hn => ?_)
    rw [M1.npo n hn]
  have nd := R.nd
  unfold AM.all at nd
  have od : A.old.Nodup := (List.nodup_append.mp nd).2.1
  obtain ⟨m2, npl2, b1, b2, b3, b4⟩ := lead_all (st := st) R (remPairs sh A) M1 (remPairs_nodup od) fun p hp => by
    obtain ⟨h1, h2⟩ := remPairs_mem.mp hp
    obtain ⟨h3, h4⟩ := List.mem_filter.mp h2
    obtain ⟨h5, h6⟩ := refIx_mem.mp h3
    exact ⟨⟨mem_all.mpr (.inr h1), h5, h6⟩, List.mem_append_right _ h1, rfl⟩
  rw [remPairs_refs, leads_filter] at b2 b4
  have yo : ∀ n, n ∈ A.old → n ∉ A.nur ++ A.hlf := fun n hn h => (R.apart h).1 hn
  have ylen : (A.nur ++ A.hlf).length < 500000 := by
    have h1 := wsum_len A.ob A.all
    have h2 := R.bud
    have h3 : A.all.length = (A.nur ++ A.hlf).length + A.old.length := by unfold AM.all; rw [List.length_append]
    omega
  obtain ⟨m3, npl3, L3, c1, c2, c3, c4, c5, c6⟩ := scan_ok (st := st) R 500000 b2 (i := 0) (j := 0) ⟨Nat.zero_le _, Nat.zero_le _, fun n h => by simp at h, fun n h k => by
    cases e : setLs (fun _ _ => false) (remPairs sh A) n k with
    | false => rfl
    | true =>
      rcases setLs_at.mp e with z | z
      · cases z
      · refine absurd ?_ (yo n (remPairs_mem.mp z).1)
        refine b2.sub n ?_
        rw [List.drop_zero, List.drop_zero] at h
        exact List.mem_append.mpr h⟩ (by omega)
  obtain ⟨s', d1, d2⟩ := c2.end R c5 fun n hn j hj => by
    rw [c6 n hn]
    exact setLs_at.mpr (.inr (remPairs_mem.mpr ⟨hn, hj⟩))
  have up : ∀ x ∈ hands, npl3 x = npl1 x := fun x hx => by
    have h := a5 x hx
    exact (c3 x (h.imp id (b4 x))).trans (b3 x h)
  have hd := d1
  refine ⟨s', npl3, ?_, d2, fun x hx => ?_, ?_, ?_⟩
  · unfold moveYoungM
    rw [R.hf, a1]
    show (if m1.s.rem.length ≤ 500000 ∧ m1.s.half = A.which then _ else none) = _
    rw [if_pos ⟨bOk.2.2.2.2, M1.half⟩, sr, b1]
    show (scanM c sh st (1 - A.which) 500000 m2 0 0).bind _ = _
    rw [c1]
    show (finishM c sh (1 - A.which) m3).map _ = _
    rw [d1]
    show some (s', hands.map fun x => (npl1 x : Int)) = some (s', hands.map fun x => (npl3 x : Int))
    have : (hands.map fun x => (npl1 x : Int)) = hands.map fun x => (npl3 x : Int) := List.map_congr_left fun x hx => by rw [up x hx]
    rw [this]
  · refine (a5 x hx).imp id fun h => ?_
    have := c4 x (b4 x h)
    unfold minorA AM.all
    simp only [List.nil_append]
    rcases List.mem_append.mp this with z | z
    · rcases List.mem_append.mp z with z | z
      · exact List.mem_append_left _ z
      · exact List.mem_append_right _ (List.mem_append_right _ z)
    · exact List.mem_append_right _ (List.mem_append_left _ z)
  · unfold finishM at hd
    split at hd
    · cases hd
    · split at hd
      · cases hd
        exact c2.ended
      · cases hd
  · unfold finishM at hd
    split at hd
    · cases hd
    · split at hd
      · cases hd
        exact c2.done
      · cases hd
end PH

/-! A heap's deeds on objects: minor, make, put a word; what it tells. -/
namespace PH
open PySem PySem.Spec PyProof.Rows L2 KA KI KK PV T ET
theorem Rep.ended {c : Sz} {sh : List (List Bool)} {s : Ms} {A : AM} {pl : Nat → Nat} (R : Rep c sh s A pl) (es : List Int) (h : es.length = 3) : Rep c sh { s with ended := es } A pl :=
  ⟨R.cz, R.shl, R.shr, R.hf, R.w2, R.mrk, R.z, R.nxl, R.ln, R.lh, R.lt, R.lo, R.at_, R.yg, R.od, R.rnd, R.rem, R.gs, R.gr, R.gd, R.gb, h, R.nd, R.n0, R.ok, R.cl, R.yc, R.bud⟩
theorem endedM_ok {c : Sz} {sh : List (List Bool)} {s : Ms} {A : AM} {pl : Nat → Nat} (R : Rep c sh s A pl) {i : Nat} (hi : i < 3) : ∃ s', endedM s i = some s' ∧ Rep c sh s' A pl ∧ s'.ended = s.ended.set i (s.ended.getD i 0 + 1) := by
  have en := R.en
  have e : s.ended[i]? = some (s.ended.getD i 0) := by
    rw [List.getD_eq_getElem?_getD, List.getElem?_eq_getElem (by omega)]
    rfl
  refine ⟨{ s with ended := s.ended.set i (s.ended.getD i 0 + 1) }, ?_, R.ended _ (by rw [List.length_set]; exact en), rfl⟩
  unfold endedM
  rw [e]
theorem minor_ok {c : Sz} {sh : List (List Bool)} {s : Ms} {A : AM} {pl : Nat → Nat} (R : Rep c sh s A pl) {hands : List Nat} (hh : ∀ x ∈ hands, x = 0 ∨ x ∈ A.all) :
    ∃ s' pl', minorM c sh s (hands.map fun x => (pl x : Int)) = some (s', hands.map fun x => (pl' x : Int)) ∧ Rep c sh s' (minorA c sh false A hands) pl' ∧ (∀ x ∈ hands, x = 0 ∨ x ∈ (minorA c sh false A hands).all) := by
  obtain ⟨s1, e1, R1, _⟩ := endedM_ok R (i := 0) (by omega)
  obtain ⟨s', pl', h1, h2, h3, _⟩ := moveYoung_ok (st := false) R1 hh
  refine ⟨s', pl', ?_, h2, h3⟩
  unfold minorM
  rw [if_pos (by rw [R.hf]; exact R.w2), e1]
  exact h1
theorem inL_n {l : List Nat} {n : Nat} : inL l (n : Int) = decide (n ∈ l) := by
  unfold inL
  by_cases e : n ∈ l
  · rw [decide_eq_true e]
    exact decide_eq_true (List.mem_map.mpr ⟨n, e, rfl⟩)
  · rw [decide_eq_false e]
    refine decide_eq_false fun z => e ?_
    obtain ⟨m, hm, e2⟩ := List.mem_map.mp z
    have : m = n := by omega
    exact this ▸ hm
theorem Rep.isOb {c : Sz} {sh : List (List Bool)} {s : Ms} {A : AM} {pl : Nat → Nat} (R : Rep c sh s A pl) {n : Nat} (h : n ∈ A.all) : isOb s (pl n) = true := by
  unfold PH.isOb
  rw [inL_n, inL_n]
  rcases mem_all.mp h with z | z
  · rw [decide_eq_true (show pl n ∈ s.young from R.yg.mem_iff.mpr (List.mem_map.mpr ⟨n, by simpa [or_comm] using z, rfl⟩)), Bool.or_true]
  · rw [decide_eq_true (show pl n ∈ s.old by rw [R.od]; exact List.mem_map.mpr ⟨n, z, rfl⟩), Bool.true_or]
theorem Rep.roots {c : Sz} {sh : List (List Bool)} {s : Ms} {A : AM} {pl : Nat → Nat} (R : Rep c sh s A pl) {hands : List Nat} (hh : ∀ x ∈ hands, x = 0 ∨ x ∈ A.all) : rootsIn s (hands.map fun x => (pl x : Int)) := fun r hr => by
  obtain ⟨x, hx, rfl⟩ := List.mem_map.mp hr
  rcases hh x hx with rfl | z
  · left; rw [R.z]; rfl
  · exact .inr (R.isOb z)
/-- no two lie on one another -/
theorem Rep.apart2 {c : Sz} {sh : List (List Bool)} {s : Ms} {A : AM} {pl : Nat → Nat} (R : Rep c sh s A pl) {n m : Nat} (hn : n ∈ A.all) (hm : m ∈ A.all) (ne : n ≠ m) : pl n + wd (A.ob n) ≤ pl m ∨ pl m + wd (A.ob m) ≤ pl n := by
  obtain ⟨a, a1, a2, a3⟩ := R.ln
  obtain ⟨b, b1, b2, b3⟩ := R.lh
  have w2 := R.w2
  obtain ⟨e1, e2, _⟩ := hfirst_eq (c := c) w2
  have key : ∀ {n : Nat}, n ∈ A.all → (n ∈ A.nur ∧ pl n + wd (A.ob n) ≤ c.1 + 1) ∨ (n ∈ A.hlf ∧ c.1 + 1 ≤ pl n ∧ pl n + wd (A.ob n) ≤ c.fo) ∨ (n ∈ A.old ∧ c.fo ≤ pl n) := fun {n} h => by
    rcases mem_all.mp h with z | z
    · rcases List.mem_append.mp z with z | z
      · have := a2.mem z
        exact .inl ⟨z, by omega⟩
      · have := b2.mem z
        exact .inr (.inl ⟨z, by omega, by omega⟩)
    · exact .inr (.inr ⟨z, (R.lo.mem z).1⟩)
  have fo : c.fo = c.1 + 2 * c.2.1 + 1 := rfl
  rcases key hn with ⟨x, x1⟩ | ⟨x, x1, x2⟩ | ⟨x, x1⟩ <;> rcases key hm with ⟨y, y1⟩ | ⟨y, y1, y2⟩ | ⟨y, y1⟩
  · exact a2.apart x y ne
  · omega
  · omega
  · omega
  · exact b2.apart x y ne
  · omega
  · omega
  · omega
  · exact R.lo.apart x y ne
def newO (k : Int) (n : Nat) : Obj := ⟨k, 0, 0, List.replicate n 0⟩
def addA (A : AM) (m : Nat) (k : Int) (n : Nat) : AM := { A with nur := A.nur ++ [m], ob := fun y => if y = m then newO k n else A.ob y }
theorem make_ok {c : Sz} {sh : List (List Bool)} {s : Ms} {A : AM} {pl : Nat → Nat} (R : Rep c sh s A pl) {m n : Nat} {k : Int} (hm : m ∉ A.all) (hm0 : m ≠ 0) (hk : -3 ≤ k) (hk2 : k < sh.length) (hs : sizeOk sh k n) (hg : 2 + n ≤ c.2.2.1) (hr : wsum A.ob A.nur + 2 + n ≤ c.1) (hb : wsum A.ob A.all + 2 + n ≤ 100000) :
    ∃ s', layM c s k n = some (s', 1 + wsum A.ob A.nur) ∧ Rep c sh s' (addA A m k n) (fun y => if y = m then 1 + wsum A.ob A.nur else pl y) := by
  obtain ⟨n0, h0, h1, h2⟩ := R.ln
  have e0 := h1.len
  obtain ⟨n1, g0, g1, g2⟩ := R.lh
  have w2 := R.w2
  obtain ⟨f1, f2, f3⟩ := hfirst_eq (c := c) w2
  have fo : c.fo = c.1 + 2 * c.2.1 + 1 := rfl
  have wl := R.wl
  have xe : 1 + wsum A.ob A.nur = n0 := by omega
  have n1000 : n ≤ 1000 := hs.1
  have lw : (objW k 0 n).length = n + 2 := objW_len k 0 n
  have fit : n0 + (objW k 0 n).length ≤ s.words.length := by rw [lw]; omega
  have wa : wsum A.ob A.all = wsum A.ob (A.nur ++ A.hlf) + wsum A.ob A.old := by unfold AM.all; rw [wsum_app]
  have bud := R.bud
  have yl : s.young.length = (A.nur ++ A.hlf).length := by
    rw [R.yg.length_eq, List.length_map]
    simp only [List.length_append]
    omega
  have ol : s.old.length = A.old.length := by rw [R.od, List.length_map]
  have l1 := wsum_len A.ob (A.nur ++ A.hlf)
  have l2 := wsum_len A.ob A.old
  have gl : s.grey.length ≤ A.old.length := Nat.le_trans R.gb (List.length_filter_le _ _)
  have c3 := R.cz
  have rml : s.rem.length ≤ s.words.length := nodup_lt R.rnd fun p hp => by
    obtain ⟨a, ha, j, x, e, _, _, rfl⟩ := (R.rem p).mp hp
    have := (R.old_at ha).2
    have := (List.getElem?_eq_some_iff.mp e).1
    unfold wd at *
    omega
  have okb : okB s := by
    obtain ⟨z1, z2, z3, z4, z5, z6, z7⟩ := c3
    refine ⟨by omega, by omega, by omega, by omega, by omega⟩
  have nold : s.words.length ∉ s.old := fun z => by
    rw [R.od] at z
    obtain ⟨a, ha, e⟩ := List.mem_map.mp z
    have := (R.old_at ha).2
    unfold wd at this
    omega
  have nyg : n0 ∉ s.young := fun z => by
    have := R.yg.mem_iff.mp z
    obtain ⟨a, ha, e⟩ := List.mem_map.mp this
    rcases List.mem_append.mp ha with y | y
    · have := (g1.mem y).1
      omega
    · have := (h1.mem y).2
      unfold wd at this
      omega
  have ha : ∀ y ∈ A.all, y ≠ m := fun y hy e => hm (e ▸ hy)
  have obA : ∀ y, y ≠ m → (addA A m k n).ob y = A.ob y := fun y e => if_neg e
  have obM : (addA A m k n).ob m = newO k n := if_pos rfl
  have wdM : wd (newO k n) = n + 2 := by show (List.replicate n 0).length + 2 = _; rw [List.length_replicate]
  have memA : ∀ y, y ∈ (addA A m k n).all ↔ y ∈ A.all ∨ y = m := fun y => by
    show y ∈ (A.nur ++ [m]) ++ A.hlf ++ A.old ↔ y ∈ A.nur ++ A.hlf ++ A.old ∨ y = m
    simp only [List.mem_append, List.mem_singleton]
    constructor
    · rintro (((h | h) | h) | h) <;> simp [h]
    · rintro (((h | h) | h) | h) <;> simp [h]
  refine ⟨layY s 0 n0 (objW k 0 n), ?_, ?_⟩
  · unfold layM
    have sl := R.shl
    rw [if_pos ⟨okb, by omega, n1000, nold⟩, if_neg (by omega), h0]
    show (if n0 + (n + 2) ≤ s.words.length ∧ n0 ∉ s.young then some (layY s 0 n0 (objW k 0 n), n0) else none) = _
    rw [if_pos ⟨by omega, nyg⟩, xe]
  have KW := keepW_lay fit
  rw [xe]
  have plA : ∀ y, y ≠ m → (fun y => if y = m then n0 else pl y) y = pl y := fun y e => if_neg e
  have plM : (fun y => if y = m then n0 else pl y) m = n0 := if_pos rfl
  have nxl := R.nxl
  have cA : ∀ {f l : Nat} {ns : List Nat}, Laid A.ob pl f ns l → (∀ y ∈ ns, y ∈ A.all) → Laid (addA A m k n).ob (fun y => if y = m then n0 else pl y) f ns l := fun h hx => h.congr fun y hy => ⟨plA y (ha y (hx y hy)), by rw [obA y (ha y (hx y hy))]⟩
  have inN : ∀ y ∈ A.nur, y ∈ A.all := fun y h => mem_all.mpr (.inl (List.mem_append_left _ h))
  have inH : ∀ y ∈ A.hlf, y ∈ A.all := fun y h => mem_all.mpr (.inl (List.mem_append_right _ h))
  have inO : ∀ y ∈ A.old, y ∈ A.all := fun y h => mem_all.mpr (.inr h)
  have lenW : (layY s 0 n0 (objW k 0 n)).words.length = s.words.length := lay_len fit
  refine {
    cz := R.cz, shl := R.shl, shr := R.shr, hf := R.hf, w2 := R.w2, mrk := R.mrk
    z := by show (if 0 = m then n0 else pl 0) = 0; rw [if_neg (fun z => hm0 z.symm)]; exact R.z
    nxl := by show (s.nexts.set 0 _).length = 3; rw [List.length_set]; exact R.nxl
    ln := ⟨n0 + (n + 2), ?_, ?_, by omega⟩
    lh := ⟨n1, ?_, cA g1 inH, g2⟩
    lt := ?_
    lo := by rw [lenW]; exact cA R.lo inO
    at_ := ?_
    yg := ?_
    od := ?_
    rnd := R.rnd
    rem := ?_
    gs := R.gs
    gr := ?_
    gd := R.gd
    gb := ?_
    en := R.en
    nd := ?_
    n0 := fun h => ((memA 0).mp h).elim R.n0 fun e => hm0 e.symm
    ok := ?_
    cl := ?_
    yc := ?_
    bud := ?_ }
  · show (s.nexts.set 0 (n0 + (objW k 0 n).length))[0]? = some (n0 + (n + 2))
    rw [List.getElem?_set, if_pos rfl, if_pos (by omega), lw]
  · have h3 := (cA h1 inN).snoc (n := m) plM
    rw [obM, wdM] at h3
    exact h3
  · show (s.nexts.set 0 _)[1 + A.which]? = some n1
    rw [List.getElem?_set, if_neg (by omega)]
    exact g0
  · show (s.nexts.set 0 _)[1 + (1 - A.which)]? = _
    rw [List.getElem?_set, if_neg (by omega)]
    exact R.lt
  · intro y hy
    rcases (memA y).mp hy with z | rfl
    · rw [obA y (ha y z)]
      show ObjAt sh _ ((fun y => if y = m then n0 else pl y) y) _ _
      rw [plA y (ha y z)]
      have d : pl y + wd (A.ob y) ≤ n0 ∨ n0 + (n + 2) ≤ pl y := by
        rcases mem_all.mp z with z | z
        · rcases List.mem_append.mp z with z | z
          · exact .inl (h1.mem z).2
          · have := (g1.mem z).1
            exact .inr (by omega)
        · have := (R.old_at z).1
          exact .inr (by omega)
      refine ((R.at_ y z).keep KW (by rw [lw]; exact d)).congr fun j v ev hf => ?_
      have := (R.cl y z j v ev hf).2
      exact plA _ (fun e => by
        rw [e] at this
        rcases this with w | w
        · exact hm0 w
        · exact hm w)
    · show ObjAt sh _ ((fun y' => if y' = y then n0 else pl y') y) _ ((addA A y k n).ob y)
      rw [plM, obM]
      refine ⟨?_, ?_, fun j v ev => ?_⟩
      · have := lay_get (j := 0) (v := headW k 0 0) fit rfl
        exact this
      · have := lay_get (j := 1) (v := (n : Int)) fit rfl
        show _ = some ((List.replicate n (0 : Int)).length : Int)
        rw [List.length_replicate]
        exact this
      · have hj := (List.getElem?_eq_some_iff.mp ev).1
        have v0 : v = 0 := List.eq_of_mem_replicate (List.mem_of_getElem? ev)
        have hjn : j < n := by
          have : (newO k n).b.length = n := List.length_replicate
          omega
        have e1 : (objW k 0 n)[2 + j]? = some 0 := by
          unfold objW
          rw [show 2 + j = j + 1 + 1 by omega, List.getElem?_cons_succ, List.getElem?_cons_succ, List.getElem?_replicate, if_pos hjn]
        have := lay_get (j := 2 + j) fit e1
        rw [← Nat.add_assoc] at this
        rw [v0]
        have e2 : slotV sh ((fun _ y' => if y' = y then n0 else pl y') j) (newO k n).k j 0 = 0 := by
          unfold slotV
          split
          · show (((if (0 : Int).toNat = y then n0 else pl (0 : Int).toNat) : Nat) : Int) = 0
            rw [if_neg (fun z => hm0 z.symm), show (0 : Int).toNat = 0 from rfl, R.z]
            rfl
          · rfl
        rw [e2]
        exact this
  · show (s.young ++ [n0]).Perm ((A.hlf ++ (A.nur ++ [m])).map fun y => if y = m then n0 else pl y)
    rw [← List.append_assoc, List.map_append]
    refine List.Perm.append ?_ (by simp)
    rw [List.map_congr_left (g := pl) fun y hy => plA y (ha y (by
      rcases List.mem_append.mp hy with z | z
      · exact inH y z
      · exact inN y z))]
    exact R.yg
  · show s.old = A.old.map fun y => if y = m then n0 else pl y
    rw [List.map_congr_left (g := pl) fun y hy => plA y (ha y (inO y hy))]
    exact R.od
  · intro p
    show p ∈ s.rem ↔ ∃ y, y ∈ A.old ∧ ∃ (j : Nat) (x : Int), ((addA A m k n).ob y).b[j]? = some x ∧ flag sh ((addA A m k n).ob y).k j = true ∧ x.toNat ∈ (A.nur ++ [m]) ++ A.hlf ∧ p = (fun y => if y = m then n0 else pl y) y + 2 + j
    rw [R.rem p]
    constructor
    · rintro ⟨y, hy, j, x, e1, e2, e3, rfl⟩
      have ne := ha y (inO y hy)
      refine ⟨y, hy, j, x, by rw [obA y ne]; exact e1, by rw [obA y ne]; exact e2, ?_, by rw [plA y ne]⟩
      rcases List.mem_append.mp e3 with z | z
      · exact List.mem_append_left _ (List.mem_append_left _ z)
      · exact List.mem_append_right _ z
    · rintro ⟨y, hy, j, x, e1, e2, e3, rfl⟩
      have ne := ha y (inO y hy)
      rw [obA y ne] at e1 e2
      have := (R.cl y (inO y hy) j x e1 e2).2
      refine ⟨y, hy, j, x, e1, e2, ?_, by rw [plA y ne]⟩
      rcases List.mem_append.mp e3 with z | z
      · rcases List.mem_append.mp z with z | z
        · exact List.mem_append_left _ z
        · rw [List.mem_singleton.mp z] at this
          exact absurd this (fun w => w.elim hm0 hm)
      · exact List.mem_append_right _ z
  · show s.grey.drop s.done = A.grey.map fun y => if y = m then n0 else pl y
    rw [List.map_congr_left (g := pl) fun y hy => plA y (ha y (inO y (R.gs y hy)))]
    exact R.gr
  · show s.grey.length ≤ (A.old.filter fun y => ((addA A m k n).ob y).col != 0).length
    rw [List.filter_congr (q := fun y => (A.ob y).col != 0) fun y hy => by rw [obA y (ha y (inO y hy))]]
    exact R.gb
  · show ((A.nur ++ [m]) ++ A.hlf ++ A.old).Nodup
    have p : ((A.nur ++ [m]) ++ A.hlf ++ A.old).Perm (m :: A.all) := by
      unfold AM.all
      simp only [List.append_assoc]
      exact List.perm_middle
    rw [p.nodup_iff]
    exact List.nodup_cons.mpr ⟨hm, R.nd⟩
  · intro y hy
    rcases (memA y).mp hy with z | rfl
    · rw [obA y (ha y z)]; exact R.ok y z
    · rw [obM]
      exact ⟨hk, hk2, by show sizeOk sh k (List.replicate n 0).length; rw [List.length_replicate]; exact hs, by show 0 < 8; omega, by show 0 < 3; omega⟩
  · intro y hy j x e1 e2
    rcases (memA y).mp hy with z | rfl
    · rw [obA y (ha y z)] at e1 e2
      have := R.cl y z j x e1 e2
      exact ⟨this.1, this.2.imp id fun w => (memA _).mpr (.inl w)⟩
    · rw [obM] at e1
      have v0 : x = 0 := List.eq_of_mem_replicate (List.mem_of_getElem? e1)
      rw [v0]
      exact ⟨Int.le_refl _, .inl rfl⟩
  · intro y hy
    have hy : y ∈ (A.nur ++ [m]) ++ A.hlf := hy
    by_cases e : y = m
    · subst e; rw [obM]; rfl
    · rw [obA y e]
      refine R.yc y ?_
      simp only [List.mem_append, List.mem_singleton] at hy ⊢
      rcases hy with (h | h) | h
      · exact .inl h
      · exact absurd h e
      · exact .inr h
  · have p : (addA A m k n).all.Perm (m :: A.all) := by
      show ((A.nur ++ [m]) ++ A.hlf ++ A.old).Perm (m :: A.all)
      unfold AM.all
      simp only [List.append_assoc]
      exact List.perm_middle
    rw [wsum_perm _ p]
    show wd ((addA A m k n).ob m) + wsum (addA A m k n).ob A.all ≤ 100000
    rw [obM, wdM, wsum_congr (ob' := A.ob) fun y hy => by rw [obA y (ha y hy)]]
    omega
end PH

/-! A word put; what a heap tells of objects; its picture. -/
namespace PH
open PySem PySem.Spec PyProof.Rows L2 KA KI KK PV T ET
def putA (A : AM) (n j : Nat) (v : Int) : AM := { A with ob := fun y => if y = n then { A.ob n with b := (A.ob n).b.set j v } else A.ob y }
theorem ObOk.link {sh : List (List Bool)} {o : Obj} (O : ObOk sh o) {j : Nat} (h : j < o.b.length) : linkB sh o.k j = true := by
  unfold linkB
  split
  · rename_i hk
    obtain ⟨r, e1, e2⟩ := O.sz.2 hk
    rw [e1]
    exact decide_eq_true (by omega)
  · rfl
theorem slot_ok {c : Sz} {sh : List (List Bool)} {s : Ms} {A : AM} {pl : Nat → Nat} (R : Rep c sh s A pl) {n j : Nat} (hn : n ∈ A.all) (hj : j < (A.ob n).b.length) : slotM s (pl n) j = some (headW (A.ob n).k (A.ob n).age (A.ob n).col) := by
  have T := R.at_ n hn
  unfold slotM
  rw [T.hd, T.ln]
  exact if_pos ⟨R.isOb hn, by omega⟩
theorem put_word {c : Sz} {sh : List (List Bool)} {s : Ms} {A : AM} {pl : Nat → Nat} (R : Rep c sh s A pl) {n j : Nat} {v : Int} (hn : n ∈ A.all) (hj : j < (A.ob n).b.length) (hf : flag sh (A.ob n).k j = false) (h1 : -2147483648 ≤ v) (h2 : v ≤ 2147483647) :
    ∃ s', putM c sh s (pl n) j v = some s' ∧ Rep c sh s' (putA A n j v) pl := by
  have T := R.at_ n hn
  have O := R.ok n hn
  have hd := head_age (k := (A.ob n).k) (age := (A.ob n).age) (col := (A.ob n).col) (by have := O.ag; omega) (by have := O.co; omega)
  obtain ⟨v0, e0⟩ : ∃ v0, (A.ob n).b[j]? = some v0 := ⟨_, List.getElem?_eq_getElem hj⟩
  have pw := (List.getElem?_eq_some_iff.mp (T.bd j v0 e0)).1
  refine ⟨{ s with words := s.words.set (pl n + 2 + j) v }, ?_, ?_⟩
  · unfold putM
    rw [slot_ok R hn hj]
    simp only
    rw [hd.2.1, O.link hj, hf]
    simp only [Bool.true_eq_false, Bool.false_eq_true, if_false]
    rw [if_pos ⟨h1, h2, pw⟩]
  have obA : ∀ y, y ≠ n → (putA A n j v).ob y = A.ob y := fun y e => if_neg e
  have obN : (putA A n j v).ob n = { A.ob n with b := (A.ob n).b.set j v } := if_pos rfl
  have obW : ∀ y, wd ((putA A n j v).ob y) = wd (A.ob y) := fun y => by
    by_cases e : y = n
    · subst e
      rw [obN]
      show ((A.ob y).b.set j v).length + 2 = (A.ob y).b.length + 2
      rw [List.length_set]
    · rw [obA y e]
  have obK : ∀ y, ((putA A n j v).ob y).k = (A.ob y).k ∧ ((putA A n j v).ob y).age = (A.ob y).age ∧ ((putA A n j v).ob y).col = (A.ob y).col ∧ ((putA A n j v).ob y).b.length = (A.ob y).b.length := fun y => by
    by_cases e : y = n
    · subst e
      rw [obN]
      exact ⟨rfl, rfl, rfl, List.length_set⟩
    · rw [obA y e]
      exact ⟨rfl, rfl, rfl, rfl⟩
  -- a reference is as it was
  have obF : ∀ (y i : Nat) (x : Int), flag sh (A.ob y).k i = true → (((putA A n j v).ob y).b[i]? = some x ↔ (A.ob y).b[i]? = some x) := fun y i x hfl => by
    by_cases e : y = n
    · subst e
      rw [obN]
      show ((A.ob y).b.set j v)[i]? = some x ↔ _
      rw [List.getElem?_set, if_neg (fun z => by subst z; rw [hf] at hfl; cases hfl)]
    · rw [obA y e]
  have lc : ∀ {f l : Nat} {ns : List Nat}, Laid A.ob pl f ns l → Laid (putA A n j v).ob pl f ns l := fun h => h.congr fun y _ => ⟨rfl, obW y⟩
  obtain ⟨a, a1, a2, a3⟩ := R.ln
  obtain ⟨b, b1, b2, b3⟩ := R.lh
  have KW := keepW_set s.words (pl n + 2 + j) v
  refine {
    cz := R.cz, shl := R.shl, shr := R.shr, hf := R.hf, w2 := R.w2, mrk := R.mrk, z := R.z, nxl := R.nxl
    ln := ⟨a, a1, lc a2, a3⟩
    lh := ⟨b, b1, lc b2, b3⟩
    lt := R.lt
    lo := by show Laid (putA A n j v).ob pl c.fo A.old (s.words.set _ v).length; rw [List.length_set]; exact lc R.lo
    at_ := ?_
    yg := R.yg, od := R.od, rnd := R.rnd
    rem := ?_
    gs := R.gs, gr := R.gr, gd := R.gd
    gb := ?_
    en := R.en, nd := R.nd, n0 := R.n0
    ok := ?_
    cl := ?_
    yc := fun y hy => by rw [(obK y).2.2.1]; exact R.yc y hy
    bud := by show wsum (putA A n j v).ob A.all ≤ 100000; rw [wsum_congr fun y _ => obW y]; exact R.bud }
  · intro y hy
    by_cases e : y = n
    · subst e
      rw [obN]
      refine ⟨?_, ?_, fun i x ev => ?_⟩
      · show (s.words.set (pl y + 2 + j) v)[pl y]? = _
        rw [List.getElem?_set, if_neg (by omega)]
        exact T.hd
      · show (s.words.set (pl y + 2 + j) v)[pl y + 1]? = some (((A.ob y).b.set j v).length : Int)
        rw [List.getElem?_set, if_neg (by omega), List.length_set]
        exact T.ln
      · show (s.words.set (pl y + 2 + j) v)[pl y + 2 + i]? = some (slotV sh pl (A.ob y).k i x)
        have ev : ((A.ob y).b.set j v)[i]? = some x := ev
        rw [List.getElem?_set] at ev ⊢
        by_cases ji : j = i
        · subst ji
          rw [if_pos rfl, if_pos hj] at ev
          rw [if_pos rfl, if_pos pw]
          injection ev with ev
          subst ev
          unfold slotV
          rw [hf]
          rfl
        · rw [if_neg ji] at ev
          rw [if_neg (by omega)]
          exact T.bd i x ev
    · rw [obA y e]
      have d := R.apart2 hy hn e
      refine (R.at_ y hy).keep KW ?_
      unfold wd at d ⊢
      omega
  · intro p
    show p ∈ s.rem ↔ _
    rw [R.rem p]
    constructor
    · rintro ⟨y, hy, i, x, e1, e2, e3, rfl⟩
      exact ⟨y, hy, i, x, (obF y i x e2).mpr e1, by rw [(obK y).1]; exact e2, e3, rfl⟩
    · rintro ⟨y, hy, i, x, e1, e2, e3, rfl⟩
      rw [(obK y).1] at e2
      exact ⟨y, hy, i, x, (obF y i x e2).mp e1, e2, e3, rfl⟩
  · show s.grey.length ≤ (A.old.filter fun y => ((putA A n j v).ob y).col != 0).length
    rw [List.filter_congr (q := fun y => (A.ob y).col != 0) fun y _ => by rw [(obK y).2.2.1]]
    exact R.gb
  · intro y hy
    have O := R.ok y hy
    obtain ⟨k1, k2, k3, k4⟩ := obK y
    exact ⟨by rw [k1]; exact O.k1, by rw [k1]; exact O.k2, by rw [k1, k4]; exact O.sz, by rw [k2]; exact O.ag, by rw [k3]; exact O.co⟩
  · intro y hy i x e1 e2
    rw [(obK y).1] at e2
    exact R.cl y hy i x ((obF y i x e2).mp e1) e2
def whereA (A : AM) (n : Nat) : Str := if n ∈ A.nur then "nursery" else if n ∈ A.hlf then "half" else "old"
theorem where_ok {c : Sz} {sh : List (List Bool)} {s : Ms} {A : AM} {pl : Nat → Nat} (R : Rep c sh s A pl) {n : Nat} (hn : n ∈ A.all) : whereOf c (pl n) = whereA A n ∧ 0 < pl n := by
  obtain ⟨a, a1, a2, a3⟩ := R.ln
  obtain ⟨b, b1, b2, b3⟩ := R.lh
  have w2 := R.w2
  obtain ⟨e1, e2, _⟩ := hfirst_eq (c := c) w2
  have fo : c.fo = c.1 + 2 * c.2.1 + 1 := rfl
  have wn : 2 ≤ wd (A.ob n) := by unfold wd; omega
  unfold whereOf whereA
  by_cases h1 : n ∈ A.nur
  · have := a2.mem h1
    rw [if_pos (by omega), if_pos (by omega), if_pos h1]
    exact ⟨rfl, by omega⟩
  rw [if_neg h1]
  by_cases h2 : n ∈ A.hlf
  · have := b2.mem h2
    rw [if_pos (by omega), if_neg (by omega), if_pos h2]
    exact ⟨rfl, by omega⟩
  rw [if_neg h2]
  have h3 : n ∈ A.old := (mem_all.mp hn).resolve_left fun z => (List.mem_append.mp z).elim h1 h2
  have := (R.old_at h3).1
  rw [if_neg (by omega)]
  exact ⟨rfl, by omega⟩
/-- an object's words as they lie -/
def obW (sh : List (List Bool)) (pl : Nat → Nat) (o : Obj) : List Int := headW o.k o.age o.col :: (o.b.length : Int) :: (List.range o.b.length).map fun j => slotV sh pl o.k j (o.b.getD j 0)
def roomWd (sh : List (List Bool)) (pl : Nat → Nat) (ob : Nat → Obj) (ns : List Nat) : List Int := ns.flatMap fun n => obW sh pl (ob n)
theorem obW_len (sh : List (List Bool)) (pl : Nat → Nat) (o : Obj) : (obW sh pl o).length = wd o := by
  unfold obW wd
  simp
theorem obW_at {sh : List (List Bool)} {ws : List Int} {x : Nat} {pl : Nat → Nat} {o : Obj} (h : ObjAt sh ws x (fun _ => pl) o) : (ws.drop x).take (wd o) = obW sh pl o := by
  apply List.ext_getElem?
  intro i
  rw [List.getElem?_take]
  by_cases hi : i < wd o
  · rw [if_pos hi, List.getElem?_drop]
    rcases (by omega : i = 0 ∨ i = 1 ∨ 2 ≤ i) with rfl | rfl | h2
    · exact h.hd
    · exact h.ln
    · obtain ⟨j, rfl⟩ : ∃ j, i = j + 2 := ⟨i - 2, by omega⟩
      have hj : j < o.b.length := by unfold wd at hi; omega
      unfold obW
      rw [List.getElem?_cons_succ, List.getElem?_cons_succ, List.getElem?_map, List.getElem?_range hj]
      show _ = some (slotV sh pl o.k j (o.b.getD j 0))
      rw [List.getD_eq_getElem?_getD, List.getElem?_eq_getElem hj, show x + (j + 2) = x + 2 + j by omega]
      exact h.bd j _ (List.getElem?_eq_getElem hj)
  · rw [if_neg hi, List.getElem?_eq_none (by rw [obW_len]; omega)]
theorem seg_ok {sh : List (List Bool)} {ws : List Int} {ob : Nat → Obj} {pl : Nat → Nat} : ∀ {ns : List Nat} {f l : Nat}, Laid ob pl f ns l → (∀ n ∈ ns, ObjAt sh ws (pl n) (fun _ => pl) (ob n)) → (ws.drop f).take (l - f) = roomWd sh pl ob ns
  | [], f, l, h, _ => by
    have h : f = l := h
    subst h
    rw [Nat.sub_self, List.take_zero]
    rfl
  | n :: r, f, l, h, hx => by
    obtain ⟨h1, h2⟩ := h
    have e := h2.len
    have ih := seg_ok h2 fun m hm => hx m (List.mem_cons_of_mem _ hm)
    have o := obW_at (hx n List.mem_cons_self)
    rw [h1] at o
    rw [show l - f = wd (ob n) + (l - (f + wd (ob n))) by omega, List.take_add, List.drop_drop, o, ih]
    rfl
theorem pic_ok {c : Sz} {sh : List (List Bool)} {s : Ms} {A : AM} {pl : Nat → Nat} (R : Rep c sh s A pl) : roomW c s 0 = roomWd sh pl A.ob A.nur ∧ roomW c s (1 + s.half) = roomWd sh pl A.ob A.hlf ∧ s.words.drop c.fo = roomWd sh pl A.ob A.old := by
  obtain ⟨a, a1, a2, a3⟩ := R.ln
  obtain ⟨b, b1, b2, b3⟩ := R.lh
  refine ⟨?_, ?_, ?_⟩
  · unfold roomW
    rw [List.getD_eq_getElem?_getD (l := s.nexts), a1]
    exact seg_ok a2 fun n hn => R.at_ n (mem_all.mpr (.inl (List.mem_append_left _ hn)))
  · unfold roomW
    rw [R.hf, List.getD_eq_getElem?_getD (l := s.nexts), b1]
    exact seg_ok b2 fun n hn => R.at_ n (mem_all.mpr (.inl (List.mem_append_right _ hn)))
  · rw [← seg_ok R.lo fun n hn => R.at_ n (mem_all.mpr (.inr hn)), List.take_of_length_le (by rw [List.length_drop]; omega)]
end PH

/-! What the law draws; what it compares. -/
namespace PH
open PySem PySem.Spec PyProof.Rows L2 KA KI KK PV T ET
theorem keptL_of {p : Addr} {H H' : Hp} (b : But p H H') : KeptL [p] H H' := fun c o n h => (b c (by simpa using n)).trans h
theorem feedL {H : Hp} {p q : Addr} {n : Nat} {o : HO} (hF : FeedAt H p n) (h : H q = none) : FeedAt (upd H q o) p n := feed_new hF h
theorem feedS {H H' : Hp} {p : Addr} {n : Nat} (hF : FeedAt H p n) (s : Same H H') : FeedAt H' p n := by
  obtain ⟨a, b, c, e, r⟩ := hF
  exact ⟨a, b, c, s _ _ e, r⟩
theorem feed_tups {H H' : Hp} {p : Addr} {n : Nat} (k : KeptL [p] H H') (hF : FeedAt H p n) : TupSame H H' := k.tups2 fun b hb => by
  obtain ⟨x, y, z, e, _⟩ := hF
  have : b = p := by simpa using hb
  subst this
  exact ⟨_, e, by intro xs z; cases z⟩
theorem kept_new {l : List Addr} {H H1 : Hp} {q : Addr} {o : HO} (k : KeptL l H H1) (h : H1 q = none) : KeptL l H (upd H1 q o) := k.trans (KeptL.of_same (same_new h))
theorem feed_at2 {H : Hp} {p L : Addr} {n : Nat} {o : HO} (hF : FeedAt H p n) (h : L ≠ p) : FeedAt (upd H L o) p n := by
  obtain ⟨a, b, c, e, r⟩ := hF
  exact ⟨a, b, c, by rw [upd_ne h.symm]; exact e, r⟩
theorem kept_at {l : List Addr} {H H1 : Hp} {q : Addr} {o : HO} (k : KeptL l H H1) (h : H q = none) : KeptL l H (upd H1 q o) := fun b u nb e => by
  rw [upd_ne (ne_of_none e h)]
  exact k b u nb e
theorem feed_mono {H : Hp} {p : Addr} {n m : Nat} (h : FeedAt H p n) (l : n ≤ m) : FeedAt H p m := by
  obtain ⟨a, b, c, e, h1, h2, h3, h4, h5⟩ := h
  exact ⟨a, b, c, e, h1, h2, h3, h4, by omega⟩
theorem kl_free {p a : Addr} {H H' : Hp} {m : Nat} (k : KeptL [p] H H') (hF : FeedAt H' p m) (h : H' a = none) : H a = none := by
  cases e : H a with
  | none => rfl
  | some o =>
    rw [k a o (by simpa using feed_ne hF h) e] at h
    cases h

theorem tyI {K : PySem.W.Frag} {H : Hp} {i : Int} : ∃ t : String, TyX K H (.int i) (.type t) ∧ PySem.W.kitOne K (.type t) (.type "int") = some true ∧ PySem.W.kitOne K (.type t) (.type "bool") = some false ∧ PySem.W.kitOne K (.type t) (.type "tuple") = some false :=
  ⟨"int", .base (.int i), kit_ty (by decide +kernel), kit_ty (by decide +kernel), kit_ty (by decide +kernel)⟩
theorem tyB {K : PySem.W.Frag} {H : Hp} {i : Bool} : ∃ t : String, TyX K H (.bl i) (.type t) ∧ PySem.W.kitOne K (.type t) (.type "bool") = some true ∧ PySem.W.kitOne K (.type t) (.type "tuple") = some false :=
  ⟨"bool", .base (.bl i), kit_ty (by decide +kernel), kit_ty (by decide +kernel)⟩
theorem tyS {K : PySem.W.Frag} {H : Hp} {z : Str} : ∃ t : String, TyX K H (.str z) (.type t) ∧ PySem.W.kitOne K (.type t) (.type "str") = some true ∧ PySem.W.kitOne K (.type t) (.type "bool") = some false ∧ PySem.W.kitOne K (.type t) (.type "int") = some false ∧ PySem.W.kitOne K (.type t) (.type "tuple") = some false :=
  ⟨"str", .base (.str z), kit_ty (by decide +kernel), kit_ty (by decide +kernel), kit_ty (by decide +kernel), kit_ty (by decide +kernel)⟩
theorem tyT {K : PySem.W.Frag} {H : Hp} {a : Addr} {xs : List V} (h : H a = some (.tup xs)) : ∃ t : String, TyX K H (.ref a) (.type t) ∧ PySem.W.kitOne K (.type t) (.type "tuple") = some true := ⟨"tuple", .base (.tup h), kit_ty (by decide +kernel)⟩
def leafD (d : PyData) : Prop := (∃ i, d = .int i) ∨ (∃ b, d = .bool b) ∨ ∃ z, d = .str z
def smOk : Nat → PyData → Prop
  | 0, d => leafD d
  | n + 1, d => leafD d ∨ ∃ ds : List PyData, d = .tuple ds ∧ ∀ e ∈ ds, smOk n e
section
variable {P : Program} {w : World} {K : PySem.W.Frag} {mg : Str → Option Value} {base : Heap} {C_Moving C_Memory C_Heap : Addr}
def spDk : Sp := fun vs H Q _ => ∃ (p : Addr) (m : Int) (n : Nat), vs = [.ref p, .int m] ∧ FeedAt H p n ∧ n ≤ 2 ^ 60 ∧ 0 < m ∧ m < 2 ^ 40 ∧ ∀ (r : Int) (H' : Hp), 0 ≤ r → r < m → KeptL [p] H H' → FeedAt H' p (n + 1) → Q (.int r) H'
theorem ok_drw {f : Addr} {fd : FuncData} (G : Gd K mg "_law_draw" s_law_draw ["_law_feed_here", "_law_many"] f fd) (X : Lw K mg C_Moving C_Memory C_Heap) : FnOk P w K mg base CX0 1 f fd ["_law_feed_here", "_law_many"] (spDk) := by
  refine (ok_draw G.F X.b_int).imp fun vs H Q E h => ?_
  obtain ⟨p, m, n, e, h1, h2, h3, h4, q⟩ := h
  exact ⟨p, m, n, e, h1, h2, h3, h4, fun r H' a b c d => q r H' a b (keptL_of c) d⟩
def spOl : Sp := fun vs H Q _ => ∃ (p L : Addr) (xs : List V) (n : Nat), vs = [.ref p, .ref L] ∧ FeedAt H p n ∧ n ≤ 2 ^ 60 ∧ H L = some (.lst xs) ∧ L ≠ p ∧ 0 < xs.length ∧ xs.length < 2 ^ 30 ∧ ∀ (x : V) (H' : Hp), x ∈ xs → KeptL [p] H H' → FeedAt H' p (n + 1) → Q x H'
theorem ok_oneL {f : Addr} {fd : FuncData} (G : Gd K mg "_law_one" s_law_one ["_law_feed_here", "_law_things"] f fd) (X : Lw K mg C_Moving C_Memory C_Heap) : FnOk P w K mg base CX0 2 f fd ["_law_feed_here", "_law_things"] (spOl) := by
  obtain ⟨f_d, d_d, G_d⟩ := X.f__law_draw
  refine (ok_one G.F G_d.F G_d.b G_d.g X.b_int X.b_len).imp fun vs H Q E h => ?_
  obtain ⟨p, L, xs, n, e, h1, h2, hL, hne, h3, h4, q⟩ := h
  exact ⟨p, n, h1, h2, .inl ⟨L, xs, e, hne, SqL.of hL, h3, h4, fun x H' hx bt hF' => q x H' hx (keptL_of bt) hF'⟩⟩
theorem ok_fee {f : Addr} {fd : FuncData} (G : Gd K mg "_law_feed" s_law_feed ["_law_script", "_law_k"] f fd) (X : Lw K mg C_Moving C_Memory C_Heap) : FnOk P w K mg base CX0 1 f fd ["_law_script", "_law_k"] (spFeed K) := by
  exact ok_feed G.F X.b_sum X.b_len X.b_max X.b_int
/-- one of a new list -/
theorem one_new {H : Hp} {p : Addr} {n : Nat} {xs : List V} {Q : VK} {E : XK} (hF : FeedAt H p n) (hn : n ≤ 2 ^ 60) (h0 : 0 < xs.length) (h1 : xs.length < 2 ^ 30) (k : ∀ (x : V) (H' : Hp), x ∈ xs → KeptL [p] H H' → FeedAt H' p (n + 1) → Q x H') :
    ∀ L : Addr, H L = none → spOl [.ref p, .ref L] (upd H L (.lst xs)) Q E := fun L nL =>
  ⟨p, L, xs, n, rfl, feed_new hF nL, hn, upd_same, feed_ne hF nL, h0, h1, fun x H' hx bt hF' => k x H' hx ((KeptL.of_same (same_new nL)).trans bt) hF'⟩
def spSm (n : Nat) : Sp := fun vs H Q _ => ∃ (x y : V) (d : PyData), vs = [x, y] ∧ Dv H x d ∧ Dv H y d ∧ smOk n d ∧ Q (.bl true) H
theorem ok_same (X : Lw K mg C_Moving C_Memory C_Heap) {f : Addr} {fd : FuncData} (G : Gd K mg "_law_same" s_law_same ["_law_told", "_law_due"] f fd) : ∀ n : Nat, FnOk P w K mg base CX0 (n + 1) f fd ["_law_told", "_law_due"] (spSm n) := by
  intro n
  induction n with
  | zero =>
    refine G.F.ok sc_law_same (fun vs H Q E h => ?_) (fun cdv A outer s H vs Q E hr h => ?_)
    · obtain ⟨x, y, d, rfl, _⟩ := h; rfl
    · obtain ⟨x, y, d, rfl, hx, hy, hd, q⟩ := h
      refine ⟨_, (pss_cons (ps_if (pt_val (pe_callB call_isi (by rfl) X.b_isinstance (by decide +kernel) (pa_cons (pv 1) (pa_cons (pe_bltn (by rfl) X.b_tuple (v := .ty "tuple") (by decide +kernel) rfl) pa_nil))))
        pss_never pss_nil)
      (pss_cons (ps_if (PW.pt (pw_or (pt_val (pe_callB call_isi (by rfl) X.b_isinstance (by decide +kernel) (pa_cons (pv 1) (pa_cons (pe_bltn (by rfl) X.b_bool (v := .ty "bool") (by decide +kernel) rfl) pa_nil)))) (pw_or1 (pt_val (pe_callB call_isi (by rfl) X.b_isinstance (by decide +kernel) (pa_cons (pv 0) (pa_cons (pe_bltn (by rfl) X.b_bool (v := .ty "bool") (by decide +kernel) rfl) pa_nil)))))))
        (pss_one (ps_ret (pe_and (pe_callB call_isi (by rfl) X.b_isinstance (by decide +kernel) (pa_cons (pv 1) (pa_cons (pe_bltn (by rfl) X.b_bool (v := .ty "bool") (by decide +kernel) rfl) pa_nil))) (pe_and (pe_callB call_isi (by rfl) X.b_isinstance (by decide +kernel) (pa_cons (pv 0) (pa_cons (pe_bltn (by rfl) X.b_bool (v := .ty "bool") (by decide +kernel) rfl) pa_nil))) (pe_one (pe_cmpR op_eq (pv 0) (pv 1) (nomark _))))))) pss_nil)
      (pss_cons (ps_if (pt_val (pe_callB call_isi (by rfl) X.b_isinstance (by decide +kernel) (pa_cons (pv 1) (pa_cons (pe_bltn (by rfl) X.b_int (v := .ty "int") (by decide +kernel) rfl) pa_nil))))
        (pss_one (ps_ret (pe_and (pe_callB call_isi (by rfl) X.b_isinstance (by decide +kernel) (pa_cons (pv 0) (pa_cons (pe_bltn (by rfl) X.b_int (v := .ty "int") (by decide +kernel) rfl) pa_nil))) (pe_one (pe_cmpR op_eq (pv 0) (pv 1) (nomark _)))))) pss_nil)
      (pss_one (ps_ret (pe_and (pe_callB call_isi (by rfl) X.b_isinstance (by decide +kernel) (pa_cons (pv 1) (pa_cons (pe_bltn (by rfl) X.b_str (v := .ty "str") (by decide +kernel) rfl) pa_nil))) (pe_and (pe_callB call_isi (by rfl) X.b_isinstance (by decide +kernel) (pa_cons (pv 0) (pa_cons (pe_bltn (by rfl) X.b_str (v := .ty "str") (by decide +kernel) rfl) pa_nil))) (pe_one (pe_cmpR op_eq (pv 0) (pv 1) (nomark _)))))))))), ?_⟩
      rcases (show leafD d from hd) with ⟨i, rfl⟩ | ⟨b, rfl⟩ | ⟨z, rfl⟩
      · cases hx
        cases hy
        obtain ⟨t, t1, t2, t3, t4⟩ := tyI (K := K) (H := H) (i := i)
        refine ⟨_, rfl, _, _, _, _, _, rfl, .ty _, t1, t4, false, rfl, iteF ?_⟩
        refine ⟨_, rfl, _, _, _, _, _, rfl, .ty _, t1, t3, false, rfl, iteF ⟨_, rfl, _, _, _, _, _, rfl, .ty _, t1, t3, false, rfl, iteF ?_⟩⟩
        refine ⟨_, rfl, _, _, _, _, _, rfl, .ty _, t1, t2, true, rfl, iteT ⟨_, rfl, _, _, _, _, _, rfl, .ty _, t1, t2, true, rfl, iteT ⟨_, rfl, _, rfl, rfl, ?_⟩⟩⟩
        rw [decide_eq_true rfl]
        exact q
      · cases hx
        cases hy
        obtain ⟨t, t1, t2, t4⟩ := tyB (K := K) (H := H) (i := b)
        refine ⟨_, rfl, _, _, _, _, _, rfl, .ty _, t1, t4, false, rfl, iteF ?_⟩
        refine ⟨_, rfl, _, _, _, _, _, rfl, .ty _, t1, t2, true, rfl, iteT (iteT ?_)⟩
        refine ⟨_, rfl, _, _, _, _, _, rfl, .ty _, t1, t2, true, rfl, iteT ⟨_, rfl, _, _, _, _, _, rfl, .ty _, t1, t2, true, rfl, iteT ⟨_, rfl, _, rfl, rfl, ?_⟩⟩⟩
        rw [decide_eq_true rfl]
        exact q
      · cases hx
        cases hy
        obtain ⟨t, t1, t2, t3, t5, t4⟩ := tyS (K := K) (H := H) (z := z)
        refine ⟨_, rfl, _, _, _, _, _, rfl, .ty _, t1, t4, false, rfl, iteF ?_⟩
        refine ⟨_, rfl, _, _, _, _, _, rfl, .ty _, t1, t3, false, rfl, iteF ⟨_, rfl, _, _, _, _, _, rfl, .ty _, t1, t3, false, rfl, iteF ?_⟩⟩
        refine ⟨_, rfl, _, _, _, _, _, rfl, .ty _, t1, t5, false, rfl, iteF ?_⟩
        refine ⟨_, rfl, _, _, _, _, _, rfl, .ty _, t1, t2, true, rfl, iteT ⟨_, rfl, _, _, _, _, _, rfl, .ty _, t1, t2, true, rfl, iteT ⟨_, rfl, _, rfl, rfl, ?_⟩⟩⟩
        rw [decide_eq_true rfl]
        exact q
  | succ n ih =>
    have G__law_same := G
    have H__law_same := ih
    refine G.F.ok sc_law_same (fun vs H Q E h => ?_) (fun cdv A outer s H vs Q E hr h => ?_)
    · obtain ⟨x, y, d, rfl, _⟩ := h; rfl
    · obtain ⟨x, y, d, rfl, hx, hy, hd, q⟩ := h
      refine ⟨_, (pss_cons (ps_if (pt_val (pe_callB call_isi (by rfl) X.b_isinstance (by decide +kernel) (pa_cons (pv 1) (pa_cons (pe_bltn (by rfl) X.b_tuple (v := .ty "tuple") (by decide +kernel) rfl) pa_nil))))
        (pss_cons (ps_if (PW.pt (pw_or (pt_not (pt_val (pe_callB call_isi (by rfl) X.b_isinstance (by decide +kernel) (pa_cons (pv 0) (pa_cons (pe_bltn (by rfl) X.b_tuple (v := .ty "tuple") (by decide +kernel) rfl) pa_nil))))) (pw_or1 (pt_cmpR op_ne (pe_callB call_len (by rfl) X.b_len PySem.boot_len (pa_cons (pv 0) pa_nil)) (pe_callB call_len (by rfl) X.b_len PySem.boot_len (pa_cons (pv 1) pa_nil)) (nomark _)))))
        (pss_one (ps_ret pe_bl)) pss_nil)
      (pss_cons (ps_for PassesOwn.never rfl (pi_range1 (by rfl) X.b_range (pa_cons (pe_callB call_len (by rfl) X.b_len PySem.boot_len (pa_cons (pv 1) pa_nil)) pa_nil)) (pg_name (i := 2) sc_law_same.nd rfl (Or.inl rfl))
        (pss_one (ps_if (pt_not (pt_val (pe_call H__law_same hr (by rfl) G__law_same.g G__law_same.F.kp G__law_same.b .nil pass0 (pa_cons (pe_ix ix_tup (pv 0) (pv 2) (fun _ _ => rfl)) (pa_cons (pe_ix ix_tup (pv 1) (pv 2) (fun _ _ => rfl)) pa_nil)))))
        (pss_one (ps_ret pe_bl)) pss_nil)))
      (pss_one (ps_ret pe_bl)))) pss_nil)
      (pss_cons (ps_if (PW.pt (pw_or (pt_val (pe_callB call_isi (by rfl) X.b_isinstance (by decide +kernel) (pa_cons (pv 1) (pa_cons (pe_bltn (by rfl) X.b_bool (v := .ty "bool") (by decide +kernel) rfl) pa_nil)))) (pw_or1 (pt_val (pe_callB call_isi (by rfl) X.b_isinstance (by decide +kernel) (pa_cons (pv 0) (pa_cons (pe_bltn (by rfl) X.b_bool (v := .ty "bool") (by decide +kernel) rfl) pa_nil)))))))
        (pss_one (ps_ret (pe_and (pe_callB call_isi (by rfl) X.b_isinstance (by decide +kernel) (pa_cons (pv 1) (pa_cons (pe_bltn (by rfl) X.b_bool (v := .ty "bool") (by decide +kernel) rfl) pa_nil))) (pe_and (pe_callB call_isi (by rfl) X.b_isinstance (by decide +kernel) (pa_cons (pv 0) (pa_cons (pe_bltn (by rfl) X.b_bool (v := .ty "bool") (by decide +kernel) rfl) pa_nil))) (pe_one (pe_cmpR op_eq (pv 0) (pv 1) (nomark _))))))) pss_nil)
      (pss_cons (ps_if (pt_val (pe_callB call_isi (by rfl) X.b_isinstance (by decide +kernel) (pa_cons (pv 1) (pa_cons (pe_bltn (by rfl) X.b_int (v := .ty "int") (by decide +kernel) rfl) pa_nil))))
        (pss_one (ps_ret (pe_and (pe_callB call_isi (by rfl) X.b_isinstance (by decide +kernel) (pa_cons (pv 0) (pa_cons (pe_bltn (by rfl) X.b_int (v := .ty "int") (by decide +kernel) rfl) pa_nil))) (pe_one (pe_cmpR op_eq (pv 0) (pv 1) (nomark _)))))) pss_nil)
      (pss_one (ps_ret (pe_and (pe_callB call_isi (by rfl) X.b_isinstance (by decide +kernel) (pa_cons (pv 1) (pa_cons (pe_bltn (by rfl) X.b_str (v := .ty "str") (by decide +kernel) rfl) pa_nil))) (pe_and (pe_callB call_isi (by rfl) X.b_isinstance (by decide +kernel) (pa_cons (pv 0) (pa_cons (pe_bltn (by rfl) X.b_str (v := .ty "str") (by decide +kernel) rfl) pa_nil))) (pe_one (pe_cmpR op_eq (pv 0) (pv 1) (nomark _)))))))))), ?_⟩
      rcases hd with hd | ⟨ds, rfl, hds⟩
      · rcases hd with ⟨i, rfl⟩ | ⟨b, rfl⟩ | ⟨z, rfl⟩
        · cases hx
          cases hy
          obtain ⟨t, t1, t2, t3, t4⟩ := tyI (K := K) (H := H) (i := i)
          refine ⟨_, rfl, _, _, _, _, _, rfl, .ty _, t1, t4, false, rfl, iteF ?_⟩
          refine ⟨_, rfl, _, _, _, _, _, rfl, .ty _, t1, t3, false, rfl, iteF ⟨_, rfl, _, _, _, _, _, rfl, .ty _, t1, t3, false, rfl, iteF ?_⟩⟩
          refine ⟨_, rfl, _, _, _, _, _, rfl, .ty _, t1, t2, true, rfl, iteT ⟨_, rfl, _, _, _, _, _, rfl, .ty _, t1, t2, true, rfl, iteT ⟨_, rfl, _, rfl, rfl, ?_⟩⟩⟩
          rw [decide_eq_true rfl]
          exact q
        · cases hx
          cases hy
          obtain ⟨t, t1, t2, t4⟩ := tyB (K := K) (H := H) (i := b)
          refine ⟨_, rfl, _, _, _, _, _, rfl, .ty _, t1, t4, false, rfl, iteF ?_⟩
          refine ⟨_, rfl, _, _, _, _, _, rfl, .ty _, t1, t2, true, rfl, iteT (iteT ?_)⟩
          refine ⟨_, rfl, _, _, _, _, _, rfl, .ty _, t1, t2, true, rfl, iteT ⟨_, rfl, _, _, _, _, _, rfl, .ty _, t1, t2, true, rfl, iteT ⟨_, rfl, _, rfl, rfl, ?_⟩⟩⟩
          rw [decide_eq_true rfl]
          exact q
        · cases hx
          cases hy
          obtain ⟨t, t1, t2, t3, t5, t4⟩ := tyS (K := K) (H := H) (z := z)
          refine ⟨_, rfl, _, _, _, _, _, rfl, .ty _, t1, t4, false, rfl, iteF ?_⟩
          refine ⟨_, rfl, _, _, _, _, _, rfl, .ty _, t1, t3, false, rfl, iteF ⟨_, rfl, _, _, _, _, _, rfl, .ty _, t1, t3, false, rfl, iteF ?_⟩⟩
          refine ⟨_, rfl, _, _, _, _, _, rfl, .ty _, t1, t5, false, rfl, iteF ?_⟩
          refine ⟨_, rfl, _, _, _, _, _, rfl, .ty _, t1, t2, true, rfl, iteT ⟨_, rfl, _, _, _, _, _, rfl, .ty _, t1, t2, true, rfl, iteT ⟨_, rfl, _, rfl, rfl, ?_⟩⟩⟩
          rw [decide_eq_true rfl]
          exact q
      · obtain ⟨a, xs, rfl, ha, la, ra⟩ := hx.tupE
        obtain ⟨b, ys, rfl, hb, lb, rb⟩ := hy.tupE
        obtain ⟨t, t1, t2⟩ := tyT (K := K) ha
        obtain ⟨u, u1, u2⟩ := tyT (K := K) hb
        refine ⟨_, rfl, _, _, _, _, _, rfl, .ty _, u1, u2, true, rfl, iteT ?_⟩
        refine ⟨_, rfl, _, _, _, _, _, rfl, .ty _, t1, t2, true, rfl, iteF ?_⟩
        have el : xs.length = ys.length := by rw [ra.len, rb.len]
        refine ⟨_, rfl, .ref a, xs.length, rfl, .inr ⟨_, SqT.of ha, rfl⟩, _, rfl, .ref b, ys.length, rfl, .inr ⟨_, SqT.of hb, rfl⟩, rfl, _, rfl, ?_⟩
        have e2 : (!decide (V.int (xs.length : Int) = V.int (ys.length : Int))) = false := by simp [el]
        rw [e2]
        refine iteF ?_
        refine ⟨_, rfl, .ref b, ys.length, rfl, .inr ⟨_, SqT.of hb, rfl⟩, _, rfl, by omega, by omega, ?_⟩
        refine for_range (n := (ys.length : Int).toNat) (lo := 0) (fun i σ H' => H' = H ∧ ∃ o, σ = [some (.ref a), some (.ref b), o]) ⟨rfl, _, rfl⟩ ?_ ?_
        · rintro i σ H' hi ⟨rfl, o, rfl⟩
          have hiy : i < ys.length := by omega
          have hix : i < xs.length := by omega
          have hid : i < ds.length := by rw [← rb.len]; exact hiy
          refine ⟨_, rfl, _, rfl, a, xs, _, xs[i], rfl, rfl, SqT.of ha, atI_nat (by simp [hix]), ?_⟩
          refine ⟨_, rfl, _, rfl, b, ys, _, ys[i], rfl, rfl, SqT.of hb, atI_nat (by simp [hiy]), ?_⟩
          exact ⟨xs[i], ys[i], ds[i], rfl, get2 ra (List.getElem?_eq_getElem hix) (List.getElem?_eq_getElem hid), get2 rb (List.getElem?_eq_getElem hiy) (List.getElem?_eq_getElem hid), hds _ (List.getElem_mem hid), _, rfl, iteF ⟨rfl, _, rfl⟩⟩
        · rintro σ H' ⟨rfl, o, rfl⟩
          exact q
theorem ok_same3 {f : Addr} {fd : FuncData} (G : Gd K mg "_law_same" s_law_same ["_law_told", "_law_due"] f fd) (X : Lw K mg C_Moving C_Memory C_Heap) : FnOk P w K mg base CX0 4 f fd ["_law_told", "_law_due"] (spSm 3) := ok_same X G 3
end
end PH

/-! Shapes and sizes drawn. -/
namespace PH
open PySem PySem.Spec PyProof.Rows L2 KA KI KK PV T ET
theorem small1000 {n : Nat} (h : n ≤ 1000) : n < sizeLine := big (by omega)
theorem szPy_mk {H : Hp} {a : Addr} {c : Sz} (h : H a = some (.tup [.int c.1, .int c.2.1, .int c.2.2.1, .int c.2.2.2])) : Dv H (.ref a) (szPy c) :=
  .tup h (by show 4 ≤ 50000; decide) (.cons (.int _) (.cons (.int _) (.cons (.int _) (.cons (.int _) .nil))))
theorem in_nat {x : V} {L : List Nat} (h : x ∈ natI L) : ∃ n : Nat, x = .int n ∧ n ∈ L := by
  obtain ⟨n, hn, e⟩ := List.mem_map.mp h
  exact ⟨n, e.symm, hn⟩
def TupsAt (H : Hp) (ls : List Addr) (rows : List (List Bool)) : Prop := ls.length = rows.length ∧ ∀ (j : Nat) (r : List Bool) (b : Addr), rows[j]? = some r → ls[j]? = some b → H b = some (.tup (r.map V.bl))
theorem TupsAt.kept {H H' : Hp} {ls : List Addr} {rows : List (List Bool)} {l : List Addr} (x : TupsAt H ls rows) (k : KeptL l H H') (h : ∀ b ∈ l, ∀ xs, H b ≠ some (.tup xs)) : TupsAt H' ls rows := ⟨x.1, fun j r b e1 e2 => k _ _ (fun z => h b z _ (x.2 j r b e1 e2)) (x.2 j r b e1 e2)⟩
theorem TupsAt.snoc {H : Hp} {ls : List Addr} {rows : List (List Bool)} {b : Addr} {r : List Bool} (x : TupsAt H ls rows) (h : H b = some (.tup (r.map V.bl))) : TupsAt H (ls ++ [b]) (rows ++ [r]) := by
  refine ⟨by rw [List.length_append, List.length_append, x.1]; rfl, fun j r' b' e1 e2 => ?_⟩
  by_cases hj : j < rows.length
  · rw [List.getElem?_append_left hj] at e1
    rw [List.getElem?_append_left (by rw [x.1]; exact hj)] at e2
    exact x.2 j r' b' e1 e2
  · have hl := (List.getElem?_eq_some_iff.mp e1).1
    rw [List.length_append] at hl
    have ej : j = rows.length := by simp at hl; omega
    subst ej
    rw [List.getElem?_append_right (Nat.le_refl _), Nat.sub_self] at e1
    rw [← x.1, List.getElem?_append_right (Nat.le_refl _), Nat.sub_self] at e2
    cases e1
    cases e2
    exact h
theorem tupsDv {H : Hp} {ts : List Addr} {rows : List (List Bool)} {a : Addr} (ha : H a = some (.tup (ts.map V.ref))) (h60 : rows.length ≤ 60) (h100 : ∀ r ∈ rows, r.length ≤ 100) (h : TupsAt H ts rows) : Dv H (.ref a) (shPy rows) := by
  obtain ⟨hl, h⟩ := h
  refine .tup ha (by rw [List.length_map]; omega) ?_
  clear ha
  induction rows generalizing ts with
  | nil =>
    cases ts with
    | nil => exact .nil
    | cons t ts => simp at hl
  | cons r rows ih =>
    cases ts with
    | nil => simp at hl
    | cons t ts =>
      refine .cons (.tup (h 0 r t rfl rfl) (by rw [List.length_map]; have := h100 r (by simp); omega) bools_dv) (ih (by simp at h60; omega) (fun r hr => h100 r (by simp [hr])) (by simpa using hl) fun j r b e1 e2 => h (j + 1) r b (by simpa using e1) (by simpa using e2))
def rTupOf (K : PySem.W.Frag) : List V → Hp → VK → Prop := fun xs H Q => ∃ p ys, xs = [.ref p] ∧ ((SqL K H p ys ∧ ∀ (l : Addr), H l = none → Q (.ref l) (upd H l (.tup ys))) ∨ SqT K H p ys ∧ Q (.ref p) H)
section
variable {P : Program} {w : World} {K : PySem.W.Frag} {mg : Str → Option Value} {base : Heap} {C_Moving C_Memory C_Heap : Addr}
def spSizes : Sp := fun vs H Q _ => ∃ (p : Addr) (n : Nat), vs = [.ref p] ∧ FeedAt H p n ∧ n + 100 ≤ 2 ^ 60 ∧ ∀ (v : V) (c : Sz) (m : Nat) (H' : Hp), KeptL [p] H H' → FeedAt H' p m → m ≤ n + 100 → Dv H' v (szPy c) → szOk c → c.1 ≤ 300 → c.2.2.1 ≤ 60 → Q v H'
theorem ok_sizes {f : Addr} {fd : FuncData} (G : Gd K mg "_law_sizes" s_law_sizes ["_law_feed_here"] f fd) (X : Lw K mg C_Moving C_Memory C_Heap) : FnOk P w K mg base CX0 3 f fd ["_law_feed_here"] (spSizes) := by
  obtain ⟨f__law_draw, d__law_draw, G__law_draw⟩ := X.f__law_draw
  have H__law_draw : FnOk P w K mg base CX0 1 f__law_draw d__law_draw ["_law_feed_here", "_law_many"] (spDk) := ok_drw G__law_draw X
  obtain ⟨f__law_one, d__law_one, G__law_one⟩ := X.f__law_one
  have H__law_one : FnOk P w K mg base CX0 2 f__law_one d__law_one ["_law_feed_here", "_law_things"] (spOl) := ok_oneL G__law_one X
  refine G.F.ok sc_law_sizes (fun vs H Q E h => ?_) (fun cdv A outer s H vs Q E hr h => ?_)
  · obtain ⟨p, n, rfl, _⟩ := h; rfl
  · obtain ⟨p, n, rfl, hF, hn, q⟩ := h
    refine ⟨_, (pss_cons (ps_set (i := 1) sc_law_sizes.nd rfl (Or.inl rfl) (pe_call H__law_one hr (by rfl) G__law_one.g G__law_one.F.kp G__law_one.b .nil pass0 (pa_cons (pv 0) (pa_cons (pe_lst (pa_cons pe_int (pa_cons pe_int (pa_cons pe_int (pa_cons pe_int (pa_cons pe_int pa_nil)))))) pa_nil))))
      (pss_one (ps_ret (pe_tup (pa_cons (pv 1) (pa_cons (pe_call H__law_one hr (by rfl) G__law_one.g G__law_one.F.kp G__law_one.b .nil pass0 (pa_cons (pv 0) (pa_cons (pe_lst (pa_cons pe_int (pa_cons pe_int (pa_cons pe_int (pa_cons pe_int pa_nil))))) pa_nil))) (pa_cons (pe_call H__law_one hr (by rfl) G__law_one.g G__law_one.F.kp G__law_one.b .nil pass0 (pa_cons (pv 0) (pa_cons (pe_lst (pa_cons pe_int (pa_cons pe_int (pa_cons pe_int (pa_cons pe_int pa_nil))))) pa_nil))) (pa_cons (pe_op op_add pe_int (pe_call H__law_draw (hr.mono (by decide)) (by rfl) G__law_draw.g G__law_draw.F.kp G__law_draw.b .nil pass0 (pa_cons (pv 0) (pa_cons pe_int pa_nil)))) pa_nil)))))))), ?_⟩
    refine ⟨_, rfl, by show 5 ≤ sizeLine; decide, fun L nL => ?_⟩
    refine one_new (E := E0) hF (by omega) (by simp) (by simp) (fun x H1 hx k1 F1 => ?_) L nL
    obtain ⟨x, rfl, ix⟩ := in_nat (L := [16, 16, 20, 40, 300]) hx
    refine ⟨_, rfl, _, rfl, by show 4 ≤ sizeLine; decide, fun L2 nL2 => ?_⟩
    refine one_new (E := E0) F1 (by omega) (by simp) (by simp) (fun y H2 hy k2 F2 => ?_) L2 nL2
    obtain ⟨y, rfl, iy⟩ := in_nat (L := [0, 4, 12, 30]) hy
    refine ⟨_, rfl, by show 4 ≤ sizeLine; decide, fun L3 nL3 => ?_⟩
    refine one_new (E := E0) F2 (by omega) (by simp) (by simp) (fun z H3 hz k3 F3 => ?_) L3 nL3
    obtain ⟨z, rfl, iz⟩ := in_nat (L := [4, 6, 10, 16]) hz
    refine ⟨_, rfl, p, 7, n + 1 + 1 + 1, rfl, F3, by omega, by decide, by decide, fun r H4 r0 r1 k4 F4 => ⟨_, _, rfl, rfl, by show 4 ≤ sizeLine; decide, fun b nb => ?_⟩⟩
    obtain ⟨r, rfl⟩ := Int.eq_ofNat_of_zero_le r0
    have K4 := ((k1.trans k2).trans k3).trans k4
    have dx : ∀ x ∈ ([16, 16, 20, 40, 300] : List Nat), 16 ≤ x ∧ x ≤ 300 := by decide
    have dy : ∀ x ∈ ([0, 4, 12, 30] : List Nat), x ≤ 4096 := by decide
    have dz : ∀ x ∈ ([4, 6, 10, 16] : List Nat), 4 ≤ x ∧ x ≤ 16 := by decide
    have hx := dx x ix
    have hy := dy y iy
    have hz := dz z iz
    refine q (.ref b) (x, y, z, 1 + r) _ _ (K4.trans (KeptL.of_same (same_new nb))) (feed_new F4 nb) (by omega) (szPy_mk upd_same) ?_ hx.2 (by show z ≤ 60; omega)
    exact ⟨hx.1, by show x ≤ 4096; omega, hy, hz.1, Nat.le_trans hz.2 hx.1, by show 1 ≤ 1 + r; omega, by show 1 + r ≤ 7; omega⟩
def spShapes : Sp := fun vs H Q _ => ∃ (p : Addr) (n : Nat), vs = [.ref p] ∧ FeedAt H p n ∧ n + 1000 ≤ 2 ^ 60 ∧ ∀ (a : Addr) (ts : List Addr) (sh : List (List Bool)) (m : Nat) (H' : Hp), KeptL [p] H H' → FeedAt H' p m → m ≤ n + 1000 → H' a = some (.tup (ts.map V.ref)) → TupsAt H' ts sh → 1 ≤ sh.length → sh.length ≤ 3 → (∀ r ∈ sh, r.length ≤ 100) → Q (.ref a) H'
theorem ok_shapes {f : Addr} {fd : FuncData} (G : Gd K mg "_law_shapes" s_law_shapes ["_law_feed_here"] f fd) (X : Lw K mg C_Moving C_Memory C_Heap) : FnOk P w K mg base CX0 3 f fd ["_law_feed_here"] (spShapes) := by
  obtain ⟨f__law_draw, d__law_draw, G__law_draw⟩ := X.f__law_draw
  have H__law_draw : FnOk P w K mg base CX0 1 f__law_draw d__law_draw ["_law_feed_here", "_law_many"] (spDk) := ok_drw G__law_draw X
  refine G.F.ok sc_law_shapes (fun vs H Q E h => ?_) (fun cdv A outer s H vs Q E hr h => ?_)
  · obtain ⟨p, n, rfl, _⟩ := h; rfl
  · obtain ⟨p, n, rfl, hF, hn, q⟩ := h
    refine ⟨_, (pss_one (ps_ret (pe_callTy call_tuple_of (by rfl) X.b_tuple (by decide +kernel) (pa_cons (pe_lc (own := [("_law_turn", 2)]) (g := (gName 2)) (te := tCB (rTupOf K) (tCons (tLc (iRng1 (tCons (tCall spDk [] E0 (tCons (tVar 0) (tCons (tC (.int 5)) tNil))) tNil)) (gName 1) tYes (tOp rEq (tCall spDk [] E0 (tCons (tVar 0) (tCons (tC (.int 2)) tNil))) (tC (.int 0))) [1]) tNil)) (tt := tYes) rfl sc_law_shapes.nd (pi_range1 (by rfl) X.b_range (pa_cons (pe_op op_add pe_int (pe_call H__law_draw (hr.mono (by decide)) (by rfl) G__law_draw.g G__law_draw.F.kp G__law_draw.b .nil pass0 (pa_cons (pv 0) (pa_cons pe_int pa_nil)))) pa_nil)) (blkOk_by (own := [("_law_turn", 2)]) (N := ["_law_feed_here", "_law_field", "_law_turn"]) (sc := defScope s_law_shapes) (by decide +kernel)) (fun _ _ _ _ _ => (pg_name (i := 2) sc_law_shapes.nd rfl (Or.inl rfl))) (fun _ _ _ _ _ => pts_nil) (fun _ _ _ _ _ => (pe_callTy call_tuple_of (by rfl) X.b_tuple (by decide +kernel) (pa_cons (pe_lc (own := [("_law_field", 1)]) (g := (gName 1)) (tt := tYes) rfl sc_law_shapes.nd (pi_range1 (by rfl) X.b_range (pa_cons (pe_call H__law_draw (hr.mono (by decide)) (by rfl) G__law_draw.g G__law_draw.F.kp G__law_draw.b .nil pass0 (pa_cons (pv 0) (pa_cons pe_int pa_nil))) pa_nil)) (blkOk_by (own := [("_law_field", 1)]) (N := ["_law_feed_here", "_law_field", "_law_turn"]) (sc := { kind := .function, names := [(".0", .local), ("_law_turn", .local), ("tuple", .globalImplicit), ("range", .globalImplicit), ("_law_draw", .globalImplicit), ("_law_feed_here", .cell)], isGenerator := false, isCoroutine := false }) (by decide +kernel)) (fun _ _ _ _ _ => (pg_name (i := 1) sc_law_shapes.nd rfl (Or.inl rfl))) (fun _ _ _ _ _ => pts_nil) (fun _ _ _ _ _ => (pe_cmpR op_eq (pe_call H__law_draw (hr.mono (by decide)) (by rfl) G__law_draw.g G__law_draw.F.kp G__law_draw.b .nil pass0 (pa_cons (pv 0) (pa_cons pe_int pa_nil))) pe_int (nomark _)))) pa_nil)))) pa_nil)))), ?_⟩
    refine ⟨_, rfl, p, 3, n, rfl, hF, by omega, by decide, by decide, fun m0 H2 m1 m2 k2 F2 => ⟨_, _, rfl, rfl, ?_⟩⟩
    obtain ⟨m0, rfl⟩ := Int.eq_ofNat_of_zero_le m1
    refine ⟨_, rfl, by omega, by omega, fun D nD => ?_⟩
    have hDp : D ≠ p := feed_ne F2 nD
    refine lc_range (n := (1 + (m0 : Int)).toNat) (lo := 0) (fun i H6 => ∃ (ls : List Addr) (rows : List (List Bool)) (m : Nat), H6 D = some (.lst (ls.map V.ref)) ∧ rows.length = i ∧ TupsAt H6 ls rows ∧ (∀ r ∈ rows, r.length ≤ 100) ∧ KeptL [p] H2 H6 ∧ FeedAt H6 p m ∧ m ≤ n + 1 + 6 * i) ⟨[], [], n + 1, upd_same, rfl, ⟨rfl, fun j r b e => by simp at e⟩, fun r h => by simp at h, KeptL.of_same (same_new nD), feed_new F2 nD, by omega⟩ ?_ ?_
    · rintro i H6 hi ⟨ls, rows, m, hD, hrl, hrows, hr100, k6, F6, hm⟩
      refine ⟨rfl, _, rfl, p, 5, m, rfl, F6, by omega, by decide, by decide, fun r H7 r0 r1 k7 F7 => ⟨_, rfl, by omega, by omega, fun D2 nD2 => ?_⟩⟩
      have hD7 := k7 _ _ (by rw [List.mem_singleton]; exact hDp) hD
      have hD2p : D2 ≠ p := feed_ne F7 nD2
      have nDD : D ≠ D2 := ne_of_none hD7 nD2
      refine lc_range (n := r.toNat) (lo := 0) (fun j H8 => ∃ (bs : List Bool) (m' : Nat), H8 D2 = some (.lst (bs.map V.bl)) ∧ bs.length = j ∧ KeptL [p] H7 H8 ∧ FeedAt H8 p m' ∧ m' ≤ m + 1 + j) ⟨[], m + 1, upd_same, rfl, KeptL.of_same (same_new nD2), feed_new F7 nD2, by omega⟩ ?_ ?_
      · rintro j H8 hj ⟨bs, m', hb, hbl, k8, F8, hm'⟩
        refine ⟨rfl, _, rfl, p, 2, m', rfl, F8, by omega, by decide, by decide, fun v H9 v0 v1 k9 F9 => ⟨rfl, bs.map V.bl, k9 _ _ (by rw [List.mem_singleton]; exact hD2p) hb, ?_, bs ++ [_], m' + 1, by rw [upd_same, List.map_append]; rfl, by rw [List.length_append, hbl]; rfl, ?_, feed_at2 F9 hD2p, by omega⟩⟩
        · rw [List.length_map]
          exact small1000 (by omega)
        · exact kept_at (k8.trans k9) nD2
      · rintro H8 ⟨bs, m', hb, hbl, k8, F8, hm'⟩
        refine ⟨D2, _, rfl, .inl ⟨SqL.of hb, fun l nl => ?_⟩⟩
        have k68 := k7.trans k8
        have hD8 := k8 _ _ (by rw [List.mem_singleton]; exact hDp) hD7
        have lD : l ≠ D := (ne_of_none hD8 nl).symm
        have ft : ∀ b ∈ [p], ∀ xs, H6 b ≠ some (.tup xs) := fun b hb xs e => by
          rw [List.mem_singleton] at hb
          subst hb
          obtain ⟨x, y, z, e2, _⟩ := F6
          rw [e] at e2; cases e2
        have hr2 : TupsAt (upd H8 l (.tup (bs.map V.bl))) (ls ++ [l]) (rows ++ [bs]) := ((hrows.kept k68 ft).kept (KeptL.of_same (l := []) (same_new nl)) (fun b h => nomatch h)).snoc upd_same
        have hD9 : upd H8 l (.tup (bs.map V.bl)) D = some (.lst (ls.map V.ref)) := by rw [upd_ne lD.symm]; exact hD8
        refine ⟨ls.map V.ref, hD9, by rw [List.length_map, hrows.1]; exact small1000 (by omega), ls ++ [l], rows ++ [bs], m', by rw [upd_same, List.map_append]; rfl, by rw [List.length_append, hrl]; rfl, hr2.kept (l := [D]) (kept_upd (by simp)) (fun b hb xs e => ?_), fun r' hr => ?_, kept_at (k6.trans (k68.trans (KeptL.of_same (same_new nl)))) nD, feed_at2 (feed_new F8 nl) hDp, by omega⟩
        · rw [List.mem_singleton.mp hb, hD9] at e
          cases e
        · rcases List.mem_append.mp hr with z | z
          · exact hr100 r' z
          · rw [List.mem_singleton.mp z, hbl]
            omega
    · rintro H6 ⟨ls, rows, m, hD, hrl, hrows, hr100, k6, F6, hm⟩
      refine ⟨_, _, rfl, .inl ⟨SqL.of hD, fun t1 nt1 => ?_⟩⟩
      have S1 := same_new (o := .tup (ls.map V.ref)) nt1
      exact q t1 ls rows m _ ((k2.trans k6).trans (KeptL.of_same S1)) (feedS F6 S1) (by omega) upd_same (hrows.kept (KeptL.of_same (l := []) S1) (fun b h => nomatch h)) (by omega) (by omega) hr100
end
end PH

/-! The law's rooms; where one lies. -/
namespace PH
open PySem PySem.Spec PyProof.Rows L2 KA KI KK PV T ET
structure Gh where
  t : Nat → Addr
  b : Nat → Addr
  z : Option (Addr × HO)
def thL (g : Gh) (ob : Nat → Obj) (n : Nat) : List V := [.int (ob n).k, .int (ob n).age, .ref (g.b n), .int n]
def refsT (g : Gh) (ns : List Nat) : List V := ns.map fun n => V.ref (g.t n)
structure RmAt (H : Hp) (g : Gh) (A : AM) (aR l0 l1 l2 : Addr) : Prop where
  r : H aR = some (.lst [.ref l0, .ref l1, .ref l2])
  n : H l0 = some (.lst (refsT g A.nur))
  h : H l1 = some (.lst (refsT g A.hlf))
  o : H l2 = some (.lst (refsT g A.old))
  th : ∀ n ∈ A.all, H (g.t n) = some (.lst (thL g A.ob n))
  bd : ∀ n ∈ A.all, H (g.b n) = some (.lst ((A.ob n).b.map V.int))
theorem RmAt.same {H H' : Hp} {g : Gh} {A : AM} {aR l0 l1 l2 : Addr} (x : RmAt H g A aR l0 l1 l2) (s : Same H H') : RmAt H' g A aR l0 l1 l2 := ⟨s _ _ x.r, s _ _ x.n, s _ _ x.h, s _ _ x.o, fun n hn => s _ _ (x.th n hn), fun n hn => s _ _ (x.bd n hn)⟩
def rm (A : AM) : Nat → List Nat
  | 0 => A.nur
  | 1 => A.hlf
  | _ => A.old
def frm (c : Sz) (A : AM) : Nat → Nat
  | 0 => 1
  | 1 => hfirst c A.which
  | _ => c.fo
def rmN : Nat → Str
  | 0 => "nursery"
  | 1 => "half"
  | _ => "old"
def roomN (A : AM) (n : Nat) : Str := if n ∈ A.nur then "nursery" else if n ∈ A.hlf then "half" else "old"
theorem Laid.get {ob : Nat → Obj} {pl : Nat → Nat} : ∀ {f : Nat} {ns : List Nat} {l : Nat} {j n : Nat}, Laid ob pl f ns l → ns[j]? = some n → pl n = f + wsum ob (ns.take j)
  | f, m :: r, l, 0, n, h, e => by cases e; exact h.1
  | f, m :: r, l, j + 1, n, h, e => by
    rw [Laid.get h.2 e]
    show f + wd (ob m) + wsum ob (r.take j) = f + (wd (ob m) + wsum ob (r.take j))
    omega
def LaidAll (c : Sz) (A : AM) (pl : Nat → Nat) : Prop := A.which < 2 ∧ A.all.Nodup ∧ ∀ i, i < 3 → ∃ l, Laid A.ob pl (frm c A i) (rm A i) l
section
variable {P : Program} {w : World} {K : PySem.W.Frag} {mg : Str → Option Value} {base : Heap} {C_Moving C_Memory C_Heap : Addr}
def szT (H : Hp) (a : Addr) (c : Sz) : Prop := H a = some (.tup [.int c.1, .int c.2.1, .int c.2.2.1, .int c.2.2.2])
def spAddr (K : PySem.W.Frag) : Sp := fun vs H Q _ => ∃ (aR aSz l0 l1 l2 : Addr) (g : Gh) (A : AM) (c : Sz) (n : Nat) (pl : Nat → Nat), vs = [.ref aR, .ref aSz, .int A.which, .ref (g.t n)] ∧ RmAt H g A aR l0 l1 l2 ∧ szT H aSz c ∧ n ∈ A.all ∧ LaidAll c A pl ∧
  ∀ (b : Addr) (H' : Hp), H b = none → Same H H' → H' b = some (.tup [.int (pl n : Nat), .str (roomN A n)]) → Q (.ref b) H'
theorem ok_addr {f : Addr} {fd : FuncData} (G : Gd K mg "_law_address" s_law_address ["_law_rooms", "_law_sizes_here", "_law_which", "_law_one_here"] f fd) (X : Lw K mg C_Moving C_Memory C_Heap) : FnOk P w K mg base CX0 1 f fd ["_law_rooms", "_law_sizes_here", "_law_which", "_law_one_here"] (spAddr K) := by

  refine G.F.ok sc_law_address (fun vs H Q E h => ?_) (fun cdv A outer s H vs Q E hr h => ?_)
  · obtain ⟨aR, aSz, l0, l1, l2, g, A, c, n, pl, rfl, _⟩ := h; rfl
  · obtain ⟨aR, aSz, l0, l1, l2, g, A, c, n, pl, rfl, hR, hz, hn, hL, q⟩ := h
    refine ⟨_, (pss_cons (ps_set (i := 4) sc_law_address.nd rfl (Or.inl rfl) (pe_lst (pa_cons pe_int (pa_cons (pe_op op_add (pe_op op_add pe_int (pe_ix ix_tup (pv 1) pe_int (fun _ _ => rfl))) (pe_op op_mul (pv 2) (pe_ix ix_tup (pv 1) pe_int (fun _ _ => rfl)))) (pa_cons (pe_op op_add (pe_op op_add pe_int (pe_ix ix_tup (pv 1) pe_int (fun _ _ => rfl))) (pe_op op_mul pe_int (pe_ix ix_tup (pv 1) pe_int (fun _ _ => rfl)))) pa_nil)))))
      (pss_cons (ps_for PassesOwn.never rfl (pi_range1 (by rfl) X.b_range (pa_cons pe_int pa_nil)) (pg_name (i := 5) sc_law_address.nd rfl (Or.inl rfl))
        (pss_cons (ps_set (i := 6) sc_law_address.nd rfl (Or.inl rfl) (pe_ix ix_list (pv 4) (pv 5) (fun _ _ => rfl)))
      (pss_one (ps_for PassesOwn.never rfl (pi_list (pe_ix ix_list (pv 0) (pv 5) (fun _ _ => rfl))) (pg_name (i := 7) sc_law_address.nd rfl (Or.inl rfl))
        (pss_cons (ps_if (pt_cmpR op_eq (pe_ix ix_list (pv 7) pe_int (fun _ _ => rfl)) (pe_ix ix_list (pv 3) pe_int (fun _ _ => rfl)) (nomark _))
        (pss_one (ps_ret (pe_tup (pa_cons (pv 6) (pa_cons (pe_ix ix_list (pe_lst (pa_cons pe_str (pa_cons pe_str (pa_cons pe_str pa_nil)))) (pv 5) (fun _ _ => rfl)) pa_nil))))) pss_nil)
      (pss_one (ps_set (i := 6) sc_law_address.nd rfl (Or.inl rfl) (pe_op op_add (pe_op op_add (pv 6) pe_int) (pe_callB call_len (by rfl) X.b_len PySem.boot_len (pa_cons (pe_ix ix_list (pv 7) pe_int (fun _ _ => rfl)) pa_nil))))))))))
      (pss_one (ps_ret (pe_tup (pa_cons pe_int (pa_cons pe_str pa_nil))))))), ?_⟩
    obtain ⟨w2, nd, hLd⟩ := hL
    refine ⟨_, rfl, aSz, _, 0, _, rfl, rfl, SqT.of hz, rfl, _, _, rfl, rfl, _, rfl, _, rfl, aSz, _, 1, _, rfl, rfl, SqT.of hz, rfl, _, _, rfl, rfl, .inl ⟨by omega, by omega⟩, _, _, rfl, rfl, _, rfl, aSz, _, 0, _, rfl, rfl, SqT.of hz, rfl, _, _, rfl, rfl, _, rfl, aSz, _, 1, _, rfl, rfl, SqT.of hz, rfl, _, _, rfl, rfl, .inl ⟨by decide, by decide⟩, _, _, rfl, rfl, by show 3 ≤ sizeLine; decide, fun aF nF => ?_⟩
    have e1 : 1 + (c.1 : Int) + (A.which : Int) * (c.2.1 : Int) = ((frm c A 1 : Nat) : Int) := by
      rw [show frm c A 1 = c.1 + 1 + A.which * c.2.1 from (hfirst_eq (c := c) w2).1, Int.natCast_add, Int.natCast_mul]
      omega
    have e2 : 1 + (c.1 : Int) + 2 * (c.2.1 : Int) = ((frm c A 2 : Nat) : Int) := by
      rw [show frm c A 2 = c.1 + 2 * c.2.1 + 1 from rfl]
      omega
    obtain ⟨H1, g1⟩ : ∃ G : Hp, G = upd H aF (.lst [.int 1, .int (1 + (c.1 : Int) + (A.which : Int) * (c.2.1 : Int)), .int (1 + (c.1 : Int) + 2 * (c.2.1 : Int))]) := ⟨_, rfl⟩
    refine at_nx g1 ?_
    have S1 : Same H H1 := by rw [g1]; exact same_new nF
    have hF : H1 aF = some (.lst [.int 1, .int (frm c A 1 : Nat), .int (frm c A 2 : Nat)]) := by rw [g1, upd_same, e1, e2]
    clear g1 e1 e2
    have hR1 := hR.same S1
    refine ⟨_, rfl, by omega, by omega, ?_⟩
    refine for_range (n := 3) (lo := 0) (fun i σ H' => H' = H1 ∧ (∀ k, k < i → n ∉ rm A k) ∧ ∃ o5 o6 o7, σ = [some (.ref aR), some (.ref aSz), some (.int A.which), some (.ref (g.t n)), some (.ref aF), o5, o6, o7]) ⟨rfl, fun k h => by omega, _, _, _, rfl⟩ ?_ ?_
    · rintro i σ H' hi ⟨rfl, hno, o5, o6, o7, rfl⟩
      have li : ∃ l, ([V.ref l0, .ref l1, .ref l2] : List V)[i]? = some (.ref l) ∧ H' l = some (.lst (refsT g (rm A i))) ∧ ([V.int 1, .int (frm c A 1 : Nat), .int (frm c A 2 : Nat)] : List V)[i]? = some (.int (frm c A i : Nat)) ∧ ([V.str "nursery", .str "half", .str "old"] : List V)[i]? = some (.str (rmN i)) := by
        rcases (by omega : i = 0 ∨ i = 1 ∨ i = 2) with rfl | rfl | rfl
        · exact ⟨l0, rfl, hR1.n, rfl, rfl⟩
        · exact ⟨l1, rfl, hR1.h, rfl, rfl⟩
        · exact ⟨l2, rfl, hR1.o, rfl, rfl⟩
      obtain ⟨l, p1, p2, p3, p4⟩ := li
      obtain ⟨le, hLi⟩ := hLd i hi
      rw [Int.zero_add]
      refine ⟨_, rfl, _, rfl, aF, _, (i : Int), _, rfl, rfl, SqL.of hF, atI_nat p3, ?_⟩
      refine ⟨_, rfl, _, rfl, aR, _, (i : Int), .ref l, rfl, rfl, SqL.of hR1.r, atI_nat p1, l, rfl, ⟨_, SqL.of p2⟩, ?_⟩
      refine for_list (xs := refsT g (rm A i)) (fun j σ H2 => H2 = H' ∧ n ∉ (rm A i).take j ∧ ∃ o7, σ = [some (.ref aR), some (.ref aSz), some (.int A.which), some (.ref (g.t n)), some (.ref aF), some (.int (i : Int)), some (.int ((frm c A i + wsum A.ob ((rm A i).take j) : Nat) : Int)), o7]) ⟨rfl, by simp, _, rfl⟩ ?_ ?_ ?_
      · rintro j σ H2 _ ⟨rfl, _⟩
        exact SqL.of p2
      · rintro j x σ H2 hj ⟨rfl, hn2, o7, rfl⟩
        unfold refsT at hj
        rw [List.getElem?_map] at hj
        obtain ⟨m, hm, rfl⟩ := Option.map_eq_some_iff.mp hj
        have hmA : m ∈ A.all := by
          have := List.mem_of_getElem? hm
          unfold AM.all
          rcases (by omega : i = 0 ∨ i = 1 ∨ i = 2) with rfl | rfl | rfl
          · exact List.mem_append_left _ (List.mem_append_left _ this)
          · exact List.mem_append_left _ (List.mem_append_right _ this)
          · exact List.mem_append_right _ this
        refine ⟨_, rfl, g.t m, _, 3, _, rfl, rfl, SqL.of (hR1.th m hmA), rfl, _, rfl, g.t n, _, 3, _, rfl, rfl, SqL.of (hR1.th n hn), rfl, rfl, _, rfl, ite2 (fun he => ?_) (fun he => ?_)⟩
        · have he : m = n := by
            have := of_decide_eq_true he
            injection this with this
            omega
          subst he
          refine ⟨_, rfl, by show 3 ≤ sizeLine; decide, fun L nL => ⟨_, rfl, L, _, (i : Int), .str (rmN i), rfl, rfl, SqL.of upd_same, atI_nat p4, by show 2 ≤ sizeLine; decide, fun b nb => ?_⟩⟩
          have S2 := (S1.trans (same_new (o := .lst [.str "nursery", .str "half", .str "old"]) nL)).trans (same_new (o := .tup [.int ((frm c A i + wsum A.ob ((rm A i).take j) : Nat) : Int), .str (rmN i)]) nb)
          refine q b _ ((S1.trans (same_new nL)).free nb) S2 ?_
          rw [upd_same, hLi.get hm]
          have : roomN A m = rmN i := by
            have hmr := List.mem_of_getElem? hm
            unfold roomN
            rcases (by omega : i = 0 ∨ i = 1 ∨ i = 2) with rfl | rfl | rfl
            · exact if_pos hmr
            · exact (if_neg (hno 0 (by omega))).trans (if_pos hmr)
            · exact (if_neg (hno 0 (by omega))).trans (if_neg (hno 1 (by omega)))
          rw [this]
        · have he : m ≠ n := fun z => by
            exact he (by rw [z]; exact decide_eq_true rfl)
          have hml := (List.getElem?_eq_some_iff.mp hm).1
          have et : (rm A i).take (j + 1) = (rm A i).take j ++ [m] := by
            rw [List.take_succ_eq_append_getElem hml, (List.getElem?_eq_some_iff.mp hm).2]
          refine ⟨_, rfl, _, _, rfl, rfl, _, rfl, g.t m, _, 2, _, rfl, rfl, SqL.of (hR1.th m hmA), rfl, .ref (g.b m), _, rfl, .inl ⟨_, SqL.of (hR1.bd m hmA), rfl⟩, _, _, rfl, rfl, rfl, ?_, some (.ref (g.t m)), ?_⟩
          · rw [et]
            exact fun z => (List.mem_append.mp z).elim hn2 fun y => he (List.mem_singleton.mp y).symm
          · rw [et, wsum_app, List.length_map]
            have : ((frm c A i + wsum A.ob ((rm A i).take j) : Nat) : Int) + 2 + ((A.ob m).b.length : Int) = ((frm c A i + (wsum A.ob ((rm A i).take j) + wsum A.ob [m]) : Nat) : Int) := by
              show _ = ((frm c A i + (wsum A.ob ((rm A i).take j) + (wd (A.ob m) + 0)) : Nat) : Int)
              unfold wd
              omega
            rw [← this]
            rfl
      · rintro σ H2 ⟨rfl, hn2, o7, rfl⟩
        refine ⟨rfl, fun k hk => ?_, _, _, _, rfl⟩
        rcases (by omega : k < i ∨ k = i) with z | rfl
        · exact hno k z
        · unfold refsT at hn2
          rw [List.length_map, List.take_length] at hn2
          exact hn2
    · rintro σ H2 ⟨rfl, hno, o5, o6, o7, rfl⟩
      exfalso
      unfold AM.all at hn
      rcases List.mem_append.mp hn with z | z
      · rcases List.mem_append.mp z with z | z
        · exact hno 0 (by omega) z
        · exact hno 1 (by omega) z
      · exact hno 2 (by omega) z
end
end PH

/-! The words of a room; the roots. -/
namespace PH
open PySem PySem.Spec PyProof.Rows L2 KA KI KK PV T ET
def obWords (o : Obj) : List Int := headW o.k o.age 0 :: (o.b.length : Int) :: o.b
def roomWords (ob : Nat → Obj) (ns : List Nat) : List Int := ns.flatMap fun n => obWords (ob n)
theorem roomWords_len (ob : Nat → Obj) : ∀ (ns : List Nat), (roomWords ob ns).length = wsum ob ns
  | [] => rfl
  | n :: r => by
    show (obWords (ob n) ++ roomWords ob r).length = wd (ob n) + wsum ob r
    rw [List.length_append, roomWords_len ob r]
    rfl
section
variable {P : Program} {w : World} {K : PySem.W.Frag} {mg : Str → Option Value} {base : Heap} {C_Moving C_Memory C_Heap : Addr}
def spWords : Sp := fun vs H Q _ => ∃ (l : Addr) (g : Gh) (ob : Nat → Obj) (ns : List Nat), vs = [.ref l] ∧ H l = some (.lst (refsT g ns)) ∧ (∀ n ∈ ns, H (g.t n) = some (.lst (thL g ob n)) ∧ H (g.b n) = some (.lst ((ob n).b.map V.int))) ∧ wsum ob ns ≤ 100000 ∧
  ∀ (b : Addr) (H' : Hp), H b = none → Same H H' → H' b = some (.tup ((roomWords ob ns).map V.int)) → Q (.ref b) H'
theorem ok_words {f : Addr} {fd : FuncData} (G : Gd K mg "_law_words" s_law_words ["_law_room"] f fd) (X : Lw K mg C_Moving C_Memory C_Heap) : FnOk P w K mg base CX0 1 f fd ["_law_room"] (spWords) := by

  refine G.F.ok sc_law_words (fun vs H Q E h => ?_) (fun cdv A outer s H vs Q E hr h => ?_)
  · obtain ⟨l, g, ob, ns, rfl, _⟩ := h; rfl
  · obtain ⟨l, g, ob, ns, rfl, hl, hx, hw, q⟩ := h
    refine ⟨_, (pss_cons (ps_set (i := 1) sc_law_words.nd rfl (Or.inl rfl) (pe_lst pa_nil))
      (pss_cons (ps_for PassesOwn.never rfl (pi_list (pv 0)) (pg_unl rfl (pgs_cons (pg_name (i := 2) sc_law_words.nd rfl (Or.inl rfl)) (pgs_cons (pg_name (i := 3) sc_law_words.nd rfl (Or.inl rfl)) (pgs_cons (pg_name (i := 4) sc_law_words.nd rfl (Or.inl rfl)) (pgs_cons (pg_name (i := 5) sc_law_words.nd rfl (Or.inl rfl)) pgs_nil)))))
        (pss_one (ps_expr (pe_bm PySem.F.plainAttrs_list PySem.F.slot_list_extend PySem.F.type_list_extend mt_extend (pv 1) (pa_cons (pe_op op_cat (pe_lst (pa_cons (pe_op op_add (pe_op op_mul (pe_op op_add (pv 2) pe_int) pe_int) (pe_op op_mul (pv 3) pe_int)) (pa_cons (pe_callB call_len (by rfl) X.b_len PySem.boot_len (pa_cons (pv 4) pa_nil)) pa_nil))) (pv 4)) pa_nil)))))
      (pss_one (ps_ret (pe_callTy call_tuple_of (by rfl) X.b_tuple (by decide +kernel) (pa_cons (pv 1) pa_nil)))))), ?_⟩
    refine ⟨Nat.zero_le _, fun w nw => ?_⟩
    have S1 := same_new (o := .lst []) nw
    have hw1 : upd H w (.lst []) w = some (.lst []) := upd_same
    revert S1 hw1
    generalize upd H w (.lst []) = H1
    intro S1 hw1
    refine ⟨_, rfl, l, rfl, ⟨_, SqL.of (S1 _ _ hl)⟩, for_list (xs := refsT g ns) (fun i σ H' => ∃ o2 o3 o4 o5, σ = [some (.ref l), some (.ref w), o2, o3, o4, o5] ∧ H' w = some (.lst ((roomWords ob (ns.take i)).map V.int)) ∧ Same H H') ⟨_, _, _, _, rfl, hw1, S1⟩ ?_ ?_ ?_⟩
    · rintro i σ H' _ ⟨_, _, _, _, _, _, S2⟩
      exact SqL.of (S2 _ _ hl)
    · rintro i x σ H2 hj ⟨o2, o3, o4, o5, rfl, hw2, S2⟩
      unfold refsT at hj
      rw [List.getElem?_map] at hj
      obtain ⟨m, hm, rfl⟩ := Option.map_eq_some_iff.mp hj
      have hml := (List.getElem?_eq_some_iff.mp hm).1
      have et : ns.take (i + 1) = ns.take i ++ [m] := by
        rw [List.take_succ_eq_append_getElem hml, (List.getElem?_eq_some_iff.mp hm).2]
      obtain ⟨x1, x2⟩ := hx m (List.mem_of_getElem? hm)
      have bl : (ob m).b.length ≤ 100000 := by
        have : wsum ob ns = wsum ob (ns.take i) + (wd (ob m) + wsum ob (ns.drop (i + 1))) := by
          conv => lhs; rw [← List.take_append_drop i ns]
          rw [wsum_app, List.drop_eq_getElem_cons hml, (List.getElem?_eq_some_iff.mp hm).2]
          rfl
        unfold wd at this
        omega
      have wl : wsum ob (ns.take (i + 1)) ≤ 100000 := by
        have : wsum ob ns = wsum ob (ns.take (i + 1)) + wsum ob (ns.drop (i + 1)) := by rw [← wsum_app, List.take_append_drop]
        omega
      refine ⟨g.t m, _, rfl, SqL.of (S2 _ _ x1), rfl, _, _, rfl, _, _, rfl, _, _, rfl, _, _, rfl, rfl, ?_⟩
      refine ⟨_, rfl, .inl ⟨rfl, _, SqL.of hw2⟩, _, rfl, _, _, rfl, rfl, _, _, rfl, rfl, .inr ⟨by decide, by decide⟩, _, rfl, _, _, rfl, rfl, .inr ⟨by decide, by decide⟩, _, _, rfl, rfl, _, rfl, .ref (g.b m), _, rfl, .inl ⟨_, SqL.of (S2 _ _ x2), rfl⟩, by show 2 ≤ sizeLine; decide, fun L nL => ⟨_, rfl, ?_⟩⟩
      rw [List.length_map]
      have eh : ((ob m).k + 3) * 64 + ((ob m).age : Int) * 4 = headW (ob m).k (ob m).age 0 := by unfold headW; simp
      obtain ⟨H3, g3⟩ : ∃ G : Hp, G = upd H2 L (.lst [.int (((ob m).k + 3) * 64 + ((ob m).age : Int) * 4), .int ((ob m).b.length : Int)]) := ⟨_, rfl⟩
      have S3 : Same H2 H3 := by rw [g3]; exact same_new nL
      have hL : H3 L = some (.lst [.int (headW (ob m).k (ob m).age 0), .int ((ob m).b.length : Int)]) := by rw [g3, upd_same, eh]
      have hLw : ∀ p, upd H2 L (.lst [.int (((ob m).k + 3) * 64 + ((ob m).age : Int) * 4), .int ((ob m).b.length : Int)]) p = none → w ≠ p := fun p np => ne_of_none (S3 _ _ hw2) (by rw [g3]; exact np)
      refine ⟨L, g.b m, [.int (headW (ob m).k (ob m).age 0), .int ((ob m).b.length : Int)], (ob m).b.map V.int, rfl, rfl, by rw [← g3]; exact hL, by rw [← g3]; exact S3 _ _ (S2 _ _ x2), by rw [List.length_map]; exact Nat.le_of_lt (big (by show 2 + _ ≤ _; omega)), fun p np => ?_⟩
      have e6 : ([V.int (headW (ob m).k (ob m).age 0), .int ((ob m).b.length : Int)] : List V) ++ (ob m).b.map V.int = (obWords (ob m)).map V.int := rfl
      have e7 : (roomWords ob (ns.take i)).map V.int ++ (obWords (ob m)).map V.int = (roomWords ob (ns.take (i + 1))).map V.int := by
        rw [et]
        unfold roomWords
        rw [List.flatMap_append, List.map_append]
        simp
      refine ⟨w, p, (roomWords ob (ns.take i)).map V.int, (obWords (ob m)).map V.int, rfl, rfl, ?_, ?_, ?_, ?_⟩
      · rw [upd_ne (hLw p np), ← g3]
        exact S3 _ _ hw2
      · rw [upd_same, e6]
      · rw [← List.length_append, e7, List.length_map, roomWords_len]
        exact Nat.le_of_lt (big (by omega))
      · rw [e7]
        exact ⟨_, _, _, _, rfl, upd_same, same_at nw ((S2.trans (by rw [← g3]; exact S3)).trans (same_new np))⟩
    · rintro σ H2 ⟨o2, o3, o4, o5, rfl, hw2, S2⟩
      unfold refsT at hw2
      rw [List.length_map, List.take_length] at hw2
      refine ⟨_, rfl, w, _, rfl, .inl ⟨SqL.of hw2, fun b nb => ?_⟩⟩
      exact q b _ (S2.free nb) (S2.trans (same_new nb)) upd_same
def spRoots (K : PySem.W.Frag) : Sp := fun vs H Q _ => ∃ (aR aSz aH l0 l1 l2 : Addr) (g : Gh) (A : AM) (c : Sz) (held : List Nat) (pl : Nat → Nat), vs = [.ref aR, .ref aSz, .int A.which, .ref aH] ∧ RmAt H g A aR l0 l1 l2 ∧ szT H aSz c ∧ H aH = some (.lst (refsT g held)) ∧ held.length ≤ 1000 ∧ (∀ n ∈ held, n ∈ A.all) ∧ LaidAll c A pl ∧
  ∀ (b : Addr) (H' : Hp), H b = none → Same H H' → H' b = some (.tup ((held.map fun n => (pl n : Int)).map V.int)) → Q (.ref b) H'
theorem ok_roots {f : Addr} {fd : FuncData} (G : Gd K mg "_law_roots" s_law_roots ["_law_rooms", "_law_sizes_here", "_law_which", "_law_held"] f fd) (X : Lw K mg C_Moving C_Memory C_Heap) : FnOk P w K mg base CX0 2 f fd ["_law_rooms", "_law_sizes_here", "_law_which", "_law_held"] (spRoots K) := by
  obtain ⟨f__law_address, d__law_address, G__law_address⟩ := X.f__law_address
  have H__law_address : FnOk P w K mg base CX0 1 f__law_address d__law_address ["_law_rooms", "_law_sizes_here", "_law_which", "_law_one_here"] (spAddr K) := ok_addr G__law_address X
  refine G.F.ok sc_law_roots (fun vs H Q E h => ?_) (fun cdv A outer s H vs Q E hr h => ?_)
  · obtain ⟨aR, aSz, aH, l0, l1, l2, g, A, c, held, pl, rfl, _⟩ := h; rfl
  · obtain ⟨aR, aSz, aH, l0, l1, l2, g, A, c, held, pl, rfl, hR, hz, hH, hhl, hha, hL, q⟩ := h
    refine ⟨_, (pss_one (ps_ret (pe_callTy call_tuple_of (by rfl) X.b_tuple (by decide +kernel) (pa_cons (pe_lc (own := [("_law_one_here", 4)]) (g := (gName 4)) (te := tOp (rIxT K) (tCall (spAddr K) [] E0 (tCons (tVar 0) (tCons (tVar 1) (tCons (tVar 2) (tCons (tVar 4) tNil))))) (tC (.int 0))) (tt := tYes) rfl sc_law_roots.nd (pi_list (pv 3)) (blkOk_by (own := [("_law_one_here", 4)]) (N := ["_law_rooms", "_law_sizes_here", "_law_which", "_law_held", "_law_one_here"]) (sc := defScope s_law_roots) (by decide +kernel)) (fun _ _ _ _ _ => (pg_name (i := 4) sc_law_roots.nd rfl (Or.inl rfl))) (fun _ _ _ _ _ => pts_nil) (fun _ _ _ _ _ => (pe_ix ix_tup (pe_call H__law_address hr (by rfl) G__law_address.g G__law_address.F.kp G__law_address.b .nil pass0 (pa_cons (pv 0) (pa_cons (pv 1) (pa_cons (pv 2) (pa_cons (pv 4) pa_nil))))) pe_int (fun _ _ => rfl)))) pa_nil)))), ?_⟩
    refine ⟨_, rfl, aH, rfl, ⟨_, SqL.of hH⟩, fun D nD => ?_⟩
    refine lc_list (K := K) (xs := refsT g held) (fun i H' => H' D = some (.lst (((held.take i).map fun n => (pl n : Int)).map V.int)) ∧ Same H H') ⟨upd_same, same_new nD⟩ (fun i H' _ h => SqL.of (h.2 _ _ hH)) ?_ ?_
    · rintro i x H' hj ⟨hD, S2⟩
      unfold refsT at hj
      rw [List.getElem?_map] at hj
      obtain ⟨m, hm, rfl⟩ := Option.map_eq_some_iff.mp hj
      have hml := (List.getElem?_eq_some_iff.mp hm).1
      have et : held.take (i + 1) = held.take i ++ [m] := by
        rw [List.take_succ_eq_append_getElem hml, (List.getElem?_eq_some_iff.mp hm).2]
      refine ⟨rfl, _, rfl, _, rfl, _, rfl, _, rfl, aR, aSz, l0, l1, l2, g, A, c, m, pl, rfl, hR.same S2, S2 _ _ hz, hha m (List.mem_of_getElem? hm), hL, fun b H3 nb S3 hb => ?_⟩
      refine ⟨b, _, 0, _, rfl, rfl, SqT.of hb, rfl, _, S3 _ _ hD, ?_, ?_, ?_⟩
      · rw [List.length_map, List.length_map, List.length_take]
        exact small1000 (by omega)
      · rw [upd_same, et, List.map_append, List.map_append]
        rfl
      · exact same_at nD (S2.trans S3)
    · rintro H' ⟨hD, S2⟩
      rw [show (refsT g held).length = held.length by unfold refsT; rw [List.length_map], List.take_length] at hD
      refine ⟨D, _, rfl, .inl ⟨SqL.of hD, fun b nb => q b _ (S2.free nb) (S2.trans (same_new nb)) upd_same⟩⟩
end
end PH

/-! The law's own collection. -/
namespace PH
open PySem PySem.Spec PyProof.Rows L2 KA KI KK PV T ET
def wk0 (A : AM) : Wk := ⟨A.ob, A.grey, [], []⟩
def minB (c : Sz) (A : AM) (held : List Nat) : Wk := held.foldl (leadA c false A) (wk0 A)
def minA (c : Sz) (A : AM) (held : List Nat) : AM :=
  { nur := [], hlf := (minB c A held).th, old := A.old ++ (minB c A held).fr, grey := (minB c A held).grey, ob := (minB c A held).ob, which := 1 - A.which, mark := A.mark }
theorem leadA_sub {c : Sz} {st : Bool} {A : AM} {B : Wk} {x n : Nat} (h : n ∈ (leadA c st A B x).th ++ (leadA c st A B x).fr) : n ∈ B.th ++ B.fr ∨ (n = x ∧ x ∈ A.nur ++ A.hlf) := by
  unfold leadA at h
  split at h
  · rename_i hc
    split at h
    · simp only [List.mem_append, List.mem_singleton] at h ⊢
      rcases h with (h | h) | h
      · exact .inl (.inl h)
      · exact .inr ⟨h, by simpa using hc.1⟩
      · exact .inl (.inr h)
    · simp only [List.mem_append, List.mem_singleton] at h ⊢
      rcases h with h | (h | h)
      · exact .inl (.inl h)
      · exact .inl (.inr h)
      · exact .inr ⟨h, by simpa using hc.1⟩
  · exact .inl h
theorem leadA_bk {c : Sz} {st : Bool} {A : AM} {B : Wk} {x n : Nat} : ((leadA c st A B x).ob n).b = (B.ob n).b ∧ ((leadA c st A B x).ob n).k = (B.ob n).k := by
  unfold leadA
  split
  · split
    · show ((if n = x then { B.ob x with age := (B.ob x).age + 1 } else B.ob n : Obj)).b = _ ∧ ((if n = x then { B.ob x with age := (B.ob x).age + 1 } else B.ob n : Obj)).k = _
      split
      · rename_i h; subst h; exact ⟨rfl, rfl⟩
      · exact ⟨rfl, rfl⟩
    · show ((if n = x then { B.ob x with age := 0, col := if A.mark = true then 1 else (B.ob x).col } else B.ob n : Obj)).b = _ ∧ ((if n = x then { B.ob x with age := 0, col := if A.mark = true then 1 else (B.ob x).col } else B.ob n : Obj)).k = _
      split
      · rename_i h; subst h; exact ⟨rfl, rfl⟩
      · exact ⟨rfl, rfl⟩
  · exact ⟨rfl, rfl⟩
theorem leads_sub {c : Sz} {st : Bool} {A : AM} : ∀ {xs : List Nat} {B : Wk} {n : Nat}, n ∈ (xs.foldl (leadA c st A) B).th ++ (xs.foldl (leadA c st A) B).fr → n ∈ B.th ++ B.fr ∨ (n ∈ xs ∧ n ∈ A.nur ++ A.hlf)
  | [], B, n, h => .inl h
  | x :: xs, B, n, h => by
    rcases leads_sub (xs := xs) h with z | z
    · rcases leadA_sub z with y | ⟨rfl, y⟩
      · exact .inl y
      · exact .inr ⟨List.mem_cons_self, y⟩
    · exact .inr ⟨List.mem_cons_of_mem _ z.1, z.2⟩
theorem leads_bk {c : Sz} {st : Bool} {A : AM} : ∀ {xs : List Nat} {B : Wk} {n : Nat}, ((xs.foldl (leadA c st A) B).ob n).b = (B.ob n).b ∧ ((xs.foldl (leadA c st A) B).ob n).k = (B.ob n).k
  | [], B, n => ⟨rfl, rfl⟩
  | x :: xs, B, n => by
    obtain ⟨h1, h2⟩ := leads_bk (c := c) (st := st) (A := A) (xs := xs) (B := leadA c st A B x) (n := n)
    obtain ⟨h3, h4⟩ := leadA_bk (c := c) (st := st) (A := A) (B := B) (x := x) (n := n)
    exact ⟨h1.trans h3, h2.trans h4⟩
theorem minB_sub {c : Sz} {A : AM} {xs : List Nat} {n : Nat} (h : n ∈ (minB c A xs).th ++ (minB c A xs).fr) : n ∈ xs ∧ n ∈ A.nur ++ A.hlf := by
  rcases leads_sub h with z | z
  · simp [wk0] at z
  · exact z
theorem minB_wd (c : Sz) (A : AM) (xs : List Nat) (n : Nat) : wd ((minB c A xs).ob n) = wd (A.ob n) := by
  unfold wd
  rw [show ((minB c A xs).ob n).b = (A.ob n).b from (leads_bk (B := wk0 A)).1]
theorem minB_snoc (c : Sz) (A : AM) (xs : List Nat) (x : Nat) : minB c A (xs ++ [x]) = leadA c false A (minB c A xs) x := by
  unfold minB
  rw [List.foldl_append]
  rfl
theorem sumW (ob : Nat → Obj) : ∀ (l : List Nat), (l.map fun n => (wd (ob n) : Int)).sum = (wsum ob l : Int)
  | [] => rfl
  | n :: r => by
    rw [List.map_cons, List.sum_cons, sumW ob r]
    show _ = ((wd (ob n) + wsum ob r : Nat) : Int)
    omega
theorem inV_nat (n : Nat) (l : List Nat) : inV (.int (n : Int)) (natI l) = decide (n ∈ l) := by
  unfold inV natI
  rw [List.any_map]
  by_cases h : n ∈ l
  · rw [decide_eq_true h, List.any_eq_true]
    exact ⟨n, h, by simp [Function.comp, eqV]⟩
  · rw [decide_eq_false h, List.any_eq_false]
    intro x hx
    simp only [Function.comp]
    intro e
    simp [eqV] at e
    have e : x = n := by omega
    exact h (e ▸ hx)
theorem flat_nat (l : List Nat) : (natI l).all flatV = true := by
  rw [List.all_eq_true]
  intro x hx
  obtain ⟨n, _, rfl⟩ := List.mem_map.mp hx
  rfl
theorem tinj {H : Hp} {g : Gh} {ob : Nat → Obj} {n m : Nat} (h1 : H (g.t n) = some (.lst (thL g ob n))) (h2 : H (g.t m) = some (.lst (thL g ob m))) (e : g.t n = g.t m) : n = m := by
  rw [e, h2] at h1
  injection h1 with h1
  injection h1 with h1
  have : (V.int (m : Int)) = .int (n : Int) := by
    have := congrArg (fun l : List V => l[3]?) h1
    simpa [thL] using this
  injection this with this
  omega
theorem leadA_there {c : Sz} {A : AM} {B : Wk} {x : Nat} (h1 : x ∈ A.nur ++ A.hlf) (h2 : x ∉ B.th ++ B.fr) (h3 : (B.ob x).age + 1 < c.2.2.2) (h4 : wsum B.ob B.th + wd (B.ob x) ≤ c.2.1) : leadA c false A B x = { B with ob := fun y => if y = x then { B.ob x with age := (B.ob x).age + 1 } else B.ob y, th := B.th ++ [x] } := by
  unfold leadA
  rw [if_pos ⟨h1, h2⟩, if_pos ⟨rfl, h3, h4⟩]
theorem leadA_else {c : Sz} {A : AM} {B : Wk} {x : Nat} (hm : A.mark = false) (h1 : x ∈ A.nur ++ A.hlf) (h2 : x ∉ B.th ++ B.fr) (h3 : ¬ ((B.ob x).age + 1 < c.2.2.2 ∧ wsum B.ob B.th + wd (B.ob x) ≤ c.2.1)) : leadA c false A B x = { B with ob := fun y => if y = x then { B.ob x with age := 0 } else B.ob y, fr := B.fr ++ [x] } := by
  unfold leadA
  rw [if_pos ⟨h1, h2⟩, if_neg (fun z => h3 z.2), hm]
  rfl
theorem leadA_none {c : Sz} {A : AM} {B : Wk} {x : Nat} (h1 : x ∉ A.nur ++ A.hlf) : leadA c false A B x = B := by
  unfold leadA
  rw [if_neg (fun z => h1 z.1)]
theorem leads_len {c : Sz} {st : Bool} {A : AM} : ∀ {xs : List Nat} {B : Wk}, (xs.foldl (leadA c st A) B).th.length + (xs.foldl (leadA c st A) B).fr.length ≤ B.th.length + B.fr.length + xs.length
  | [], B => by simp
  | x :: xs, B => by
    have h1 := leads_len (c := c) (st := st) (A := A) (xs := xs) (B := leadA c st A B x)
    have h2 : (leadA c st A B x).th.length + (leadA c st A B x).fr.length ≤ B.th.length + B.fr.length + 1 := by
      unfold leadA
      split
      · split
        · simp only [List.length_append, List.length_singleton]; omega
        · simp only [List.length_append, List.length_singleton]; omega
      · omega
    simp only [List.foldl_cons, List.length_cons]
    omega
def rLen (K : PySem.W.Frag) : List V → Hp → VK → Prop := fun xs H Q => ∃ x n, xs = [x] ∧ LenV K x H n ∧ Q (V.int (n : Nat)) H
section
variable {P : Program} {w : World} {K : PySem.W.Frag} {mg : Str → Option Value} {base : Heap} {C_Moving C_Memory C_Heap : Addr}
def spMinL (K : PySem.W.Frag) : Sp := fun vs H Q _ => ∃ (aR aSz aH l0 l1 l2 : Addr) (g : Gh) (A : AM) (c : Sz) (held : List Nat), vs = [.ref aR, .ref aSz, .ref aH] ∧ RmAt H g A aR l0 l1 l2 ∧ szT H aSz c ∧ H aH = some (.lst (refsT g held)) ∧ held.Nodup ∧ held.length ≤ 1000 ∧ (∀ n ∈ held, n ∈ A.all) ∧ A.all.Nodup ∧ wsum A.ob A.all ≤ 100000 ∧ A.mark = false ∧
  ∀ (aR' l0' l1' l2' : Addr) (H' : Hp), H aR' = none → H l0' = none → H l1' = none → H l2' = none → KeptL (held.map g.t) H H' → RmAt H' g (minA c A held) aR' l0' l1' l2' → Q (.ref aR') H'
theorem ok_minor42 {f : Addr} {fd : FuncData} (G : Gd K mg "_law_minor" s_law_minor ["_law_rooms", "_law_sizes_here", "_law_held"] f fd) (X : Lw K mg C_Moving C_Memory C_Heap) : FnOk P w K mg base CX0 1 f fd ["_law_rooms", "_law_sizes_here", "_law_held"] (spMinL K) := by

  refine G.F.ok sc_law_minor (fun vs H Q E h => ?_) (fun cdv A outer s H vs Q E hr h => ?_)
  · obtain ⟨aR, aSz, aH, l0, l1, l2, g, A, c, held, rfl, _⟩ := h; rfl
  · obtain ⟨aR, aSz, aH, l0, l1, l2, g, A, c, held, rfl, hR, hz, hH, hnd, hh1, hha, hAn, hws, hmk, q⟩ := h
    refine ⟨_, (pss_cons (ps_par (i := 3) (j := 4) (by rfl) sc_law_minor.nd rfl rfl (by decide) rfl rfl (pa_cons (pe_lst pa_nil) (pa_cons (pe_callTy call_list_of (by rfl) X.b_list (by decide +kernel) (pa_cons (pe_ix ix_list (pv 0) pe_int (fun _ _ => rfl)) pa_nil)) pa_nil)) (by rfl))
      (pss_cons (ps_setLc (i := 5) (own := [("_law_one_here", 6)]) (g := (gName 6)) (te := (tOp (rIxL K) (tVar 6) (tC (.int 3)))) (tt := tYes) rfl sc_law_minor.nd rfl rfl (sw_true rfl rfl rfl (by decide +kernel)) (pi_list (pe_op op_cat (pe_ix ix_list (pv 0) pe_int (fun _ _ => rfl)) (pe_ix ix_list (pv 0) pe_int (fun _ _ => rfl)))) (blkOk_by (own := [("_law_one_here", 6)]) (N := ["_law_rooms", "_law_sizes_here", "_law_held", "_law_there", "_law_old", "_law_young", "_law_one_here", "_law_thing"]) (sc := defScope s_law_minor) (by decide +kernel)) (fun _ _ _ _ _ => (pg_name (i := 6) sc_law_minor.nd rfl (Or.inl rfl))) (fun _ _ _ _ _ => pts_nil) (fun _ _ _ _ _ => (pe_ix ix_list (pv 6) pe_int (fun _ _ => rfl))))
      (pss_cons (ps_for PassesOwn.never rfl (pi_list (pv 2)) (pg_name (i := 6) sc_law_minor.nd rfl (Or.inl rfl))
        (pss_one (ps_if (pt_cmpR op_in_seq (pe_ix ix_list (pv 6) pe_int (fun _ _ => rfl)) (pv 5) (by rfl))
        (pss_cons (ps_asg (pe_op op_add (pe_ix ix_list (pv 6) pe_int (fun _ _ => rfl)) pe_int) (pg_sub (pv 6) pe_int set_list))
      (pss_one (ps_if (PW.pt (pw_and (pt_cmpR op_lt (pe_ix ix_list (pv 6) pe_int (fun _ _ => rfl)) (pe_ix ix_tup (pv 1) pe_int (fun _ _ => rfl)) (nomark _)) (pw_and1 (pt_cmpR op_le (pe_callB (cr_sum rfl) (by rfl) X.b_sum (by decide +kernel) (pa_cons (pe_lc (own := [("_law_thing", 7)]) (g := (gName 7)) (te := tOp (rI0 fun i j => V.int (i + j)) (tC (.int 2)) (tCB (rLen K) (tCons (tOp (rIxL K) (tVar 7) (tC (.int 2))) tNil))) (tt := tYes) rfl sc_law_minor.nd (pi_list (pe_op op_cat (pv 3) (pe_lst (pa_cons (pv 6) pa_nil)))) (blkOk_by (own := [("_law_thing", 7)]) (N := ["_law_rooms", "_law_sizes_here", "_law_held", "_law_there", "_law_old", "_law_young", "_law_one_here", "_law_thing"]) (sc := defScope s_law_minor) (by decide +kernel)) (fun _ _ _ _ _ => (pg_name (i := 7) sc_law_minor.nd rfl (Or.inl rfl))) (fun _ _ _ _ _ => pts_nil) (fun _ _ _ _ _ => (pe_op op_add pe_int (pe_callB call_len (by rfl) X.b_len PySem.boot_len (pa_cons (pe_ix ix_list (pv 7) pe_int (fun _ _ => rfl)) pa_nil))))) pa_nil)) (pe_ix ix_tup (pv 1) pe_int (fun _ _ => rfl)) (nomark _)))))
        (pss_one (ps_expr (pe_bm PySem.F.plainAttrs_list PySem.F.slot_list_append PySem.F.type_list_append mt_append (pv 3) (pa_cons (pv 6) pa_nil)))) (pss_cons (ps_asg pe_int (pg_sub (pv 6) pe_int set_list))
      (pss_one (ps_expr (pe_bm PySem.F.plainAttrs_list PySem.F.slot_list_append PySem.F.type_list_append mt_append (pv 4) (pa_cons (pv 6) pa_nil)))))))) pss_nil)))
      (pss_one (ps_ret (pe_lst (pa_cons (pe_lst pa_nil) (pa_cons (pv 3) (pa_cons (pv 4) pa_nil))))))))), ?_⟩
    have nyl : (A.nur ++ A.hlf).length + A.old.length ≤ 100000 := by
      have h1 := wsum_len A.ob A.all
      have h3 : A.all.length = (A.nur ++ A.hlf).length + A.old.length := by unfold AM.all; rw [List.length_append]
      omega
    refine ⟨Nat.zero_le _, fun aT nT => ?_⟩
    have S1 := same_new (o := .lst []) nT
    refine ⟨_, rfl, aR, _, 2, .ref l2, rfl, rfl, SqL.of (S1 _ _ hR.r), rfl, l2, _, rfl, .inl (SqL.of (S1 _ _ hR.o)), fun aO nO => ⟨_, _, rfl, ?_⟩⟩
    have hT : upd (upd H aT (.lst [])) aO (.lst (refsT g A.old)) aT = some (.lst (refsT g [])) := by rw [upd_ne (ne_of_none upd_same nO), upd_same]; rfl
    have hO : upd (upd H aT (.lst [])) aO (.lst (refsT g A.old)) aO = some (.lst (refsT g A.old)) := upd_same
    have S2 := S1.trans (same_new (o := .lst (refsT g A.old)) nO)
    have nTO : aT ≠ aO := ne_of_none upd_same nO
    have nO' := S1.free nO
    revert hT hO S2
    generalize upd (upd H aT (.lst [])) aO (.lst (refsT g A.old)) = H2
    intro hT hO S2
    have hR2 := hR.same S2
    refine ⟨_, rfl, aR, _, 0, .ref l0, rfl, rfl, SqL.of hR2.r, rfl, _, rfl, aR, _, 1, .ref l1, rfl, rfl, SqL.of hR2.r, rfl, l0, l1, _, _, rfl, rfl, hR2.n, hR2.h, ?_, fun aC nC => ⟨aC, rfl, ⟨_, SqL.of upd_same⟩, fun aY nY => ?_⟩⟩
    · unfold refsT
      rw [List.length_map, List.length_map, ← List.length_append]
      exact Nat.le_of_lt (big (by omega))
    have hC : upd H2 aC (.lst (refsT g A.nur ++ refsT g A.hlf)) aC = some (.lst (refsT g (A.nur ++ A.hlf))) := by
      rw [upd_same]
      unfold refsT
      rw [List.map_append]
    have S3 := same_new (o := .lst (refsT g A.nur ++ refsT g A.hlf)) nC
    revert hC S3 nY
    generalize upd H2 aC (.lst (refsT g A.nur ++ refsT g A.hlf)) = H3
    intro nY hC S3
    have S13 := S2.trans S3
    have nY' := S13.free nY
    refine lc_list (K := K) (xs := refsT g (A.nur ++ A.hlf)) (fun i H' => H' aY = some (.lst (natI ((A.nur ++ A.hlf).take i))) ∧ Same H3 H') ⟨upd_same, same_new nY⟩ (fun i H' _ h => SqL.of (h.2 _ _ hC)) ?_ ?_
    · rintro i x H' hj ⟨hD, S4⟩
      unfold refsT at hj
      rw [List.getElem?_map] at hj
      obtain ⟨m, hm, rfl⟩ := Option.map_eq_some_iff.mp hj
      have hml := (List.getElem?_eq_some_iff.mp hm).1
      have et : (A.nur ++ A.hlf).take (i + 1) = (A.nur ++ A.hlf).take i ++ [m] := by
        rw [List.take_succ_eq_append_getElem hml, (List.getElem?_eq_some_iff.mp hm).2]
      refine ⟨rfl, _, rfl, g.t m, _, 3, _, rfl, rfl, SqL.of (S4 _ _ (S13 _ _ (hR.th m (mem_all.mpr (.inl (List.mem_of_getElem? hm)))))), rfl, _, hD, ?_, ?_, same_at nY S4⟩
      · unfold natI
        rw [List.length_map, List.length_take]
        exact big (by omega)
      · rw [upd_same, et]
        unfold natI
        rw [List.map_append]
        rfl
    rintro H4 ⟨hY, S4⟩
    rw [show (refsT g (A.nur ++ A.hlf)).length = (A.nur ++ A.hlf).length by unfold refsT; rw [List.length_map], List.take_length] at hY
    have S14 := S13.trans S4
    have hT4 := S4 _ _ (S3 _ _ hT)
    have hO4 := S4 _ _ (S3 _ _ hO)
    have nTY : aT ≠ aY := ne_of_none (S3 _ _ hT) nY
    have nOY : aO ≠ aY := ne_of_none (S3 _ _ hO) nY
    have tfr : ∀ n ∈ A.all, g.t n ≠ aT ∧ g.t n ≠ aO ∧ g.t n ≠ aY := fun n hn => ⟨ne_of_none (hR.th n hn) nT, ne_of_none (hR.th n hn) nO', ne_of_none (hR.th n hn) nY'⟩
    have bfr : ∀ n ∈ A.all, g.b n ∉ held.map g.t := fun n hn z => by
      obtain ⟨m, hm, e⟩ := List.mem_map.mp z
      have h1 := hR.th m (hha m hm)
      rw [e, hR.bd n hn] at h1
      injection h1 with h1
      injection h1 with h1
      have := congrArg (fun l : List V => l[2]?) h1
      simp only [thL, List.getElem?_map] at this
      cases hb : (A.ob n).b[2]? with
      | none => rw [hb] at this; cases this
      | some v => rw [hb] at this; cases this
    have aHfr : aH ∉ held.map g.t := fun z => by
      obtain ⟨m, hm, e⟩ := List.mem_map.mp z
      have h1 := hR.th m (hha m hm)
      rw [e, hH] at h1
      injection h1 with h1
      injection h1 with h1
      cases held with
      | nil => cases hm
      | cons a r => cases h1
    refine ⟨_, rfl, aH, rfl, ⟨_, SqL.of (S14 _ _ hH)⟩, for_list (xs := refsT g held) (fun i σ H' => ∃ o6 o7, σ = [some (.ref aR), some (.ref aSz), some (.ref aH), some (.ref aT), some (.ref aO), some (.ref aY), o6, o7] ∧ H' aT = some (.lst (refsT g (minB c A (held.take i)).th)) ∧ H' aO = some (.lst (refsT g (A.old ++ (minB c A (held.take i)).fr))) ∧ H' aY = some (.lst (natI (A.nur ++ A.hlf))) ∧ KeptL (held.map g.t) H H' ∧ ∀ n ∈ A.all, H' (g.t n) = some (.lst (thL g (minB c A (held.take i)).ob n))) ⟨_, _, rfl, hT4, by rw [List.take_zero]; show H4 aO = some (.lst (refsT g (A.old ++ []))); rw [List.append_nil]; exact hO4, hY, KeptL.of_same S14, fun n hn => S14 _ _ (hR.th n hn)⟩ ?_ ?_ ?_⟩
    · rintro i σ H' _ ⟨_, _, _, _, _, _, k5, _⟩
      exact SqL.of (k5 _ _ aHfr hH)
    · rintro i x σ H5 hj ⟨o6, o7, rfl, hT5, hO5, hY5, k5, th5⟩
      unfold refsT at hj
      rw [List.getElem?_map] at hj
      obtain ⟨m, hm, rfl⟩ := Option.map_eq_some_iff.mp hj
      have hml := (List.getElem?_eq_some_iff.mp hm).1
      have hmh := List.mem_of_getElem? hm
      have hmA := hha m hmh
      have et : held.take (i + 1) = held.take i ++ [m] := by
        rw [List.take_succ_eq_append_getElem hml, (List.getElem?_eq_some_iff.mp hm).2]
      have eB : minB c A (held.take (i + 1)) = leadA c false A (minB c A (held.take i)) m := by rw [et, minB_snoc]
      have mnew : m ∉ held.take i := fun z => by
        have := hnd
        rw [← List.take_append_drop i held, List.drop_eq_getElem_cons hml, (List.getElem?_eq_some_iff.mp hm).2] at this
        exact (List.nodup_append.mp this).2.2 m z m List.mem_cons_self rfl
      have mB : m ∉ (minB c A (held.take i)).th ++ (minB c A (held.take i)).fr := fun z => mnew (minB_sub z).1
      generalize eBB : minB c A (held.take i) = B at *
      have Bwd : ∀ n, wd (B.ob n) = wd (A.ob n) := fun n => by rw [← eBB]; exact minB_wd c A _ n
      have Bb : ∀ n, (B.ob n).b = (A.ob n).b := fun n => by rw [← eBB]; exact (leads_bk (B := wk0 A)).1
      have Bsub : ∀ n ∈ B.th, n ∈ A.all := fun n hn => by
        rw [← eBB] at hn
        exact mem_all.mpr (.inl (minB_sub (List.mem_append_left _ hn)).2)
      have Blen : B.th.length + B.fr.length ≤ 100000 := by
        have h1 := leads_len (c := c) (st := false) (A := A) (xs := held.take i) (B := wk0 A)
        rw [← eBB]
        have h2 : (held.take i).length ≤ held.length := by rw [List.length_take]; omega
        have h3 : (wk0 A).th.length + (wk0 A).fr.length = 0 := rfl
        unfold minB
        omega
      refine ⟨_, rfl, g.t m, _, 3, _, rfl, rfl, SqL.of (th5 m hmA), rfl, _, rfl, aY, _, rfl, .inl (SqL.of hY5), rfl, flat_nat _, _, rfl, ite2 (fun he => ?_) (fun he => ?_)⟩
      · have he : m ∈ A.nur ++ A.hlf := by
          have h1 : inV (.int (m : Int)) (natI (A.nur ++ A.hlf)) = true := he
          rw [inV_nat] at h1
          exact of_decide_eq_true h1
        refine ⟨_, rfl, g.t m, _, 1, _, rfl, rfl, SqL.of (th5 m hmA), rfl, _, _, rfl, rfl, _, rfl, g.t m, _, 1, 1, rfl, rfl, th5 m hmA, rfl, ?_⟩
        obtain ⟨H6, g6⟩ : ∃ G : Hp, G = upd H5 (g.t m) (.lst ((thL g B.ob m).set 1 (.int (((B.ob m).age : Int) + 1)))) := ⟨_, rfl⟩
        refine at_nx g6 ?_
        have h6 : H6 (g.t m) = some (.lst [.int (B.ob m).k, .int (((B.ob m).age + 1 : Nat) : Int), .ref (g.b m), .int m]) := by rw [g6, upd_same]; rfl
        have hT6 : H6 aT = some (.lst (refsT g B.th)) := by rw [g6, upd_ne (tfr m hmA).1.symm]; exact hT5
        have hO6 : H6 aO = some (.lst (refsT g (A.old ++ B.fr))) := by rw [g6, upd_ne (tfr m hmA).2.1.symm]; exact hO5
        have hY6 : H6 aY = some (.lst (natI (A.nur ++ A.hlf))) := by rw [g6, upd_ne (tfr m hmA).2.2.symm]; exact hY5
        have k6 : KeptL (held.map g.t) H H6 := by rw [g6]; exact k5.trans (kept_upd (List.mem_map.mpr ⟨m, hmh, rfl⟩))
        have hz6 : szT H6 aSz c := k6 _ _ (fun z => by
          obtain ⟨n, hn, e⟩ := List.mem_map.mp z
          have h1 := hR.th n (hha n hn)
          rw [e, hz] at h1
          cases h1) hz
        have h56 : ∀ n ∈ A.all, ∃ a, H6 (g.t n) = some (.lst [.int (B.ob n).k, a, .ref (g.b n), .int n]) := fun n hn => by
          by_cases e : n = m
          · subst e
            exact ⟨_, h6⟩
          · exact ⟨_, by rw [g6, upd_ne (fun z => e (tinj (th5 n hn) (th5 m hmA) z))]; exact th5 n hn⟩
        have b6 : ∀ n ∈ A.all, H6 (g.b n) = some (.lst ((A.ob n).b.map V.int)) := fun n hn => k6 _ _ (bfr n hn) (hR.bd n hn)
        refine ⟨_, rfl, g.t m, _, 1, _, rfl, rfl, SqL.of h6, rfl, _, rfl, aSz, _, 3, _, rfl, rfl, SqT.of hz6, rfl, _, _, rfl, rfl, _, rfl, ite2 (fun h1 => ?_) (fun h1 => ?_)⟩
        · have h1 : (B.ob m).age + 1 < c.2.2.2 := by
            have := of_decide_eq_true h1
            omega
          refine ⟨_, rfl, _, rfl, by show 1 ≤ sizeLine; decide, fun L nL => ⟨aT, L, _, _, rfl, rfl, by rw [upd_ne (ne_of_none hT6 nL)]; exact hT6, upd_same, ?_, fun C nC => ⟨C, rfl, ⟨_, SqL.of upd_same⟩, fun D nD => ?_⟩⟩⟩
          · unfold refsT
            rw [List.length_map]
            exact Nat.le_of_lt (big (by show _ + 1 ≤ _; omega))
          have hC : upd (upd H6 L (.lst [.ref (g.t m)])) C (.lst (refsT g B.th ++ [.ref (g.t m)])) C = some (.lst (refsT g (B.th ++ [m]))) := by
            rw [upd_same]
            unfold refsT
            rw [List.map_append]
            rfl
          have S7 := (same_new (o := .lst [.ref (g.t m)]) nL).trans (same_new (o := .lst (refsT g B.th ++ [.ref (g.t m)])) nC)
          revert hC S7 nD
          generalize upd (upd H6 L (.lst [.ref (g.t m)])) C (.lst (refsT g B.th ++ [.ref (g.t m)])) = H7
          intro nD hC S7
          refine lc_list (K := K) (xs := refsT g (B.th ++ [m])) (fun i H' => H' D = some (.lst ((((B.th ++ [m]).take i).map fun n => (wd (B.ob n) : Int)).map V.int)) ∧ Same H7 H') ⟨upd_same, same_new nD⟩ (fun i H' _ h => SqL.of (h.2 _ _ hC)) ?_ ?_
          · rintro j x H' hj ⟨hD, S8⟩
            unfold refsT at hj
            rw [List.getElem?_map] at hj
            obtain ⟨n, hn, rfl⟩ := Option.map_eq_some_iff.mp hj
            have hnl := (List.getElem?_eq_some_iff.mp hn).1
            have et2 : (B.th ++ [m]).take (j + 1) = (B.th ++ [m]).take j ++ [n] := by
              rw [List.take_succ_eq_append_getElem hnl, (List.getElem?_eq_some_iff.mp hn).2]
            have hnA : n ∈ A.all := by
              rcases List.mem_append.mp (List.mem_of_getElem? hn) with z | z
              · exact Bsub n z
              · rw [List.mem_singleton.mp z]; exact hmA
            obtain ⟨ag, h7⟩ := h56 n hnA
            refine ⟨rfl, _, rfl, g.t n, _, 2, _, rfl, rfl, SqL.of (S8 _ _ (S7 _ _ h7)), rfl, .ref (g.b n), _, rfl, .inl ⟨_, SqL.of (S8 _ _ (S7 _ _ (b6 n hnA))), rfl⟩, _, _, rfl, rfl, _, hD, ?_, ?_, same_at nD S8⟩
            · rw [List.length_map, List.length_map, List.length_take, List.length_append]
              have : [m].length = 1 := rfl
              exact big (by omega)
            · rw [upd_same, et2, List.map_append, List.map_append]
              have : (2 : Int) + (((A.ob n).b.map V.int).length : Int) = (wd (B.ob n) : Int) := by
                rw [Bwd, List.length_map]
                unfold wd
                omega
              exact congrArg (fun v => some (HO.lst (_ ++ [V.int v]))) this
          rintro H8 ⟨hD, S8⟩
          rw [show (refsT g (B.th ++ [m])).length = (B.th ++ [m]).length by unfold refsT; rw [List.length_map], List.take_length] at hD
          have S68 := S7.trans S8
          refine ⟨D, _, rfl, SqL.of hD, _, rfl, aSz, _, 1, _, rfl, rfl, SqT.of (S68 _ _ hz6), rfl, _, _, rfl, rfl, _, rfl, ite2 (fun h2 => ?_) (fun h2 => ?_)⟩
          · have h2 : wsum B.ob B.th + wd (B.ob m) ≤ c.2.1 := by
              have := of_decide_eq_true h2
              rw [sumW, wsum_app] at this
              have e1 : wsum B.ob [m] = wd (B.ob m) := Nat.add_zero _
              omega
            have hl := leadA_there (c := c) he mB h1 h2
            have hT8 := S68 _ _ hT6
            refine ⟨_, rfl, .inl ⟨rfl, _, SqL.of hT8⟩, _, rfl, aT, _, _, rfl, rfl, hT8, ?_, ?_⟩
            · unfold refsT
              rw [List.length_map]
              exact big (by omega)
            refine ⟨_, _, rfl, ?_, ?_, ?_, ?_, ?_⟩
            · rw [eB, hl, upd_same]
              show some (HO.lst (refsT g B.th ++ [V.ref (g.t m)])) = some (HO.lst (refsT g (B.th ++ [m])))
              unfold refsT
              rw [List.map_append]
              rfl
            · rw [eB, hl, upd_ne nTO.symm]
              exact S68 _ _ hO6
            · rw [upd_ne nTY.symm]
              exact S68 _ _ hY6
            · exact kept_at (k6.trans (KeptL.of_same S68)) nT
            · intro n hn
              rw [eB, hl, upd_ne (tfr n hn).1]
              by_cases e : n = m
              · subst e
                rw [S68 _ _ h6]
                unfold thL
                simp
              · rw [S68 _ _ (show H6 (g.t n) = some (.lst (thL g B.ob n)) by rw [g6, upd_ne (fun z => e (tinj (th5 n hn) (th5 m hmA) z))]; exact th5 n hn)]
                unfold thL
                simp [e]
          · have hno : ¬ ((B.ob m).age + 1 < c.2.2.2 ∧ wsum B.ob B.th + wd (B.ob m) ≤ c.2.1) := fun z => h2 (decide_eq_true (by
              rw [sumW, wsum_app]
              have e1 : wsum B.ob [m] = wd (B.ob m) := Nat.add_zero _
              have := z.2
              omega))
            refine ⟨_, rfl, g.t m, _, 1, 1, rfl, rfl, S68 _ _ h6, rfl, ?_⟩
            have hO8 : upd H8 (g.t m) (.lst [.int (B.ob m).k, .int 0, .ref (g.b m), .int m]) aO = some (.lst (refsT g (A.old ++ B.fr))) := by rw [upd_ne (tfr m hmA).2.1.symm]; exact S68 _ _ hO6
            refine ⟨_, rfl, .inl ⟨rfl, _, SqL.of hO8⟩, _, rfl, aO, _, _, rfl, rfl, hO8, ?_, ?_⟩
            · unfold refsT
              rw [List.length_map, List.length_append]
              exact big (by omega)
            have hl := leadA_else (c := c) hmk he mB hno
            refine ⟨_, _, rfl, ?_, ?_, ?_, ?_, ?_⟩
            · rw [eB, hl, upd_ne nTO, upd_ne (tfr m hmA).1.symm]
              exact S68 _ _ hT6
            · rw [eB, hl, upd_same]
              show some (HO.lst (refsT g (A.old ++ B.fr) ++ [V.ref (g.t m)])) = some (HO.lst (refsT g (A.old ++ (B.fr ++ [m]))))
              unfold refsT
              rw [← List.append_assoc, List.map_append (l₂ := [m])]
              rfl
            · rw [upd_ne nOY.symm, upd_ne (tfr m hmA).2.2.symm]
              exact S68 _ _ hY6
            · exact kept_at ((k6.trans (KeptL.of_same S68)).trans (kept_upd (List.mem_map.mpr ⟨m, hmh, rfl⟩))) nO'
            · intro n hn
              rw [eB, hl, upd_ne (tfr n hn).2.1]
              by_cases e : n = m
              · subst e
                rw [upd_same]
                unfold thL
                simp
              · rw [upd_ne (fun z => e (tinj (th5 n hn) (th5 m hmA) z))]
                rw [S68 _ _ (show H6 (g.t n) = some (.lst (thL g B.ob n)) by rw [g6, upd_ne (fun z => e (tinj (th5 n hn) (th5 m hmA) z))]; exact th5 n hn)]
                unfold thL
                simp [e]
        · have hno : ¬ ((B.ob m).age + 1 < c.2.2.2 ∧ wsum B.ob B.th + wd (B.ob m) ≤ c.2.1) := fun z => h1 (decide_eq_true (by
            have := z.1
            omega))
          have S66 : Same H6 H6 := fun _ _ e => e
          refine iteF ?_
          refine ⟨_, rfl, g.t m, _, 1, 1, rfl, rfl, S66 _ _ h6, rfl, ?_⟩
          have hO8 : upd H6 (g.t m) (.lst [.int (B.ob m).k, .int 0, .ref (g.b m), .int m]) aO = some (.lst (refsT g (A.old ++ B.fr))) := by rw [upd_ne (tfr m hmA).2.1.symm]; exact S66 _ _ hO6
          refine ⟨_, rfl, .inl ⟨rfl, _, SqL.of hO8⟩, _, rfl, aO, _, _, rfl, rfl, hO8, ?_, ?_⟩
          · unfold refsT
            rw [List.length_map, List.length_append]
            exact big (by omega)
          have hl := leadA_else (c := c) hmk he mB hno
          refine ⟨_, _, rfl, ?_, ?_, ?_, ?_, ?_⟩
          · rw [eB, hl, upd_ne nTO, upd_ne (tfr m hmA).1.symm]
            exact S66 _ _ hT6
          · rw [eB, hl, upd_same]
            show some (HO.lst (refsT g (A.old ++ B.fr) ++ [V.ref (g.t m)])) = some (HO.lst (refsT g (A.old ++ (B.fr ++ [m]))))
            unfold refsT
            rw [← List.append_assoc, List.map_append (l₂ := [m])]
            rfl
          · rw [upd_ne nOY.symm, upd_ne (tfr m hmA).2.2.symm]
            exact S66 _ _ hY6
          · exact kept_at ((k6.trans (KeptL.of_same S66)).trans (kept_upd (List.mem_map.mpr ⟨m, hmh, rfl⟩))) nO'
          · intro n hn
            rw [eB, hl, upd_ne (tfr n hn).2.1]
            by_cases e : n = m
            · subst e
              rw [upd_same]
              unfold thL
              simp
            · rw [upd_ne (fun z => e (tinj (th5 n hn) (th5 m hmA) z))]
              rw [S66 _ _ (show H6 (g.t n) = some (.lst (thL g B.ob n)) by rw [g6, upd_ne (fun z => e (tinj (th5 n hn) (th5 m hmA) z))]; exact th5 n hn)]
              unfold thL
              simp [e]
      · have he : m ∉ A.nur ++ A.hlf := fun z => by
          have h1 : ¬ inV (.int (m : Int)) (natI (A.nur ++ A.hlf)) = true := he
          rw [inV_nat] at h1
          exact h1 (decide_eq_true z)
        have hl := leadA_none (c := c) (B := B) he
        refine ⟨_, _, rfl, ?_, ?_, hY5, k5, ?_⟩
        · rw [eB, hl]; exact hT5
        · rw [eB, hl]; exact hO5
        · intro n hn; rw [eB, hl]; exact th5 n hn
    · rintro σ H5 ⟨o6, o7, rfl, hT5, hO5, hY5, k5, th5⟩
      rw [show (refsT g held).length = held.length by unfold refsT; rw [List.length_map], List.take_length] at hT5 hO5 th5
      refine ⟨Nat.zero_le _, fun aN nN => ⟨_, rfl, _, rfl, by show 3 ≤ sizeLine; decide, fun aZ nZ => ?_⟩⟩
      have fb : ∀ a, H5 a = none → H a = none := fun a ha => by
        cases e : H a with
        | none => rfl
        | some o =>
          by_cases z : a ∈ held.map g.t
          · obtain ⟨n, hn, rfl⟩ := List.mem_map.mp z
            rw [th5 n (hha n hn)] at ha; cases ha
          · rw [k5 _ _ z e] at ha; cases ha
      have SN := same_new (o := .lst []) nN
      have SZ := SN.trans (same_new (o := .lst [.ref aN, .ref aT, .ref aO]) nZ)
      refine q aZ aN aT aO _ (fb _ (SN.free nZ)) (fb _ nN) nT nO' (k5.trans (KeptL.of_same SZ)) ⟨upd_same, ?_, SZ _ _ hT5, SZ _ _ hO5, fun n hn => ?_, fun n hn => ?_⟩
      · rw [upd_ne (ne_of_none upd_same nZ), upd_same]
        rfl
      · have hnA : n ∈ A.all := by
          rcases mem_all.mp hn with z | z
          · exact mem_all.mpr (.inl (minB_sub (List.mem_append_left _ (by simpa [minA] using z))).2)
          · rcases List.mem_append.mp z with z | z
            · exact mem_all.mpr (.inr z)
            · exact mem_all.mpr (.inl (minB_sub (List.mem_append_right _ z)).2)
        exact SZ _ _ (th5 n hnA)
      · have hnA : n ∈ A.all := by
          rcases mem_all.mp hn with z | z
          · exact mem_all.mpr (.inl (minB_sub (List.mem_append_left _ (by simpa [minA] using z))).2)
          · rcases List.mem_append.mp z with z | z
            · exact mem_all.mpr (.inr z)
            · exact mem_all.mpr (.inl (minB_sub (List.mem_append_right _ z)).2)
        have e1 : ((minA c A held).ob n).b = (A.ob n).b := (leads_bk (B := wk0 A)).1
        rw [e1]
        exact SZ _ _ (k5 _ _ (bfr n hnA) (hR.bd n hnA))
end
end PH

/-! The law's state; its picture. -/
namespace PH
open PySem PySem.Spec PyProof.Rows L2 KA KI KK PV T ET
def stK (aR aH : Addr) (which many : Int) : List (Key × V) := [((Sum.inr "rooms" : Key), .ref aR), ((Sum.inr "held" : Key), .ref aH), ((Sum.inr "which" : Key), .int which), ((Sum.inr "many" : Key), .int many)]
structure StAt (H : Hp) (g : Gh) (A : AM) (aS aR l0 l1 l2 aH : Addr) (held : List Nat) (many : Nat) : Prop where
  d : H aS = some (.dK (stK aR aH A.which many))
  rm : RmAt H g A aR l0 l1 l2
  hl : H aH = some (.lst (refsT g held))
theorem StAt.same {H H' : Hp} {g : Gh} {A : AM} {aS aR l0 l1 l2 aH : Addr} {held : List Nat} {many : Nat} (x : StAt H g A aS aR l0 l1 l2 aH held many) (s : Same H H') : StAt H' g A aS aR l0 l1 l2 aH held many := ⟨s _ _ x.d, x.rm.same s, s _ _ x.hl⟩
theorem dgR {H : Hp} {aS aR aH : Addr} {x y : Int} (h : H aS = some (.dK (stK aR aH x y))) : DGet H aS (.str "rooms") (some (.ref aR)) := DGet.k (k := Sum.inr "rooms") h
theorem dgH {H : Hp} {aS aR aH : Addr} {x y : Int} (h : H aS = some (.dK (stK aR aH x y))) : DGet H aS (.str "held") (some (.ref aH)) := DGet.k (k := Sum.inr "held") h
theorem dgW {H : Hp} {aS aR aH : Addr} {x y : Int} (h : H aS = some (.dK (stK aR aH x y))) : DGet H aS (.str "which") (some (.int x)) := DGet.k (k := Sum.inr "which") h
theorem dgM {H : Hp} {aS aR aH : Addr} {x y : Int} (h : H aS = some (.dK (stK aR aH x y))) : DGet H aS (.str "many") (some (.int y)) := DGet.k (k := Sum.inr "many") h
theorem ints_at {H : Hp} {b : Addr} {xs : List Int} (h : H b = some (.tup (xs.map V.int))) (hl : xs.length ≤ 50000) : Dv H (.ref b) (inPy xs) := .tup h (by rw [List.length_map]; exact hl) ints_dv
section
variable {P : Program} {w : World} {K : PySem.W.Frag} {mg : Str → Option Value} {base : Heap} {C_Moving C_Memory C_Heap : Addr}
def spPicL (K : PySem.W.Frag) : Sp := fun vs H Q _ => ∃ (aS aR l0 l1 l2 aH : Addr) (g : Gh) (A : AM) (held : List Nat) (many : Nat), vs = [.ref aS] ∧ StAt H g A aS aR l0 l1 l2 aH held many ∧ wsum A.ob A.all ≤ 40000 ∧
  ∀ (b : Addr) (H' : Hp), Same H H' → Dv H' (.ref b) (.tuple [inPy (roomWords A.ob A.nur), .int A.which, inPy (roomWords A.ob A.hlf), inPy (roomWords A.ob A.old), inPy [], inPy [], .bool false]) → Q (.ref b) H'
theorem ok_picL {f : Addr} {fd : FuncData} (G : Gd K mg "_law_picture" s_law_picture ["_law_state"] f fd) (X : Lw K mg C_Moving C_Memory C_Heap) : FnOk P w K mg base CX0 2 f fd ["_law_state"] (spPicL K) := by
  obtain ⟨f__law_words, d__law_words, G__law_words⟩ := X.f__law_words
  have H__law_words : FnOk P w K mg base CX0 1 f__law_words d__law_words ["_law_room"] (spWords) := ok_words G__law_words X
  refine G.F.ok sc_law_picture (fun vs H Q E h => ?_) (fun cdv A outer s H vs Q E hr h => ?_)
  · obtain ⟨aS, aR, l0, l1, l2, aH, g, A, held, many, rfl, _⟩ := h; rfl
  · obtain ⟨aS, aR, l0, l1, l2, aH, g, A, held, many, rfl, hS, hw, q⟩ := h
    refine ⟨_, (pss_cons (ps_set (i := 1) sc_law_picture.nd rfl (Or.inl rfl) (pe_dget (hu_of hr) (pv 0) pe_str (fun _ _ => rfl)))
      (pss_one (ps_ret (pe_tup (pa_cons (pe_call H__law_words hr (by rfl) G__law_words.g G__law_words.F.kp G__law_words.b .nil pass0 (pa_cons (pe_ix ix_list (pv 1) pe_int (fun _ _ => rfl)) pa_nil)) (pa_cons (pe_dget (hu_of hr) (pv 0) pe_str (fun _ _ => rfl)) (pa_cons (pe_call H__law_words hr (by rfl) G__law_words.g G__law_words.F.kp G__law_words.b .nil pass0 (pa_cons (pe_ix ix_list (pv 1) pe_int (fun _ _ => rfl)) pa_nil)) (pa_cons (pe_call H__law_words hr (by rfl) G__law_words.g G__law_words.F.kp G__law_words.b .nil pass0 (pa_cons (pe_ix ix_list (pv 1) pe_int (fun _ _ => rfl)) pa_nil)) (pa_cons (pe_tup pa_nil) (pa_cons (pe_tup pa_nil) (pa_cons pe_bl pa_nil))))))))))), ?_⟩
    have hR := hS.rm
    have wN : ∀ ns : List Nat, (∀ n ∈ ns, n ∈ A.all) → wsum A.ob ns ≤ 40000 → (∀ n ∈ ns, H (g.t n) = some (.lst (thL g A.ob n)) ∧ H (g.b n) = some (.lst ((A.ob n).b.map V.int))) ∧ wsum A.ob ns ≤ 100000 := fun ns h1 h2 => ⟨fun n hn => ⟨hR.th n (h1 n hn), hR.bd n (h1 n hn)⟩, by omega⟩
    have e1 : wsum A.ob A.all = wsum A.ob A.nur + wsum A.ob A.hlf + wsum A.ob A.old := by unfold AM.all; rw [wsum_app, wsum_app]
    obtain ⟨n1, n2⟩ := wN A.nur (fun n h => mem_all.mpr (.inl (List.mem_append_left _ h))) (by omega)
    obtain ⟨h1, h2⟩ := wN A.hlf (fun n h => mem_all.mpr (.inl (List.mem_append_right _ h))) (by omega)
    obtain ⟨o1, o2⟩ := wN A.old (fun n h => mem_all.mpr (.inr h)) (by omega)
    refine ⟨_, rfl, aS, _, rfl, dgR hS.d, ?_⟩
    refine ⟨_, rfl, aR, _, 0, .ref l0, rfl, rfl, SqL.of hR.r, rfl, l0, g, A.ob, A.nur, rfl, hR.n, n1, n2, fun b1 H1 nb1 S1 f1 => ?_⟩
    refine ⟨_, rfl, aS, _, rfl, dgW (S1 _ _ hS.d), ?_⟩
    refine ⟨_, rfl, aR, _, 1, .ref l1, rfl, rfl, SqL.of (S1 _ _ hR.r), rfl, l1, g, A.ob, A.hlf, rfl, S1 _ _ hR.h, fun n hn => ⟨S1 _ _ (h1 n hn).1, S1 _ _ (h1 n hn).2⟩, h2, fun b2 H2 nb2 S2 f2 => ?_⟩
    have S12 := S1.trans S2
    refine ⟨_, rfl, aR, _, 2, .ref l2, rfl, rfl, SqL.of (S12 _ _ hR.r), rfl, l2, g, A.ob, A.old, rfl, S12 _ _ hR.o, fun n hn => ⟨S12 _ _ (o1 n hn).1, S12 _ _ (o1 n hn).2⟩, o2, fun b3 H3 nb3 S3 f3 => ?_⟩
    refine ⟨Nat.zero_le _, fun b4 nb4 => ⟨Nat.zero_le _, fun b5 nb5 => ⟨by show 7 ≤ sizeLine; decide, fun b nb => ?_⟩⟩⟩
    have S4 := same_new (o := .tup []) nb4
    have S5 := same_new (o := .tup []) nb5
    have S6 := same_new (o := .tup [.ref b1, .int A.which, .ref b2, .ref b3, .ref b4, .ref b5, .bl false]) nb
    have S46 := (S4.trans S5).trans S6
    have S36 := S3.trans S46
    have S26 := S2.trans S36
    refine q b _ (S1.trans S26) (.tup upd_same (by show 7 ≤ 50000; decide) ?_)
    refine .cons (ints_at (S26 _ _ f1) (by rw [roomWords_len]; omega)) (.cons (.int _) (.cons (ints_at (S36 _ _ f2) (by rw [roomWords_len]; omega)) (.cons (ints_at (S46 _ _ f3) (by rw [roomWords_len]; omega)) (.cons (ints_at ((S5.trans S6) _ _ upd_same) (Nat.zero_le _)) (.cons (ints_at (S6 _ _ upd_same) (Nat.zero_le _)) (.cons (.bl _) .nil))))))
end
end PH

/-! Objects with no references; frames. -/
namespace PH
open PySem PySem.Spec PyProof.Rows L2 KA KI KK PV T ET
structure PlainA (A : AM) : Prop where
  k : ∀ n ∈ A.all, (A.ob n).k = -1 ∨ (A.ob n).k = -3
  nm : A.mark = false
  gy : A.grey = []
  co : ∀ n ∈ A.all, (A.ob n).col = 0
theorem PlainA.flag {A : AM} (P : PlainA A) (sh : List (List Bool)) {n j : Nat} (h : n ∈ A.all) : flag sh (A.ob n).k j = false := by
  unfold PH.flag
  rcases P.k n h with e | e <;> rw [e] <;> rfl
theorem PlainA.refs {A : AM} (P : PlainA A) (sh : List (List Bool)) {n : Nat} (h : n ∈ A.all) : refsOf sh (A.ob n) = [] := by
  unfold refsOf
  rw [List.filter_eq_nil_iff.mpr fun j _ => by rw [P.flag sh h]; decide]
  rfl
theorem scan_plain {c : Sz} {sh : List (List Bool)} {st : Bool} {A : AM} (P : PlainA A) : ∀ (f : Nat) (B : Wk) (i j : Nat), (∀ n ∈ B.th ++ B.fr, n ∈ A.all) → scanA c sh st A f B i j = B
  | 0, B, i, j, _ => rfl
  | f + 1, B, i, j, h => by
    have inT : i < B.th.length → B.th.getD i 0 ∈ A.all := fun hi => h _ (List.mem_append_left _ (by rw [List.getD_eq_getElem?_getD, List.getElem?_eq_getElem hi]; exact List.getElem_mem hi))
    have inF : j < B.fr.length → B.fr.getD j 0 ∈ A.all := fun hi => h _ (List.mem_append_right _ (by rw [List.getD_eq_getElem?_getD, List.getElem?_eq_getElem hi]; exact List.getElem_mem hi))
    unfold scanA
    split
    · rename_i hi
      rw [P.refs sh (inT hi)]
      exact scan_plain P f B (i + 1) j h
    · split
      · rename_i hi
        rw [P.refs sh (inF hi)]
        exact scan_plain P f B i (j + 1) h
      · rfl
theorem minA_eq {c : Sz} {sh : List (List Bool)} {A : AM} (P : PlainA A) (held : List Nat) : minorA c sh false A held = minA c A held := by
  have e : (A.old.flatMap fun n => refsOf sh (A.ob n)) = [] := by
    rw [List.flatMap_eq_nil_iff]
    exact fun n hn => P.refs sh (mem_all.mpr (.inr hn))
  have hB : ∀ n ∈ (minB c A held).th ++ (minB c A held).fr, n ∈ A.all := fun n hn => mem_all.mpr (.inl (minB_sub hn).2)
  unfold minorA
  rw [e]
  show (let B := scanA c sh false A 500000 (minB c A held) 0 0; ({ nur := [], hlf := B.th, old := A.old ++ B.fr, grey := B.grey, ob := B.ob, which := 1 - A.which, mark := A.mark } : AM)) = _
  rw [scan_plain P 500000 _ 0 0 hB]
  rfl
theorem minA_mem {c : Sz} {A : AM} {held : List Nat} {n : Nat} (h : n ∈ (minA c A held).all) : n ∈ A.all := by
  rcases mem_all.mp h with z | z
  · exact mem_all.mpr (.inl (minB_sub (List.mem_append_left _ (by simpa [minA] using z))).2)
  · rcases List.mem_append.mp z with z | z
    · exact mem_all.mpr (.inr z)
    · exact mem_all.mpr (.inl (minB_sub (List.mem_append_right _ z)).2)
theorem minA_held {c : Sz} {A : AM} : ∀ {xs : List Nat} {B : Wk} {n : Nat}, (n ∈ xs ∧ n ∈ A.nur ++ A.hlf) ∨ n ∈ B.th ++ B.fr → n ∈ (xs.foldl (leadA c false A) B).th ++ (xs.foldl (leadA c false A) B).fr
  | [], B, n, h => h.elim (fun z => nomatch z.1) id
  | x :: xs, B, n, h => by
    refine minA_held (xs := xs) (B := leadA c false A B x) ?_
    rcases h with ⟨h1, h2⟩ | h
    · rcases List.mem_cons.mp h1 with rfl | h1
      · right
        have := (leadA_mem (c := c) (st := false) (A := A) (B := B) (x := n)).2 h2
        by_cases hb : n ∈ B.th ++ B.fr
        · unfold leadA
          rw [if_neg (fun z => z.2 hb)]
          exact hb
        · unfold leadA
          rw [if_pos ⟨h2, hb⟩]
          split <;> simp
      · exact .inl ⟨h1, h2⟩
    · right
      obtain ⟨a, b, e1, e2⟩ := leadA_grow c false A B x
      rw [e1, e2]
      rcases List.mem_append.mp h with z | z
      · exact List.mem_append_left _ (List.mem_append_left _ z)
      · exact List.mem_append_right _ (List.mem_append_left _ z)
theorem minA_all {c : Sz} {A : AM} {held : List Nat} {n : Nat} (h : n ∈ held) (hn : n ∈ A.all) : n ∈ (minA c A held).all := by
  rcases mem_all.mp hn with z | z
  · have := minA_held (c := c) (A := A) (xs := held) (B := wk0 A) (.inl ⟨h, z⟩)
    rcases List.mem_append.mp this with y | y
    · exact mem_all.mpr (.inl (List.mem_append_right _ y))
    · exact mem_all.mpr (.inr (List.mem_append_right _ y))
  · exact mem_all.mpr (.inr (List.mem_append_left _ z))
theorem leadA_pl {c : Sz} {A : AM} (hm : A.mark = false) (B : Wk) (x n : Nat) : ((leadA c false A B x).ob n).col = (B.ob n).col ∧ (leadA c false A B x).grey = B.grey := by
  unfold leadA
  split
  · split
    · refine ⟨?_, rfl⟩
      show ((if n = x then { B.ob x with age := (B.ob x).age + 1 } else B.ob n : Obj)).col = _
      split
      · rename_i h; subst h; rfl
      · rfl
    · rw [hm]
      refine ⟨?_, rfl⟩
      show ((if n = x then { B.ob x with age := 0 } else B.ob n : Obj)).col = _
      split
      · rename_i h; subst h; rfl
      · rfl
  · exact ⟨rfl, rfl⟩
theorem leads_pl {c : Sz} {A : AM} (hm : A.mark = false) : ∀ (xs : List Nat) (B : Wk) (n : Nat), ((xs.foldl (leadA c false A) B).ob n).col = (B.ob n).col ∧ (xs.foldl (leadA c false A) B).grey = B.grey
  | [], B, n => ⟨rfl, rfl⟩
  | x :: xs, B, n => by
    obtain ⟨h1, h2⟩ := leads_pl hm xs (leadA c false A B x) n
    obtain ⟨h3, h4⟩ := leadA_pl (c := c) hm B x n
    exact ⟨h1.trans h3, h2.trans h4⟩
theorem PlainA.min {A : AM} (P : PlainA A) (c : Sz) (held : List Nat) : PlainA (minA c A held) :=
  ⟨fun n hn => by
    rw [show ((minA c A held).ob n).k = (A.ob n).k from (leads_bk (B := wk0 A)).2]
    exact P.k n (minA_mem hn), P.nm, (leads_pl P.nm held (wk0 A) 0).2.trans P.gy, fun n hn => ((leads_pl P.nm held (wk0 A) n).1).trans (P.co n (minA_mem hn))⟩
theorem addA_mem {A : AM} {m n y : Nat} {k : Int} : y ∈ (addA A m k n).all ↔ y ∈ A.all ∨ y = m := by
  show y ∈ (A.nur ++ [m]) ++ A.hlf ++ A.old ↔ y ∈ A.nur ++ A.hlf ++ A.old ∨ y = m
  simp only [List.mem_append, List.mem_singleton]
  constructor
  · rintro (((h | h) | h) | h) <;> simp [h]
  · rintro (((h | h) | h) | h) <;> simp [h]
theorem PlainA.add {A : AM} (P : PlainA A) {m n : Nat} {k : Int} (hm : m ∉ A.all) (hk : k = -1 ∨ k = -3) : PlainA (addA A m k n) := by
  have ne : ∀ y ∈ A.all, y ≠ m := fun y hy e => hm (e ▸ hy)
  refine ⟨fun y hy => ?_, P.nm, P.gy, fun y hy => ?_⟩
  · rcases addA_mem.mp hy with z | rfl
    · rw [show (addA A m k n).ob y = A.ob y from if_neg (ne y z)]; exact P.k y z
    · rw [show (addA A y k n).ob y = newO k n from if_pos rfl]; exact hk
  · rcases addA_mem.mp hy with z | rfl
    · rw [show (addA A m k n).ob y = A.ob y from if_neg (ne y z)]; exact P.co y z
    · rw [show (addA A y k n).ob y = newO k n from if_pos rfl]; rfl
theorem PlainA.put {A : AM} (P : PlainA A) (n j : Nat) (v : Int) : PlainA (putA A n j v) := by
  refine ⟨fun y hy => ?_, P.nm, P.gy, fun y hy => ?_⟩
  · by_cases e : y = n
    · subst e
      rw [show (putA A y j v).ob y = { A.ob y with b := (A.ob y).b.set j v } from if_pos rfl]; exact P.k y hy
    · rw [show (putA A n j v).ob y = A.ob y from if_neg e]; exact P.k y hy
  · by_cases e : y = n
    · subst e
      rw [show (putA A y j v).ob y = { A.ob y with b := (A.ob y).b.set j v } from if_pos rfl]; exact P.co y hy
    · rw [show (putA A n j v).ob y = A.ob y from if_neg e]; exact P.co y hy
theorem wsum_sub (ob : Nat → Obj) : ∀ {l m : List Nat}, l.Nodup → (∀ x ∈ l, x ∈ m) → wsum ob l ≤ wsum ob m
  | [], m, _, _ => Nat.zero_le _
  | x :: r, m, nd, h => by
    obtain ⟨n1, n2⟩ := List.nodup_cons.mp nd
    obtain ⟨a, b, rfl⟩ := List.append_of_mem (h x List.mem_cons_self)
    have p : (a ++ x :: b).Perm (x :: (a ++ b)) := List.perm_middle
    rw [wsum_perm ob p]
    show wd (ob x) + wsum ob r ≤ wd (ob x) + wsum ob (a ++ b)
    have := wsum_sub ob (m := a ++ b) n2 fun y hy => by
      have := h y (List.mem_cons_of_mem _ hy)
      rcases List.mem_cons.mp (p.mem_iff.mp this) with z | z
      · exact absurd (z ▸ hy) n1
      · exact z
    omega
theorem minA_wsum {c : Sz} {sh : List (List Bool)} {s : Ms} {A : AM} {pl : Nat → Nat} {held : List Nat} (R : Rep c sh s (minA c A held) pl) : wsum (minA c A held).ob (minA c A held).all ≤ wsum A.ob A.all := by
  have e : wsum (minA c A held).ob (minA c A held).all = wsum A.ob (minA c A held).all := wsum_congr fun n _ => minB_wd c A held n
  rw [e]
  exact wsum_sub A.ob R.nd fun x hx => minA_mem hx
/-- the rooms that a new object finds -/
def roomA (c : Sz) (A : AM) (held : List Nat) (n : Nat) : AM := if c.1 < wsum A.ob A.nur + 2 + n then minA c A held else A
theorem makeM_ok {c : Sz} {sh : List (List Bool)} {s : Ms} {A : AM} {pl : Nat → Nat} (R : Rep c sh s A pl) (P : PlainA A) {held : List Nat} {m n : Nat} {k : Int} (hh : ∀ x ∈ held, x ∈ A.all) (hm : m ∉ A.all) (hm0 : m ≠ 0) (hk : k = -1 ∨ k = -3) (hn : n ≤ 1000) (hg : 2 + n ≤ c.2.2.1) (hb : wsum A.ob A.all + 2 + n ≤ 100000) :
    ∃ s' pl', makeM c sh s k n (held.map fun x => (pl x : Int)) = some (s', pl' m, held.map fun x => (pl' x : Int)) ∧ Rep c sh s' (addA (roomA c A held n) m k n) pl' ∧ wsum (roomA c A held n).ob (roomA c A held n).all ≤ wsum A.ob A.all := by
  obtain ⟨n0, h0, h1, h2⟩ := R.ln
  have e0 := h1.len
  have hs : sizeOk sh k n := ⟨hn, fun h => by rcases hk with e | e <;> omega⟩
  have hk1 : -3 ≤ k := by rcases hk with e | e <;> omega
  have hk2 : k < sh.length := by rcases hk with e | e <;> omega
  have cz := R.cz
  obtain ⟨z1, z2, z3, z4, z5, z6, z7⟩ := cz
  have rm : roomM c s n = some (decide (n0 + (2 + n) ≤ c.1 + 1)) := by
    unfold roomM
    rw [h0]
    show some (decide (c.2.2.1 < 2 + n) || decide (n0 + (2 + n) ≤ c.1 + 1)) = _
    rw [decide_eq_false (show ¬ c.2.2.1 < 2 + n by omega), Bool.false_or]
  have up : ∀ (q : Nat → Nat) (x : Nat), ((held.map fun y => (q y : Int)) = held.map fun y => (((fun y => if y = m then x else q y) y : Nat) : Int)) := fun q x => List.map_congr_left fun y hy => by
    show (q y : Int) = ((if y = m then x else q y : Nat) : Int)
    have ne : y ≠ m := fun e => hm (by rw [← e]; exact hh y hy)
    rw [if_neg ne]
  unfold roomA makeM
  rw [rm]
  by_cases hc : c.1 < wsum A.ob A.nur + 2 + n
  · rw [if_pos hc, decide_eq_false (by omega)]
    obtain ⟨s1, pl1, a1, a2, a3⟩ := minor_ok R (hands := held) fun x hx => .inr (hh x hx)
    rw [minA_eq P] at a2 a3
    have wle := minA_wsum a2
    have hm1 : m ∉ (minA c A held).all := fun z => hm (minA_mem z)
    obtain ⟨s2, b1, b2⟩ := make_ok a2 hm1 hm0 hk1 hk2 hs hg (by show 0 + 2 + n ≤ c.1; omega) (by omega)
    refine ⟨s2, _, ?_, b2, wle⟩
    show (minorM c sh s _).bind _ = _
    rw [a1]
    show (layM c s1 k n).map _ = _
    rw [b1]
    show some (s2, 1 + wsum (minA c A held).ob (minA c A held).nur, held.map fun x => (pl1 x : Int)) = some (s2, (if m = m then 1 + wsum (minA c A held).ob (minA c A held).nur else pl1 m), _)
    rw [if_pos rfl, up pl1 (1 + wsum (minA c A held).ob (minA c A held).nur)]
  · rw [if_neg hc, decide_eq_true (by omega)]
    obtain ⟨s2, b1, b2⟩ := make_ok R hm hm0 hk1 hk2 hs hg (by omega) hb
    refine ⟨s2, _, ?_, b2, Nat.le_refl _⟩
    show (layM c s k n).map _ = _
    rw [b1]
    show some (s2, 1 + wsum A.ob A.nur, held.map fun x => (pl x : Int)) = some (s2, (if m = m then 1 + wsum A.ob A.nur else pl m), _)
    rw [if_pos rfl, up pl (1 + wsum A.ob A.nur)]
theorem Rep.laid {c : Sz} {sh : List (List Bool)} {s : Ms} {A : AM} {pl : Nat → Nat} (R : Rep c sh s A pl) : LaidAll c A pl := ⟨R.w2, R.nd, fun i hi => by
  obtain ⟨a, a1, a2, a3⟩ := R.ln
  obtain ⟨b, b1, b2, b3⟩ := R.lh
  rcases (by omega : i = 0 ∨ i = 1 ∨ i = 2) with rfl | rfl | rfl
  · exact ⟨a, a2⟩
  · exact ⟨b, b2⟩
  · exact ⟨_, R.lo⟩⟩
end PH

/-! What the law makes. -/
namespace PH
open PySem PySem.Spec PyProof.Rows L2 KA KI KK PV T ET
def adrs (g : Gh) (A : AM) (aS aR l0 l1 l2 aH : Addr) : List Addr := [aS, aR, l0, l1, l2, aH] ++ (A.all.map g.t ++ A.all.map g.b)
structure LwAt (H : Hp) (p aZ : Addr) (fn : Nat) (c : Sz) (g : Gh) (A : AM) (aS aR l0 l1 l2 aH : Addr) (held : List Nat) (many : Nat) (a : Ma) : Prop where
  st : StAt H g A aS aR l0 l1 l2 aH held many
  sz : szT H aZ c
  fd : FeedAt H p fn
  out : ∀ x ∈ adrs g A aS aR l0 l1 l2 aH, x ∉ a.own ∧ x ≠ p
  po : p ∉ a.own
  bi : ∀ n ∈ A.all, ∀ m ∈ A.all, g.b n = g.b m → n = m
  kz : ∀ Z zs, g.z = some (Z, zs) → H Z = some zs ∧ Z ∉ a.own ∧ Z ≠ p ∧ Z ∉ adrs g A aS aR l0 l1 l2 aH
theorem RmAt.kept {H H' : Hp} {g : Gh} {A : AM} {aR l0 l1 l2 : Addr} (x : RmAt H g A aR l0 l1 l2) {l : List Addr} (k : KeptL l H H') (n0 : aR ∉ l) (n1 : l0 ∉ l) (n2 : l1 ∉ l) (n3 : l2 ∉ l) (nt : ∀ n ∈ A.all, g.t n ∉ l) (nb : ∀ n ∈ A.all, g.b n ∉ l) : RmAt H' g A aR l0 l1 l2 :=
  ⟨k _ _ n0 x.r, k _ _ n1 x.n, k _ _ n2 x.h, k _ _ n3 x.o, fun n hn => k _ _ (nt n hn) (x.th n hn), fun n hn => k _ _ (nb n hn) (x.bd n hn)⟩
theorem adrs_t {g : Gh} {A : AM} {aS aR l0 l1 l2 aH : Addr} {n : Nat} (h : n ∈ A.all) : g.t n ∈ adrs g A aS aR l0 l1 l2 aH := List.mem_append_right _ (List.mem_append_left _ (List.mem_map.mpr ⟨n, h, rfl⟩))
theorem adrs_b {g : Gh} {A : AM} {aS aR l0 l1 l2 aH : Addr} {n : Nat} (h : n ∈ A.all) : g.b n ∈ adrs g A aS aR l0 l1 l2 aH := List.mem_append_right _ (List.mem_append_right _ (List.mem_map.mpr ⟨n, h, rfl⟩))
theorem StAt.kept {H H' : Hp} {g : Gh} {A : AM} {aS aR l0 l1 l2 aH : Addr} {held : List Nat} {many : Nat} (x : StAt H g A aS aR l0 l1 l2 aH held many) {l : List Addr} (k : KeptL l H H') (n : ∀ y ∈ adrs g A aS aR l0 l1 l2 aH, y ∉ l) : StAt H' g A aS aR l0 l1 l2 aH held many :=
  ⟨k _ _ (n _ (by simp [adrs])) x.d, x.rm.kept k (n _ (by simp [adrs])) (n _ (by simp [adrs])) (n _ (by simp [adrs])) (n _ (by simp [adrs])) (fun m hm => n _ (adrs_t hm)) (fun m hm => n _ (adrs_b hm)), k _ _ (n _ (by simp [adrs])) x.hl⟩
section
variable {H H' : Hp} {p aZ : Addr} {fn : Nat} {c : Sz} {g : Gh} {A : AM} {aS aR l0 l1 l2 aH : Addr} {held : List Nat} {many : Nat} {a : Ma}
theorem feed_not (fd : FeedAt H p fn) {x : Addr} {o : HO} (h : H x = some o) (n : ∀ xs : List V, o = .lst xs → False) : x ≠ p := fun e => by
  obtain ⟨i, j, k, e2, _⟩ := fd
  rw [e, e2] at h
  injection h with h
  exact n _ h.symm
theorem LwAt.same (x : LwAt H p aZ fn c g A aS aR l0 l1 l2 aH held many a) (s : Same H H') : LwAt H' p aZ fn c g A aS aR l0 l1 l2 aH held many a :=
  ⟨x.st.same s, s _ _ x.sz, feedS x.fd s, x.out, x.po, x.bi, fun Z zs e => ⟨s _ _ (x.kz Z zs e).1, (x.kz Z zs e).2⟩⟩
theorem LwAt.feed (x : LwAt H p aZ fn c g A aS aR l0 l1 l2 aH held many a) (k : KeptL [p] H H') {m : Nat} (f : FeedAt H' p m) : LwAt H' p aZ m c g A aS aR l0 l1 l2 aH held many a :=
  ⟨x.st.kept k fun y hy z => (x.out y hy).2 (List.mem_singleton.mp z), k _ _ (fun z => feed_not x.fd x.sz (fun xs e => nomatch e) (List.mem_singleton.mp z)) x.sz, f, x.out, x.po, x.bi, fun Z zs e => ⟨k _ _ (fun z => (x.kz Z zs e).2.2.1 (List.mem_singleton.mp z)) (x.kz Z zs e).1, (x.kz Z zs e).2⟩⟩
theorem StAt.ex (x : StAt H g A aS aR l0 l1 l2 aH held many) : ∀ y ∈ adrs g A aS aR l0 l1 l2 aH, ∃ o, H y = some o := fun y hy => by
  unfold adrs at hy
  rcases List.mem_append.mp hy with z | z
  · simp only [List.mem_cons, List.not_mem_nil, or_false] at z
    rcases z with rfl | rfl | rfl | rfl | rfl | rfl
    · exact ⟨_, x.d⟩
    · exact ⟨_, x.rm.r⟩
    · exact ⟨_, x.rm.n⟩
    · exact ⟨_, x.rm.h⟩
    · exact ⟨_, x.rm.o⟩
    · exact ⟨_, x.hl⟩
  · rcases List.mem_append.mp z with z | z
    · obtain ⟨n, hn, rfl⟩ := List.mem_map.mp z
      exact ⟨_, x.rm.th n hn⟩
    · obtain ⟨n, hn, rfl⟩ := List.mem_map.mp z
      exact ⟨_, x.rm.bd n hn⟩
theorem LwAt.gone {CH CM hp : Addr} {c' : Sz} {sh : List (List Bool)} {s : Ms} {a' : Ma} (x : LwAt H p aZ fn c g A aS aR l0 l1 l2 aH held many a) (hh : HpAt CH CM H hp a c' sh s) (k : GoneTo H H' a a') : LwAt H' p aZ fn c g A aS aR l0 l1 l2 aH held many a' := by
  have no : ∀ {y : Addr} {o : HO}, H y = some o → y ∉ a.own → y ∉ a'.own := fun {y o} e n z => by
    rcases k.2.2 y z with h | h
    · exact n h
    · rw [e] at h; cases h
  have fd := x.fd
  obtain ⟨i, j, l, e, r⟩ := fd
  have zo : aZ ∉ a.own := fun z => by
    obtain ⟨o, ho, h2⟩ := hh.mem.ownAt _ z
    rw [x.sz] at ho
    cases ho
    exact h2 _ rfl
  exact ⟨x.st.kept k.2.1 fun y hy => (x.out y hy).1, k.2.1 _ _ zo x.sz, ⟨i, j, l, k.2.1 _ _ x.po e, r⟩, fun y hy => by
    obtain ⟨o, ho⟩ := x.st.ex y hy
    exact ⟨no ho (x.out y hy).1, (x.out y hy).2⟩, no e x.po, x.bi, fun Z zs ez => ⟨k.2.1 _ _ (x.kz Z zs ez).2.1 (x.kz Z zs ez).1, no (x.kz Z zs ez).1 (x.kz Z zs ez).2.1, (x.kz Z zs ez).2.2⟩⟩
theorem HpAt.keptX {CH CM hp : Addr} {sh : List (List Bool)} {s : Ms} (x : HpAt CH CM H hp a c sh s) {l : List Addr} (k : KeptL l H H') (h : ∀ b ∈ l, b ∉ a.own ∧ ∃ o, H b = some o ∧ (∀ xs, o ≠ .tup xs) ∧ ∀ C d f, o ≠ .ins C d f) : HpAt CH CM H' hp a c sh s := by
  obtain ⟨dx, hd⟩ := x.at_
  refine ⟨⟨dx, k _ _ (fun z => ?_) hd⟩, x.mem.kept k (k.tups2 fun b hb => by
    obtain ⟨_, o, ho, h1, _⟩ := h b hb
    exact ⟨o, ho, h1⟩) fun b hb z => (h b z).1 hb⟩
  obtain ⟨_, o, ho, _, h2⟩ := h hp z
  rw [hd] at ho
  cases ho
  exact h2 _ _ _ rfl
theorem feed_lst (fd : FeedAt H p fn) (po : p ∉ a.own) : ∀ b ∈ [p], b ∉ a.own ∧ ∃ o, H b = some o ∧ (∀ xs, o ≠ .tup xs) ∧ ∀ C d f, o ≠ .ins C d f := fun b hb => by
  rw [List.mem_singleton] at hb
  subst hb
  obtain ⟨i, j, l, e, r⟩ := fd
  exact ⟨po, _, e, by simp, by simp⟩
end
theorem RmAt.atD {H : Hp} {g : Gh} {A : AM} {aR l0 l1 l2 aS : Addr} {o : HO} {kv : List (Key × V)} (x : RmAt H g A aR l0 l1 l2) (h : H aS = some (.dK kv)) : RmAt (upd H aS o) g A aR l0 l1 l2 := by
  have ne : ∀ {y : Addr} {xs : List V}, H y = some (.lst xs) → y ≠ aS := fun {y xs} e => ne_of e h (by intro z; cases z)
  exact ⟨by rw [upd_ne (ne x.r)]; exact x.r, by rw [upd_ne (ne x.n)]; exact x.n, by rw [upd_ne (ne x.h)]; exact x.h, by rw [upd_ne (ne x.o)]; exact x.o, fun n hn => by rw [upd_ne (ne (x.th n hn))]; exact x.th n hn, fun n hn => by rw [upd_ne (ne (x.bd n hn))]; exact x.bd n hn⟩
theorem putW {aR aH : Addr} {w m x : Int} : putK (stK aR aH w m) (Sum.inr "which" : Key) (.int x) = stK aR aH x m := rfl
theorem putM_ {aR aH : Addr} {w m x : Int} : putK (stK aR aH w m) (Sum.inr "many" : Key) (.int x) = stK aR aH w x := rfl
theorem putR_ {aR aH aR' : Addr} {w m : Int} : putK (stK aR aH w m) (Sum.inr "rooms" : Key) (.ref aR') = stK aR' aH w m := rfl
theorem putH_ {aR aH aH' : Addr} {w m : Int} : putK (stK aR aH w m) (Sum.inr "held" : Key) (.ref aH') = stK aR aH' w m := rfl
theorem stK_len {aR aH : Addr} {w m : Int} : (stK aR aH w m).length < sizeLine := by show 4 < sizeLine; decide
def gNew (g : Gh) (m : Nat) (tm bm : Addr) : Gh := ⟨fun y => if y = m then tm else g.t y, fun y => if y = m then bm else g.b y, g.z⟩
theorem refs_new {g : Gh} {m : Nat} {tm bm : Addr} {ns : List Nat} (h : m ∉ ns) : refsT (gNew g m tm bm) ns = refsT g ns := List.map_congr_left fun y hy => by
  have ne : y ≠ m := fun e => h (by rw [← e]; exact hy)
  show V.ref (if y = m then tm else g.t y) = V.ref (g.t y)
  rw [if_neg ne]
theorem made_step {CH CM hp : Addr} {H H8 : Hp} {p aZ : Addr} {fn : Nat} {c : Sz} {g : Gh} {A A1 : AM} {aS aR l0 l1 l2 aH aR2 l02 l11 l21 tm bm : Addr} {held : List Nat} {many m n : Nat} {k : Int} {a : Ma} {sh : List (List Bool)} {s : Ms}
    (L : LwAt H p aZ fn c g A aS aR l0 l1 l2 aH held many a) (hh : HpAt CH CM H hp a c sh s) (hA : ∀ y ∈ held, y ∈ A.all) (sub : ∀ y ∈ A1.all, y ∈ A.all) (hm : m ∉ A.all)
    (k8 : KeptL (aS :: held.map g.t) H H8) (dS : H8 aS = some (.dK (stK aR2 aH A1.which m))) (r8 : H8 aR2 = some (.lst [.ref l02, .ref l11, .ref l21])) (n8 : H8 l02 = some (.lst (refsT g A1.nur ++ [.ref tm]))) (h8 : H8 l11 = some (.lst (refsT g A1.hlf))) (o8 : H8 l21 = some (.lst (refsT g A1.old)))
    (th : ∀ y ∈ A1.all, H8 (g.t y) = some (.lst (thL g A1.ob y))) (bd : ∀ y ∈ A1.all, H8 (g.b y) = some (.lst ((A1.ob y).b.map V.int))) (tm8 : H8 tm = some (.lst [.int k, .int 0, .ref bm, .int m])) (bm8 : H8 bm = some (.lst ((List.replicate n (0 : Int)).map V.int)))
    (ft : H tm = none) (fb : H bm = none) (fr : ∀ x ∈ [aR2, l02, l11, l21], x ∈ [aR, l0, l1, l2] ∨ H x = none) :
    LwAt H8 p aZ fn c (gNew g m tm bm) (addA A1 m k n) aS aR2 l02 l11 l21 aH held m a ∧ HpAt CH CM H8 hp a c sh s := by
  have hm1 : m ∉ A1.all := fun z => hm (sub _ z)
  have inN : ∀ y ∈ A1.nur, y ∈ A1.all := fun y h => mem_all.mpr (.inl (List.mem_append_left _ h))
  have inH : ∀ y ∈ A1.hlf, y ∈ A1.all := fun y h => mem_all.mpr (.inl (List.mem_append_right _ h))
  have inO : ∀ y ∈ A1.old, y ∈ A1.all := fun y h => mem_all.mpr (.inr h)
  have gt : ∀ y, y ≠ m → (gNew g m tm bm).t y = g.t y := fun y e => if_neg e
  have gb : ∀ y, y ≠ m → (gNew g m tm bm).b y = g.b y := fun y e => if_neg e
  have gtm : (gNew g m tm bm).t m = tm := if_pos rfl
  have gbm : (gNew g m tm bm).b m = bm := if_pos rfl
  have ne : ∀ y ∈ A1.all, y ≠ m := fun y hy e => hm1 (by rw [← e]; exact hy)
  have nl : ∀ y ∈ aS :: held.map g.t, y ∉ a.own ∧ ∃ o, H y = some o ∧ (∀ xs, o ≠ .tup xs) ∧ ∀ C d f, o ≠ .ins C d f := fun y hy => by
    rcases List.mem_cons.mp hy with rfl | hy
    · exact ⟨(L.out _ (by simp [adrs])).1, _, L.st.d, by simp, by simp⟩
    · obtain ⟨z, hz, rfl⟩ := List.mem_map.mp hy
      exact ⟨(L.out _ (adrs_t (hA z hz))).1, _, L.st.rm.th z (hA z hz), by simp, by simp⟩
  have pn : p ∉ aS :: held.map g.t := fun z => by
    rcases List.mem_cons.mp z with e | z
    · exact (L.out aS (by simp [adrs])).2 e.symm
    · obtain ⟨y, hy, e⟩ := List.mem_map.mp z
      exact (L.out _ (adrs_t (hA y hy))).2 e
  have zn : aZ ∉ aS :: held.map g.t := fun z => by
    obtain ⟨_, o, ho, h2, _⟩ := nl _ z
    rw [L.sz] at ho
    cases ho
    exact h2 _ rfl
  have hn : aH ∉ aS :: held.map g.t := fun z => by
    rcases List.mem_cons.mp z with e | z
    · have := L.st.hl
      rw [e, L.st.d] at this
      cases this
    · obtain ⟨y, hy, e⟩ := List.mem_map.mp z
      have h1 := L.st.rm.th y (hA y hy)
      rw [e, L.st.hl] at h1
      injection h1 with h1
      injection h1 with h1
      cases held with
      | nil => cases hy
      | cons a r => cases h1
  have fd := L.fd
  have fd2 := L.fd
  obtain ⟨i1, i2, i3, e, re⟩ := fd
  -- what was free is none of a memory's
  have free : ∀ {y : Addr}, H y = none → y ∉ a.own ∧ y ≠ p := fun {y} hy => by
    refine ⟨fun z => ?_, fun z => ?_⟩
    · obtain ⟨o, ho, _⟩ := hh.mem.ownAt y z
      rw [hy] at ho
      cases ho
    · rw [z, e] at hy
      cases hy
  refine ⟨⟨⟨dS, ⟨r8, ?_, ?_, ?_, fun y hy => ?_, fun y hy => ?_⟩, ?_⟩, k8 _ _ zn L.sz, ⟨i1, i2, i3, k8 _ _ pn e, re⟩, fun y hy => ?_, L.po, fun y hy z hz ez => ?_, fun Z zs ez => ?_⟩, hh.keptX k8 nl⟩
  · rw [n8]
    show _ = some (HO.lst (refsT (gNew g m tm bm) (A1.nur ++ [m])))
    have : refsT (gNew g m tm bm) (A1.nur ++ [m]) = refsT (gNew g m tm bm) A1.nur ++ [V.ref tm] := by
      unfold refsT
      rw [List.map_append]
      show _ ++ [V.ref ((gNew g m tm bm).t m)] = _
      rw [gtm]
    rw [this, refs_new fun z => hm1 (inN _ z)]
  · rw [h8]
    show _ = some (HO.lst (refsT (gNew g m tm bm) A1.hlf))
    rw [refs_new fun z => hm1 (inH _ z)]
  · rw [o8]
    show _ = some (HO.lst (refsT (gNew g m tm bm) A1.old))
    rw [refs_new fun z => hm1 (inO _ z)]
  · rcases addA_mem.mp hy with z | rfl
    · rw [gt y (ne y z), th y z]
      unfold thL
      rw [gb y (ne y z), show (addA A1 m k n).ob y = A1.ob y from if_neg (ne y z)]
    · rw [gtm, tm8]
      unfold thL
      rw [gbm, show (addA A1 y k n).ob y = newO k n from if_pos rfl]
      rfl
  · rcases addA_mem.mp hy with z | rfl
    · rw [gb y (ne y z), bd y z, show (addA A1 m k n).ob y = A1.ob y from if_neg (ne y z)]
    · rw [gbm, bm8, show (addA A1 y k n).ob y = newO k n from if_pos rfl]
      rfl
  · rw [refs_new fun z => hm (hA _ z)]
    exact k8 _ _ hn L.st.hl
  · have old : ∀ x ∈ [aR, l0, l1, l2], x ∉ a.own ∧ x ≠ p := fun x hx => L.out x (by
      simp only [List.mem_cons, List.not_mem_nil, or_false] at hx
      rcases hx with rfl | rfl | rfl | rfl <;> simp [adrs])
    have fr' : ∀ x ∈ [aR2, l02, l11, l21], x ∉ a.own ∧ x ≠ p := fun x hx => (fr x hx).elim (old x) free
    unfold adrs at hy
    rcases List.mem_append.mp hy with z | z
    · simp only [List.mem_cons, List.not_mem_nil, or_false] at z
      rcases z with rfl | rfl | rfl | rfl | rfl | rfl
      · exact L.out _ (by simp [adrs])
      · exact fr' _ (by simp)
      · exact fr' _ (by simp)
      · exact fr' _ (by simp)
      · exact fr' _ (by simp)
      · exact L.out _ (by simp [adrs])
    · rcases List.mem_append.mp z with z | z
      · obtain ⟨x, hx, rfl⟩ := List.mem_map.mp z
        rcases addA_mem.mp hx with w | rfl
        · rw [gt x (ne x w)]; exact L.out _ (adrs_t (sub x w))
        · rw [gtm]; exact free ft
      · obtain ⟨x, hx, rfl⟩ := List.mem_map.mp z
        rcases addA_mem.mp hx with w | rfl
        · rw [gb x (ne x w)]; exact L.out _ (adrs_b (sub x w))
        · rw [gbm]; exact free fb
  · have hb : ∀ {x : Nat}, x ∈ A1.all → g.b x ≠ bm := fun {x} hx e2 => by
      have := L.st.rm.bd x (sub x hx)
      rw [e2, fb] at this
      cases this
    rcases addA_mem.mp hy with w | rfl <;> rcases addA_mem.mp hz with w' | rfl
    · rw [gb y (ne y w), gb z (ne z w')] at ez
      exact L.bi y (sub y w) z (sub z w') ez
    · rw [gb y (ne y w), gbm] at ez
      exact absurd ez (hb w)
    · rw [gb z (ne z w'), gbm] at ez
      exact absurd ez.symm (hb w')
    · rfl
  · obtain ⟨z1, z2, z3, z4⟩ := L.kz Z zs ez
    have zl : Z ∉ aS :: held.map g.t := fun y => by
      rcases List.mem_cons.mp y with e | y
      · exact z4 (by rw [e]; simp [adrs])
      · obtain ⟨x, hx, e⟩ := List.mem_map.mp y
        exact z4 (by rw [← e]; exact adrs_t (hA x hx))
    have zf : ∀ {y : Addr}, H y = none → Z ≠ y := fun {y} hy e2 => by rw [e2, hy] at z1; cases z1
    refine ⟨k8 _ _ zl z1, z2, z3, fun hy => ?_⟩
    have old : ∀ x ∈ [aR, l0, l1, l2], Z ≠ x := fun x hx e2 => z4 (by
      rw [e2]
      simp only [List.mem_cons, List.not_mem_nil, or_false] at hx
      rcases hx with rfl | rfl | rfl | rfl <;> simp [adrs])
    have fr' : ∀ x ∈ [aR2, l02, l11, l21], Z ≠ x := fun x hx => (fr x hx).elim (old x) zf
    unfold adrs at hy
    rcases List.mem_append.mp hy with w | w
    · simp only [List.mem_cons, List.not_mem_nil, or_false] at w
      rcases w with e2 | e2 | e2 | e2 | e2 | e2
      · exact z4 (by rw [e2]; simp [adrs])
      · exact fr' _ (by simp) e2
      · exact fr' _ (by simp) e2
      · exact fr' _ (by simp) e2
      · exact fr' _ (by simp) e2
      · exact z4 (by rw [e2]; simp [adrs])
    · rcases List.mem_append.mp w with w | w
      · obtain ⟨x, hx, e2⟩ := List.mem_map.mp w
        rcases addA_mem.mp hx with v | rfl
        · rw [gt x (ne x v)] at e2
          exact z4 (by rw [← e2]; exact adrs_t (sub x v))
        · rw [gtm] at e2
          exact zf ft e2.symm
      · obtain ⟨x, hx, e2⟩ := List.mem_map.mp w
        rcases addA_mem.mp hx with v | rfl
        · rw [gb x (ne x v)] at e2
          exact z4 (by rw [← e2]; exact adrs_b (sub x v))
        · rw [gbm] at e2
          exact zf fb e2.symm
theorem refs_ints {g : Gh} {ns : List Nat} {b : List Int} (h : refsT g ns = b.map V.int) : b = [] := by
  cases b with
  | nil => rfl
  | cons x r =>
    cases ns with
    | nil => cases h
    | cons n r => cases h
theorem body_step {CH CM hp : Addr} {H : Hp} {p aZ : Addr} {fn : Nat} {c : Sz} {g : Gh} {A : AM} {aS aR l0 l1 l2 aH : Addr} {held : List Nat} {many m j : Nat} {v : Int} {a : Ma} {sh : List (List Bool)} {s : Ms}
    (L : LwAt H p aZ fn c g A aS aR l0 l1 l2 aH held many a) (hh : HpAt CH CM H hp a c sh s) (hm : m ∈ A.all) (hj : j < (A.ob m).b.length) :
    LwAt (upd H (g.b m) (.lst (((A.ob m).b.set j v).map V.int))) p aZ fn c g (putA A m j v) aS aR l0 l1 l2 aH held many a ∧ HpAt CH CM (upd H (g.b m) (.lst (((A.ob m).b.set j v).map V.int))) hp a c sh s := by
  have hb := L.st.rm.bd m hm
  have k : KeptL [g.b m] H (upd H (g.b m) (.lst (((A.ob m).b.set j v).map V.int))) := kept_upd (by simp)
  have nr : ∀ {x : Addr} {ns : List Nat}, H x = some (.lst (refsT g ns)) → x ≠ g.b m := fun {x ns} e z => by
    rw [z, hb] at e
    injection e with e
    injection e with e
    rw [refs_ints e.symm] at hj
    cases hj
  have nt : ∀ y ∈ A.all, g.t y ≠ g.b m := fun y hy z => by
    have e := L.st.rm.th y hy
    rw [z, hb] at e
    injection e with e
    injection e with e
    have := congrArg (fun l : List V => l[2]?) e
    simp only [thL, List.getElem?_map] at this
    cases h2 : (A.ob m).b[2]? with
    | none => rw [h2] at this; cases this
    | some v => rw [h2] at this; cases this
  have na : aR ≠ g.b m := fun z => by
    have e := L.st.rm.r
    rw [z, hb] at e
    injection e with e
    injection e with e
    cases h2 : (A.ob m).b with
    | nil => rw [h2] at hj; cases hj
    | cons x r => rw [h2] at e; cases e
  have fdp : p ≠ g.b m := fun z => (L.out _ (adrs_b hm)).2 z.symm
  have obN : (putA A m j v).ob m = { A.ob m with b := (A.ob m).b.set j v } := if_pos rfl
  have obA : ∀ y, y ≠ m → (putA A m j v).ob y = A.ob y := fun y e => if_neg e
  refine ⟨⟨⟨by rw [upd_ne (ne_of L.st.d hb (by intro z; cases z))]; exact L.st.d, ⟨by rw [upd_ne na]; exact L.st.rm.r, by rw [upd_ne (nr L.st.rm.n)]; exact L.st.rm.n, by rw [upd_ne (nr L.st.rm.h)]; exact L.st.rm.h, by rw [upd_ne (nr L.st.rm.o)]; exact L.st.rm.o, fun y hy => ?_, fun y hy => ?_⟩, by rw [upd_ne (nr L.st.hl)]; exact L.st.hl⟩, ?_, ?_, L.out, L.po, L.bi, fun Z zs ez => ⟨k _ _ (fun y => (L.kz Z zs ez).2.2.2 (by rw [List.mem_singleton.mp y]; exact adrs_b hm)) (L.kz Z zs ez).1, (L.kz Z zs ez).2⟩⟩, hh.keptX k fun b hb2 => ?_⟩
  · rw [upd_ne (nt y hy), L.st.rm.th y hy]
    unfold thL
    by_cases e : y = m
    · subst e; rw [obN]
    · rw [obA y e]
  · by_cases e : y = m
    · subst e; rw [upd_same, obN]
    · rw [obA y e, upd_ne (fun z => e (L.bi y hy m hm z))]
      exact L.st.rm.bd y hy
  · exact k _ _ (fun z => by
      have e := L.sz
      unfold szT at e
      rw [List.mem_singleton.mp z, hb] at e
      cases e) L.sz
  · obtain ⟨i1, i2, i3, e, re⟩ := L.fd
    exact ⟨i1, i2, i3, k _ _ (fun z => fdp (List.mem_singleton.mp z)) e, re⟩
  · rw [List.mem_singleton] at hb2
    subst hb2
    exact ⟨(L.out _ (adrs_b hm)).1, _, hb, by simp, by simp⟩
theorem free_no {CH CM hp : Addr} {H : Hp} {p y : Addr} {fn : Nat} {c : Sz} {a : Ma} {sh : List (List Bool)} {s : Ms} (fd : FeedAt H p fn) (hh : HpAt CH CM H hp a c sh s) (hy : H y = none) : y ∉ a.own ∧ y ≠ p := by
  obtain ⟨i1, i2, i3, e, _⟩ := fd
  refine ⟨fun z => ?_, fun z => ?_⟩
  · obtain ⟨o, ho, _⟩ := hh.mem.ownAt y z
    rw [hy] at ho
    cases ho
  · rw [z, e] at hy
    cases hy
theorem LwAt.zf {H : Hp} {p aZ y : Addr} {fn : Nat} {c : Sz} {g : Gh} {A : AM} {aS aR l0 l1 l2 aH : Addr} {held : List Nat} {many : Nat} {a : Ma} (L : LwAt H p aZ fn c g A aS aR l0 l1 l2 aH held many a) (h : H y = none) : ∀ Z zs, g.z = some (Z, zs) → Z ≠ y := fun Z zs ez e => by
  have := (L.kz Z zs ez).1
  rw [e, h] at this
  cases this
theorem held_step {CH CM hp : Addr} {H H' : Hp} {p aZ : Addr} {fn : Nat} {c : Sz} {g : Gh} {A : AM} {aS aR l0 l1 l2 aH aH' : Addr} {held held' : List Nat} {many : Nat} {a : Ma} {sh : List (List Bool)} {s : Ms}
    (L : LwAt H p aZ fn c g A aS aR l0 l1 l2 aH held many a) (hh : HpAt CH CM H hp a c sh s) (k : KeptL [aS] H H') (dS : H' aS = some (.dK (stK aR aH' A.which many))) (hl : H' aH' = some (.lst (refsT g held'))) (no : aH' ∉ a.own ∧ aH' ≠ p) (nz : ∀ Z zs, g.z = some (Z, zs) → Z ≠ aH') :
    LwAt H' p aZ fn c g A aS aR l0 l1 l2 aH' held' many a ∧ HpAt CH CM H' hp a c sh s := by
  have ne : ∀ {y : Addr} {xs : List V}, H y = some (.lst xs) → y ∉ [aS] := fun {y xs} e z => by
    rw [List.mem_singleton.mp z, L.st.d] at e
    cases e
  obtain ⟨i1, i2, i3, e, re⟩ := L.fd
  refine ⟨⟨⟨dS, L.st.rm.kept k (ne L.st.rm.r) (ne L.st.rm.n) (ne L.st.rm.h) (ne L.st.rm.o) (fun y hy => ne (L.st.rm.th y hy)) (fun y hy => ne (L.st.rm.bd y hy)), hl⟩, k _ _ (fun z => ?_) L.sz, ⟨i1, i2, i3, k _ _ (ne e) e, re⟩, fun y hy => ?_, L.po, L.bi, fun Z zs ez => ?_⟩, hh.keptX k fun b hb => ?_⟩
  · have e := L.sz
    unfold szT at e
    rw [List.mem_singleton.mp z, L.st.d] at e
    cases e
  · unfold adrs at hy
    rcases List.mem_append.mp hy with z | z
    · simp only [List.mem_cons, List.not_mem_nil, or_false] at z
      rcases z with rfl | rfl | rfl | rfl | rfl | rfl
      · exact L.out _ (by simp [adrs])
      · exact L.out _ (by simp [adrs])
      · exact L.out _ (by simp [adrs])
      · exact L.out _ (by simp [adrs])
      · exact L.out _ (by simp [adrs])
      · exact no
    · exact L.out _ (List.mem_append_right _ z)
  · obtain ⟨z1, z2, z3, z4⟩ := L.kz Z zs ez
    refine ⟨k _ _ (fun y => z4 (by rw [List.mem_singleton.mp y]; simp [adrs])) z1, z2, z3, fun hy => ?_⟩
    unfold adrs at hy
    rcases List.mem_append.mp hy with w | w
    · simp only [List.mem_cons, List.not_mem_nil, or_false] at w
      rcases w with e2 | e2 | e2 | e2 | e2 | e2
      · exact z4 (by rw [e2]; simp [adrs])
      · exact z4 (by rw [e2]; simp [adrs])
      · exact z4 (by rw [e2]; simp [adrs])
      · exact z4 (by rw [e2]; simp [adrs])
      · exact z4 (by rw [e2]; simp [adrs])
      · exact nz Z zs ez e2
    · exact z4 (List.mem_append_right _ w)
  · rw [List.mem_singleton] at hb
    subst hb
    exact ⟨(L.out _ (by simp [adrs])).1, _, L.st.d, by simp, by simp⟩
theorem cut_to {xs : List V} {x : Nat} (h : x ≤ xs.length) : cutV xs none (some (x : Int)) = xs.take x := by
  have := cut_two (xs := xs) (f := 0) (x := x) (Nat.zero_le _) h
  rw [List.drop_zero, Nat.sub_zero] at this
  rw [← this]
  rfl
theorem roomA_sub {c : Sz} {A : AM} {held : List Nat} {n y : Nat} (h : y ∈ (roomA c A held n).all) : y ∈ A.all := by
  unfold roomA at h
  split at h
  · exact minA_mem h
  · exact h
theorem roomA_held {c : Sz} {A : AM} {held : List Nat} {n y : Nat} (h : y ∈ held) (h2 : y ∈ A.all) : y ∈ (roomA c A held n).all := by
  unfold roomA
  split
  · exact minA_all h h2
  · exact h2
theorem roomA_plain {c : Sz} {A : AM} {held : List Nat} {n : Nat} (P : PlainA A) : PlainA (roomA c A held n) := by
  unfold roomA
  split
  · exact P.min c held
  · exact P
theorem addA_wsum {A : AM} {m n : Nat} {k : Int} (h : m ∉ A.all) : wsum (addA A m k n).ob (addA A m k n).all = n + 2 + wsum A.ob A.all := by
  have p : (addA A m k n).all.Perm (m :: A.all) := by
    show ((A.nur ++ [m]) ++ A.hlf ++ A.old).Perm (m :: A.all)
    unfold AM.all
    simp only [List.append_assoc]
    exact List.perm_middle
  rw [wsum_perm _ p]
  show wd ((addA A m k n).ob m) + wsum (addA A m k n).ob A.all = _
  rw [show (addA A m k n).ob m = newO k n from if_pos rfl, show wd (newO k n) = n + 2 by show (List.replicate n 0).length + 2 = _; rw [List.length_replicate], wsum_congr (ob' := A.ob) fun y hy => by
    have ne : y ≠ m := fun e => h (by rw [← e]; exact hy)
    rw [show (addA A m k n).ob y = A.ob y from if_neg ne]]
structure LvP (c : Sz) (A : AM) (held : List Nat) (many : Nat) : Prop where
  pn : PlainA A
  hn : held.Nodup
  h30 : held.length ≤ 30
  hA : ∀ n ∈ held, n ∈ A.all
  nm : ∀ n ∈ A.all, n ≤ many
  ws : wsum A.ob A.all ≤ 21 * many
  c1 : c.1 ≤ 300
  c2 : c.2.2.1 ≤ 60
section
variable {P : Program} {w : World} {K : PySem.W.Frag} {mg : Str → Option Value} {base : Heap} {C_Moving C_Memory C_Heap : Addr}
def spMade (K : PySem.W.Frag) (CH CM : Addr) : Sp := fun vs H Q _ => ∃ (p hp aZ : Addr) (fn : Nat) (c : Sz) (sh : List (List Bool)) (s : Ms) (pl : Nat → Nat) (g : Gh) (A : AM) (aS aR l0 l1 l2 aH : Addr) (held : List Nat) (many : Nat) (a : Ma), vs = [.ref p, .ref hp, .ref aS, .ref aZ] ∧ HpAt CH CM H hp a c sh s ∧ Rep c sh s A pl ∧ LwAt H p aZ fn c g A aS aR l0 l1 l2 aH held many a ∧ LvP c A held many ∧ held.length < 30 ∧ many ≤ 1000 ∧ fn + 100 ≤ 2 ^ 60 ∧
  ∀ (s' : Ms) (pl' : Nat → Nat) (g' : Gh) (A' : AM) (aR' l0' l1' l2' aH' : Addr) (held' : List Nat) (a' : Ma) (fn' : Nat) (H' : Hp), HpAt CH CM H' hp a' c sh s' → Rep c sh s' A' pl' → LwAt H' p aZ fn' c g' A' aS aR' l0' l1' l2' aH' held' (many + 1) a' → LvP c A' held' (many + 1) → fn' ≤ fn + 100 → g'.z = g.z → Q (.bl true) H'
theorem ok_made {f : Addr} {fd : FuncData} (G : Gd K mg "_law_made" s_law_made ["_law_feed_here", "_law_heap", "_law_state", "_law_sizes_here"] f fd) (X : Lw K mg C_Moving C_Memory C_Heap) : FnOk P w K mg base CX0 10 f fd ["_law_feed_here", "_law_heap", "_law_state", "_law_sizes_here"] (spMade K C_Heap C_Memory) := by
  obtain ⟨f__law_draw, d__law_draw, G__law_draw⟩ := X.f__law_draw
  have H__law_draw : FnOk P w K mg base CX0 1 f__law_draw d__law_draw ["_law_feed_here", "_law_many"] (spDk) := ok_drw G__law_draw X
  obtain ⟨f_Heap_put, d_Heap_put, M_Heap_put⟩ := X.m_Heap_put
  have H_Heap_put : FnOk P w K mg base CX0 5 f_Heap_put d_Heap_put ["self", "address", "slot", "value"] (spHput C_Heap C_Memory) := ok_hput M_Heap_put X
  obtain ⟨f__law_same, d__law_same, G__law_same⟩ := X.f__law_same
  have H__law_same : FnOk P w K mg base CX0 4 f__law_same d__law_same ["_law_told", "_law_due"] (spSm 3) := ok_same3 G__law_same X
  obtain ⟨f__law_roots, d__law_roots, G__law_roots⟩ := X.f__law_roots
  have H__law_roots : FnOk P w K mg base CX0 2 f__law_roots d__law_roots ["_law_rooms", "_law_sizes_here", "_law_which", "_law_held"] (spRoots K) := ok_roots G__law_roots X
  obtain ⟨f__law_address, d__law_address, G__law_address⟩ := X.f__law_address
  have H__law_address : FnOk P w K mg base CX0 1 f__law_address d__law_address ["_law_rooms", "_law_sizes_here", "_law_which", "_law_one_here"] (spAddr K) := ok_addr G__law_address X
  obtain ⟨f__law_minor, d__law_minor, G__law_minor⟩ := X.f__law_minor
  have H__law_minor : FnOk P w K mg base CX0 1 f__law_minor d__law_minor ["_law_rooms", "_law_sizes_here", "_law_held"] (spMinL K) := ok_minor42 G__law_minor X
  obtain ⟨f_Heap_make, d_Heap_make, M_Heap_make⟩ := X.m_Heap_make
  have H_Heap_make : FnOk P w K mg base CX0 9 f_Heap_make d_Heap_make ["self", "kind", "slots", "roots"] (spHmk C_Heap C_Memory) := ok_hmk M_Heap_make X
  obtain ⟨f__law_one, d__law_one, G__law_one⟩ := X.f__law_one
  have H__law_one : FnOk P w K mg base CX0 2 f__law_one d__law_one ["_law_feed_here", "_law_things"] (spOl) := ok_oneL G__law_one X
  refine G.F.ok sc_law_made (fun vs H Q E h => ?_) (fun cdv A outer s H vs Q E hr h => ?_)
  · obtain ⟨p, hp, aZ, fn, c, sh, s, pl, g, A, aS, aR, l0, l1, l2, aH, held, many, a, rfl, _⟩ := h; rfl
  · obtain ⟨p, hp, aZ, fn, c, sh, s, pl, g, A, aS, aR, l0, l1, l2, aH, held, many, a, rfl, hh, R, L, V0, h30, hmany, hfn, q⟩ := h
    refine ⟨_, (pss_cons (ps_par (i := 4) (j := 5) (by rfl) sc_law_made.nd rfl rfl (by decide) rfl rfl (pa_cons (pe_dget (hu_of hr) (pv 2) pe_str (fun _ _ => rfl)) (pa_cons (pe_dget (hu_of hr) (pv 2) pe_str (fun _ _ => rfl)) pa_nil)) (by rfl))
      (pss_cons (ps_par (i := 6) (j := 7) (by rfl) sc_law_made.nd rfl rfl (by decide) rfl rfl (pa_cons (pe_call H__law_one (hr.mono (by decide)) (by rfl) G__law_one.g G__law_one.F.kp G__law_one.b .nil pass0 (pa_cons (pv 0) (pa_cons (pe_lst (pa_cons (pe_un un_neg pe_int) (pa_cons (pe_un un_neg pe_int) pa_nil))) pa_nil))) (pa_cons (pe_call H__law_draw (hr.mono (by decide)) (by rfl) G__law_draw.g G__law_draw.F.kp G__law_draw.b .nil pass0 (pa_cons (pv 0) (pa_cons (pe_callB (call_min2 rfl) (by rfl) X.b_min (by decide +kernel) (pa_cons pe_int (pa_cons (pe_op op_sub (pe_ix ix_tup (pv 3) pe_int (fun _ _ => rfl)) pe_int) pa_nil))) pa_nil))) pa_nil)) (by rfl))
      (pss_cons (ps_set (i := 8) sc_law_made.nd rfl (Or.inl rfl) (pe_meth (pv 1) X.cl_Heap M_Heap_make.m H_Heap_make hr M_Heap_make.b .nil pass0 (pa_cons (pv 6) (pa_cons (pv 7) (pa_cons (pe_call H__law_roots (hr.mono (by decide)) (by rfl) G__law_roots.g G__law_roots.F.kp G__law_roots.b .nil pass0 (pa_cons (pv 4) (pa_cons (pv 3) (pa_cons (pe_dget (hu_of hr) (pv 2) pe_str (fun _ _ => rfl)) (pa_cons (pv 5) pa_nil))))) pa_nil)))))
      (C8.pss_cut (ps_if (pt_cmpR op_gt (pe_op op_add (pe_op op_add (pe_callB (cr_sum rfl) (by rfl) X.b_sum (by decide +kernel) (pa_cons (pe_lc (own := [("_law_one_here", 9)]) (g := (gName 9)) (te := tOp (rI0 fun i j => V.int (i + j)) (tC (.int 2)) (tCB (rLen K) (tCons (tOp (rIxL K) (tVar 9) (tC (.int 2))) tNil))) (tt := tYes) rfl sc_law_made.nd (pi_list (pe_ix ix_list (pv 4) pe_int (fun _ _ => rfl))) (blkOk_by (own := [("_law_one_here", 9)]) (N := ["_law_feed_here", "_law_heap", "_law_state", "_law_sizes_here", "_law_rooms", "_law_held", "_law_kind", "_law_many", "_law_told", "_law_one_here", "_law_address_here", "_law_body", "_law_slot", "_law_at"]) (sc := defScope s_law_made) (by decide +kernel)) (fun _ _ _ _ _ => (pg_name (i := 9) sc_law_made.nd rfl (Or.inl rfl))) (fun _ _ _ _ _ => pts_nil) (fun _ _ _ _ _ => (pe_op op_add pe_int (pe_callB call_len (by rfl) X.b_len PySem.boot_len (pa_cons (pe_ix ix_list (pv 9) pe_int (fun _ _ => rfl)) pa_nil))))) pa_nil)) pe_int) (pv 7)) (pe_ix ix_tup (pv 3) pe_int (fun _ _ => rfl)) (nomark _))
        (pss_cons (ps_set (i := 4) sc_law_made.nd rfl (Or.inl rfl) (pe_call H__law_minor (hr.mono (by decide)) (by rfl) G__law_minor.g G__law_minor.F.kp G__law_minor.b .nil pass0 (pa_cons (pv 4) (pa_cons (pv 3) (pa_cons (pv 5) pa_nil)))))
      (pss_one (ps_dput (hu_of hr) (pv 2) pe_str (pe_op op_sub pe_int (pe_dget (hu_of hr) (pv 2) pe_str (fun _ _ => rfl))) rfl))) pss_nil)
      (pss_cons (ps_dput (hu_of hr) (pv 2) pe_str (pe_op op_add (pe_dget (hu_of hr) (pv 2) pe_str (fun _ _ => rfl)) pe_int) rfl)
      (pss_cons (ps_set (i := 9) sc_law_made.nd rfl (Or.inl rfl) (pe_lst (pa_cons (pv 6) (pa_cons pe_int (pa_cons (pe_op op_rep (pe_lst (pa_cons pe_int pa_nil)) (pv 7)) (pa_cons (pe_dget (hu_of hr) (pv 2) pe_str (fun _ _ => rfl)) pa_nil))))))
      (pss_cons (ps_dput (hu_of hr) (pv 2) pe_str (pe_lst (pa_cons (pe_op op_cat (pe_ix ix_list (pv 4) pe_int (fun _ _ => rfl)) (pe_lst (pa_cons (pv 9) pa_nil))) (pa_cons (pe_ix ix_list (pv 4) pe_int (fun _ _ => rfl)) (pa_cons (pe_ix ix_list (pv 4) pe_int (fun _ _ => rfl)) pa_nil)))) rfl)
      (pss_cons (ps_set (i := 10) sc_law_made.nd rfl (Or.inl rfl) (pe_ix ix_tup (pe_call H__law_address (hr.mono (by decide)) (by rfl) G__law_address.g G__law_address.F.kp G__law_address.b .nil pass0 (pa_cons (pe_dget (hu_of hr) (pv 2) pe_str (fun _ _ => rfl)) (pa_cons (pv 3) (pa_cons (pe_dget (hu_of hr) (pv 2) pe_str (fun _ _ => rfl)) (pa_cons (pv 9) pa_nil))))) pe_int (fun _ _ => rfl)))
      (pss_cons (ps_if (pt_not (pt_val (pe_call H__law_same (hr.mono (by decide)) (by rfl) G__law_same.g G__law_same.F.kp G__law_same.b .nil pass0 (pa_cons (pv 8) (pa_cons (pe_tup (pa_cons (pv 10) (pa_cons (pe_call H__law_roots (hr.mono (by decide)) (by rfl) G__law_roots.g G__law_roots.F.kp G__law_roots.b .nil pass0 (pa_cons (pe_dget (hu_of hr) (pv 2) pe_str (fun _ _ => rfl)) (pa_cons (pv 3) (pa_cons (pe_dget (hu_of hr) (pv 2) pe_str (fun _ _ => rfl)) (pa_cons (pv 5) pa_nil))))) pa_nil))) pa_nil)))))
        (pss_one (ps_ret pe_bl)) pss_nil)
      (pss_cons (ps_set (i := 11) sc_law_made.nd rfl (Or.inl rfl) (pe_ix ix_list (pv 9) pe_int (fun _ _ => rfl)))
      (pss_cons (ps_for PassesOwn.never rfl (pi_list (pe_lst (pa_cons pe_int (pa_cons (pe_op op_sub (pv 7) pe_int) pa_nil)))) (pg_name (i := 12) sc_law_made.nd rfl (Or.inl rfl))
        (pss_one (ps_if (pt_chain op_le op_lt pe_int (pv 12) (pv 7))
        (pss_cons (ps_asg (pe_op op_sub (pe_call H__law_draw (hr.mono (by decide)) (by rfl) G__law_draw.g G__law_draw.F.kp G__law_draw.b .nil pass0 (pa_cons (pv 0) (pa_cons pe_int pa_nil))) pe_int) (pg_sub (pv 11) (pv 12) set_list))
      (pss_one (ps_if (pt_cmpR op_notN (pe_meth (pv 1) X.cl_Heap M_Heap_put.m H_Heap_put (hr.mono (by decide)) M_Heap_put.b .nil pass0 (pa_cons (pv 10) (pa_cons (pv 12) (pa_cons (pe_ix ix_list (pv 11) (pv 12) (fun _ _ => rfl)) pa_nil)))) pe_non (nomark _))
        (pss_one (ps_ret pe_bl)) pss_nil))) pss_nil)))
      (pss_cons (ps_set (i := 13) sc_law_made.nd rfl (Or.inl rfl) (pe_call H__law_draw (hr.mono (by decide)) (by rfl) G__law_draw.g G__law_draw.F.kp G__law_draw.b .nil pass0 (pa_cons (pv 0) (pa_cons (pe_op op_add (pe_callB call_len (by rfl) X.b_len PySem.boot_len (pa_cons (pv 5) pa_nil)) pe_int) pa_nil))))
      (pss_cons (ps_dput (hu_of hr) (pv 2) pe_str (pe_op op_cat (pe_op op_cat (pe_slice sl_list (pv 5) po_none (po_some (pv 13))) (pe_lst (pa_cons (pv 9) pa_nil))) (pe_slice sl_list (pv 5) (po_some (pv 13)) po_none)) rfl)
      (pss_one (ps_ret pe_bl))))))))))))))), ?_⟩
    obtain ⟨pn, hnd, h30', hA, hnm, hws, hc1, hc2⟩ := V0
    obtain ⟨z1, z2, z3, z4, z5, z6, z7⟩ := R.cz
    refine ⟨_, rfl, aS, _, rfl, dgR L.st.d, _, rfl, aS, _, rfl, dgH L.st.d, _, _, rfl, ?_⟩
    refine ⟨_, rfl, _, rfl, _, rfl, by show 2 ≤ sizeLine; decide, fun Lk nLk => ?_⟩
    refine one_new (E := E0) L.fd (by omega) (by simp) (by simp) (fun x H1 hx k1 F1 => ?_) Lk nLk
    have hk : ∃ k : Int, x = .int k ∧ (k = -1 ∨ k = -3) := by
      simp only [List.mem_cons, List.not_mem_nil, or_false] at hx
      rcases hx with rfl | rfl
      · exact ⟨-1, rfl, .inl rfl⟩
      · exact ⟨-3, rfl, .inr rfl⟩
    obtain ⟨k, rfl, hk⟩ := hk
    have L1 := L.feed k1 F1
    have hh1 := hh.keptX k1 (feed_lst L.fd L.po)
    refine ⟨_, rfl, _, rfl, aZ, _, 2, _, rfl, rfl, SqT.of L1.sz, rfl, _, _, rfl, rfl, _, _, rfl, p, if (c.2.2.1 : Int) - 1 < 20 then (c.2.2.1 : Int) - 1 else 20, fn + 1, rfl, F1, by omega, ?_, ?_, fun n0 H2 n1 n2 k2 F2 => ⟨_, _, rfl, ?_⟩⟩
    · split <;> omega
    · split <;> omega
    obtain ⟨n, rfl⟩ := Int.eq_ofNat_of_zero_le n1
    have hn19 : n ≤ 19 ∧ 2 + n ≤ c.2.2.1 := by
      have := n2
      split at this <;> omega
    clear n2
    have L2 := L1.feed k2 F2
    have hh2 := hh1.keptX k2 (feed_lst L1.fd L1.po)
    have k02 := k1.trans k2
    obtain ⟨dx, hd2⟩ := hh2.at_
    refine ⟨_, rfl, hp, dx, HpF a, rfl, hd2, hpF_no (by decide), _, rfl, _, rfl, _, rfl, _, rfl, _, rfl, aS, _, rfl, dgW L2.st.d, _, rfl, ?_⟩
    refine ⟨aR, aZ, aH, l0, l1, l2, g, A, c, held, pl, rfl, L2.st.rm, L2.sz, L2.st.hl, by omega, hA, R.laid, fun r H3 nr S3 hr => ?_⟩
    have L3 := L2.same S3
    have hh3 := hh2.same S3
    have m0 : many + 1 ∉ A.all := fun z => by have := hnm _ z; omega
    obtain ⟨s', pl', e1, R', wle⟩ := makeM_ok R pn (m := many + 1) (n := n) (k := k) hA m0 (by omega) hk (by omega) hn19.2 (by omega)
    refine ⟨hp, r, k, n, _, _, _, a, c, sh, s, s', rfl, hh3, hr, by rw [List.length_map]; omega, R.roots fun x hx => .inr (hA x hx), by rcases hk with e | e <;> omega, by rcases hk with e | e <;> omega, ⟨by omega, fun h => by rcases hk with e | e <;> omega⟩, e1, fun a' b r' H4 hh4 G4 hr' hb => ?_⟩
    have L4 := L3.gone hh3 G4
    have nm1 : ∀ n ∈ A.all, n ≤ many := hnm
    refine ⟨fun σ' H' => ∃ aR1 l01 l11 l21 o9, σ' = [some (.ref p), some (.ref hp), some (.ref aS), some (.ref aZ), some (.ref aR1), some (.ref aH), some (.int k), some (.int n), some (.ref b), o9, none, none, none, none] ∧ KeptL (aS :: held.map g.t) H4 H' ∧ RmAt H' g (roomA c A held n) aR1 l01 l11 l21 ∧ H' aS = some (.dK (stK aR aH (roomA c A held n).which many)) ∧ (∀ x ∈ [aR1, l01, l11, l21], x ∈ [aR, l0, l1, l2] ∨ H4 x = none), ?_, ?_⟩
    · refine ⟨_, rfl, aR, _, 0, _, rfl, rfl, SqL.of L4.st.rm.r, rfl, l0, rfl, ⟨_, SqL.of L4.st.rm.n⟩, fun D nD => ?_⟩
      have wN := wsum_len A.ob A.nur
      have wA : wsum A.ob A.all = wsum A.ob A.nur + wsum A.ob A.hlf + wsum A.ob A.old := by unfold AM.all; rw [wsum_app, wsum_app]
      refine lc_list (K := K) (xs := refsT g A.nur) (fun i H' => H' D = some (.lst (((A.nur.take i).map fun n => (wd (A.ob n) : Int)).map V.int)) ∧ Same H4 H') ⟨upd_same, same_new nD⟩ (fun i H' _ h => SqL.of (h.2 _ _ L4.st.rm.n)) ?_ ?_
      · rintro j x H' hj ⟨hD, S8⟩
        unfold refsT at hj
        rw [List.getElem?_map] at hj
        obtain ⟨y, hy, rfl⟩ := Option.map_eq_some_iff.mp hj
        have hyl := (List.getElem?_eq_some_iff.mp hy).1
        have et2 : A.nur.take (j + 1) = A.nur.take j ++ [y] := by
          rw [List.take_succ_eq_append_getElem hyl, (List.getElem?_eq_some_iff.mp hy).2]
        have hyA : y ∈ A.all := mem_all.mpr (.inl (List.mem_append_left _ (List.mem_of_getElem? hy)))
        refine ⟨rfl, _, rfl, g.t y, _, 2, _, rfl, rfl, SqL.of (S8 _ _ (L4.st.rm.th y hyA)), rfl, .ref (g.b y), _, rfl, .inl ⟨_, SqL.of (S8 _ _ (L4.st.rm.bd y hyA)), rfl⟩, _, _, rfl, rfl, _, hD, ?_, ?_, same_at nD S8⟩
        · rw [List.length_map, List.length_map, List.length_take]
          exact big (by omega)
        · rw [upd_same, et2, List.map_append, List.map_append]
          have : (2 : Int) + (((A.ob y).b.map V.int).length : Int) = (wd (A.ob y) : Int) := by
            rw [List.length_map]
            unfold wd
            omega
          exact congrArg (fun v => some (HO.lst (_ ++ [V.int v]))) this
      rintro H5 ⟨hD, S5⟩
      rw [show (refsT g A.nur).length = A.nur.length by unfold refsT; rw [List.length_map], List.take_length] at hD
      have L5 := L4.same S5
      refine ⟨D, _, rfl, SqL.of hD, _, _, rfl, rfl, _, rfl, _, _, rfl, rfl, _, rfl, aZ, _, 0, _, rfl, rfl, SqT.of L5.sz, rfl, _, _, rfl, rfl, _, rfl, ite2 (fun hc => ?_) (fun hc => ?_)⟩
      · have hc : c.1 < wsum A.ob A.nur + 2 + n := by
          have := of_decide_eq_true hc
          rw [sumW] at this
          omega
        have eA : roomA c A held n = minA c A held := if_pos hc
        refine ⟨_, rfl, _, rfl, _, rfl, aR, aZ, aH, l0, l1, l2, g, A, c, held, rfl, L5.st.rm, L5.sz, L5.st.hl, hnd, by omega, hA, R.nd, by omega, pn.nm, fun aR1 l01 l11 l21 H6 f0 f1 f2 f3 k6 R6 => ?_⟩
        have aSn : aS ∉ held.map g.t := fun z => by
          obtain ⟨m, hm, e⟩ := List.mem_map.mp z
          have := L5.st.rm.th m (hA m hm)
          rw [e, L5.st.d] at this
          cases this
        have hS6 := k6 _ _ aSn L5.st.d
        refine ⟨_, rfl, aS, _, rfl, dgW hS6, _, _, rfl, rfl, _, rfl, aS, _, rfl, DPut.k (k := Sum.inr "which") hS6 stK_len, ?_⟩
        have w2 := R.w2
        refine ⟨aR1, l01, l11, l21, _, rfl, ?_, ?_, ?_, ?_⟩
        · exact ((KeptL.of_same S5).trans (k6.mono fun b hb => List.mem_cons_of_mem _ hb)).trans (kept_upd List.mem_cons_self)
        · rw [eA]
          exact R6.atD hS6
        · rw [upd_same, eA]
          have : (1 : Int) - (A.which : Int) = (((minA c A held).which : Nat) : Int) := by
            show _ = ((1 - A.which : Nat) : Int)
            omega
          show some (HO.dK (putK (stK aR aH A.which many) (Sum.inr "which" : Key) (.int (1 - (A.which : Int))))) = _
          rw [putW, this]
        · intro x hx
          simp only [List.mem_cons, List.not_mem_nil, or_false] at hx
          rcases hx with rfl | rfl | rfl | rfl
          · exact .inr (S5.free f0)
          · exact .inr (S5.free f1)
          · exact .inr (S5.free f2)
          · exact .inr (S5.free f3)
      · have hc : ¬ c.1 < wsum A.ob A.nur + 2 + n := fun z => hc (decide_eq_true (by
          rw [sumW]
          omega))
        have eA : roomA c A held n = A := if_neg hc
        exact ⟨aR, l0, l1, l2, _, rfl, KeptL.of_same S5, by rw [eA]; exact L5.st.rm, by rw [eA]; exact L5.st.d, fun x hx => .inl hx⟩
    · rintro _ H5 ⟨aR1, l01, l11, l21, o9, rfl, k5, hR5, hS5, fr5⟩
      refine ⟨_, rfl, aS, _, rfl, dgM hS5, _, _, rfl, rfl, _, rfl, aS, _, rfl, DPut.k (k := Sum.inr "many") hS5 stK_len, ?_⟩
      obtain ⟨H6, g6⟩ : ∃ G : Hp, G = upd H5 aS (.dK (putK (stK aR aH (roomA c A held n).which many) (Sum.inr "many" : Key) (.int ((many : Int) + 1)))) := ⟨_, rfl⟩
      refine at_nx g6 ?_
      have hS6 : H6 aS = some (.dK (stK aR aH (roomA c A held n).which ((many + 1 : Nat) : Int))) := by rw [g6, upd_same]; rfl
      have hR6 : RmAt H6 g (roomA c A held n) aR1 l01 l11 l21 := by rw [g6]; exact hR5.atD hS5
      have k6 : KeptL (aS :: held.map g.t) H4 H6 := by rw [g6]; exact k5.trans (kept_upd List.mem_cons_self)
      clear g6
      refine ⟨_, rfl, by show 1 ≤ sizeLine; decide, fun Lz nLz => ⟨_, rfl, Lz, n, _, rfl, rfl, upd_same, by omega, by omega, ?_, fun bm nbm => ?_⟩⟩
      · show 1 * ((n : Nat) : Int).toNat ≤ sizeLine
        rw [Int.toNat_natCast, Nat.one_mul]
        exact Nat.le_of_lt (big (by omega))
      have hB0 : (List.replicate (((n : Nat) : Int).toNat) [V.int 0]).flatten = (List.replicate n (0 : Int)).map V.int := by
        rw [Int.toNat_natCast, List.map_replicate, List.flatten_replicate_singleton]
      obtain ⟨H7, g7⟩ : ∃ G : Hp, G = upd (upd H6 Lz (.lst [.int 0])) bm (.lst (List.replicate (((n : Nat) : Int).toNat) [V.int 0]).flatten) := ⟨_, rfl⟩
      have S7 : Same H6 H7 := by rw [g7]; exact (same_new nLz).trans (same_new nbm)
      have hB7 : H7 bm = some (.lst ((List.replicate n (0 : Int)).map V.int)) := by rw [g7, upd_same, hB0]
      have fb6 : H6 bm = none := (same_new nLz).free nbm
      refine ⟨_, rfl, aS, _, rfl, dgM (by rw [← g7]; exact S7 _ _ hS6), by show 4 ≤ sizeLine; decide, fun tm ntm => ?_⟩
      obtain ⟨H8, g8⟩ : ∃ G : Hp, G = upd (upd (upd H6 Lz (.lst [.int 0])) bm (.lst (List.replicate (((n : Nat) : Int).toNat) [V.int 0]).flatten)) tm (.lst [.int k, .int 0, .ref bm, .int ((many + 1 : Nat) : Int)]) := ⟨_, rfl⟩
      refine at_nx g8 ?_
      have S8 : Same H7 H8 := by rw [g8, ← g7]; exact same_new (by rw [g7]; exact ntm)
      have hT8 : H8 tm = some (.lst [.int k, .int 0, .ref bm, .int ((many + 1 : Nat) : Int)]) := by rw [g8, upd_same]
      have ft7 : H7 tm = none := by rw [g7]; exact ntm
      clear g8
      have S68 := S7.trans S8
      have hR8 := hR6.same S68
      refine ⟨_, rfl, aR1, _, 0, .ref l01, rfl, rfl, SqL.of hR8.r, rfl, _, rfl, by show 1 ≤ sizeLine; decide, fun L1 nL1 => ?_⟩
      have S9 := same_new (o := .lst [.ref tm]) nL1
      refine ⟨l01, L1, _, _, rfl, rfl, S9 _ _ hR8.n, upd_same, ?_, fun l02 nl02 => ?_⟩
      · have h1 := wsum_len (roomA c A held n).ob (roomA c A held n).nur
        have h2 : wsum (roomA c A held n).ob (roomA c A held n).all = wsum (roomA c A held n).ob (roomA c A held n).nur + wsum (roomA c A held n).ob (roomA c A held n).hlf + wsum (roomA c A held n).ob (roomA c A held n).old := by unfold AM.all; rw [wsum_app, wsum_app]
        unfold refsT
        rw [List.length_map]
        exact Nat.le_of_lt (big (by show _ + 1 ≤ _; omega))
      have S10 := S9.trans (same_new (o := .lst (refsT g (roomA c A held n).nur ++ [V.ref tm])) nl02)
      refine ⟨_, rfl, aR1, _, 1, .ref l11, rfl, rfl, SqL.of (S10 _ _ hR8.r), rfl, _, rfl, aR1, _, 2, .ref l21, rfl, rfl, SqL.of (S10 _ _ hR8.r), rfl, by show 3 ≤ sizeLine; decide, fun aR2 naR2 => ?_⟩
      have S11 := S10.trans (same_new (o := .lst [.ref l02, .ref l11, .ref l21]) naR2)
      have hS11 := S11 _ _ (S68 _ _ hS6)
      have hl02 := same_new (o := .lst [.ref l02, .ref l11, .ref l21]) naR2 l02 _ upd_same
      refine ⟨_, rfl, aS, _, rfl, DPut.k (k := Sum.inr "rooms") hS11 stK_len, ?_⟩
      obtain ⟨H11, g11⟩ : ∃ G : Hp, G = upd (upd (upd H8 L1 (.lst [.ref tm])) l02 (.lst (refsT g (roomA c A held n).nur ++ [V.ref tm]))) aR2 (.lst [.ref l02, .ref l11, .ref l21]) := ⟨_, rfl⟩
      rw [← g11] at S11 hS11 hl02
      have hR11 := hR8.same S11
      have hT11 := S11 _ _ hT8
      have hB11 := S11 _ _ (S8 _ _ hB7)
      have hA11 : H11 aR2 = some (.lst [.ref l02, .ref l11, .ref l21]) := by rw [g11, upd_same]
      obtain ⟨H12, g12⟩ : ∃ G : Hp, G = upd H11 aS (.dK (putK (stK aR aH (roomA c A held n).which ((many + 1 : Nat) : Int)) (Sum.inr "rooms" : Key) (.ref aR2))) := ⟨_, rfl⟩
      refine at_nx (B := H12) (by rw [g12, g11]) ?_
      have nl : ∀ {y : Addr} {xs : List V}, H11 y = some (.lst xs) → H12 y = some (.lst xs) := fun {y xs} e => by
        rw [g12, upd_ne (ne_of e hS11 (by intro z; cases z))]
        exact e
      have S611 := S68.trans S11
      have K12 : KeptL (aS :: held.map g.t) H4 H12 := by rw [g12]; exact (k6.trans (KeptL.of_same S611)).trans (kept_upd List.mem_cons_self)
      have fr64 : ∀ x, H6 x = none → H4 x = none := fun x hx => by
        cases e : H4 x with
        | none => rfl
        | some o =>
          by_cases z : x ∈ aS :: held.map g.t
          · rcases List.mem_cons.mp z with rfl | z
            · rw [hS6] at hx; cases hx
            · obtain ⟨y, hy, rfl⟩ := List.mem_map.mp z
              rw [hR6.th y (roomA_held hy (hA y hy))] at hx
              cases hx
          · rw [k6 _ _ z e] at hx; cases hx
      obtain ⟨L12, hh12⟩ := made_step (n := n) (k := k) (m := many + 1) L4 hh4 hA (fun y hy => roomA_sub hy) m0 K12 (by rw [g12, upd_same]; rfl) (nl hA11) (nl hl02) (nl hR11.h) (nl hR11.o) (fun y hy => nl (hR11.th y hy)) (fun y hy => nl (hR11.bd y hy)) (nl hT11) (nl hB11) (fr64 _ (S7.free ft7)) (fr64 _ fb6) (fun x hx => by
        simp only [List.mem_cons, List.not_mem_nil, or_false] at hx
        rcases hx with rfl | rfl | rfl | rfl
        · exact .inr (fr64 _ ((S68.trans S10).free naR2))
        · exact .inr (fr64 _ ((S68.trans S9).free nl02))
        · exact fr5 _ (by simp)
        · exact fr5 _ (by simp))
      have T12 : TupSame H4 H12 := K12.tups2 fun y hy => by
        rcases List.mem_cons.mp hy with rfl | hy
        · exact ⟨_, L4.st.d, by simp⟩
        · obtain ⟨z, hz, rfl⟩ := List.mem_map.mp hy
          exact ⟨_, L4.st.rm.th z (hA z hz), by simp⟩
      clear g12 g11 hR11 hT11 hB11 hA11 nl S611 hl02 hS11 S11 S10 S9 hR8 S68 hS6 hR6 k6 hB7 S7 S8 hT8 k5 hR5 hS5
      have mA : many + 1 ∈ (addA (roomA c A held n) (many + 1) k n).all := addA_mem.mpr (.inr rfl)
      have hAA : ∀ y ∈ held, y ∈ (addA (roomA c A held n) (many + 1) k n).all := fun y hy => addA_mem.mpr (.inl (roomA_held hy (hA y hy)))
      have gtm : (gNew g (many + 1) tm bm).t (many + 1) = tm := if_pos rfl
      have gbm : (gNew g (many + 1) tm bm).b (many + 1) = bm := if_pos rfl
      refine ⟨_, rfl, aS, _, rfl, dgR L12.st.d, _, rfl, _, rfl, aS, _, rfl, dgW L12.st.d, _, rfl, aR2, aZ, l02, l11, l21, gNew g (many + 1) tm bm, addA (roomA c A held n) (many + 1) k n, c, many + 1, pl', by rw [gtm]; rfl, L12.st.rm, L12.sz, mA, R'.laid, fun bA HA nbA SA hbA => ⟨bA, _, 0, _, rfl, rfl, SqT.of hbA, rfl, ?_⟩⟩
      have LA := L12.same SA
      refine ⟨_, rfl, _, rfl, _, rfl, aS, _, rfl, dgR LA.st.d, _, rfl, _, rfl, aS, _, rfl, dgW LA.st.d, _, rfl, aR2, aZ, aH, l02, l11, l21, gNew g (many + 1) tm bm, addA (roomA c A held n) (many + 1) k n, c, held, pl', rfl, LA.st.rm, LA.sz, LA.st.hl, by omega, hAA, R'.laid, fun rb HB nrb SB hrb => ⟨by show 2 ≤ sizeLine; decide, fun tb ntb => ?_⟩⟩
      have SC := same_new (o := .tup [.int (pl' (many + 1) : Nat), .ref rb]) ntb
      have tt := T12.trans (TupSame.of ((SA.trans SB).trans SC))
      have il : (held.map fun x => (pl' x : Int)).length ≤ 50000 := by rw [List.length_map]; omega
      have dr : Dv H4 (.ref r') (inPy (held.map fun x => (pl' x : Int))) := ints_at hr' il
      have d1 : Dv H4 (.ref b) (.tuple [.int (pl' (many + 1) : Nat), inPy (held.map fun x => (pl' x : Int))]) := .tup hb (by show 2 ≤ 50000; decide) (.cons (.int _) (.cons dr .nil))
      have d2 : Dv (upd HB tb (.tup [.int (pl' (many + 1) : Nat), .ref rb])) (.ref tb) (.tuple [.int (pl' (many + 1) : Nat), inPy (held.map fun x => (pl' x : Int))]) := .tup upd_same (by show 2 ≤ 50000; decide) (.cons (.int _) (.cons (ints_at (SC _ _ hrb) il) .nil))
      have ok3 : smOk 3 (.tuple [.int (pl' (many + 1) : Nat), inPy (held.map fun x => (pl' x : Int))]) := .inr ⟨_, rfl, by
        intro e he
        simp only [List.mem_cons, List.not_mem_nil, or_false] at he
        rcases he with rfl | rfl
        · exact .inl (.inl ⟨_, rfl⟩)
        · exact .inr ⟨_, rfl, fun e he => by
            obtain ⟨i, _, rfl⟩ := List.mem_map.mp he
            exact .inl (.inl ⟨_, rfl⟩)⟩⟩
      refine ⟨.ref b, .ref tb, _, rfl, d1.same tt, d2, ok3, _, rfl, iteF ?_⟩
      have LC := (LA.same SB).same SC
      have hhC := ((hh12.same SA).same SB).same SC
      revert LC hhC
      generalize upd HB tb (.tup [.int (pl' (many + 1) : Nat), .ref rb]) = HC
      intro LC hhC
      have thm := LC.st.rm.th (many + 1) mA
      rw [gtm] at thm
      unfold thL at thm
      rw [gbm] at thm
      refine ⟨_, rfl, tm, _, 2, _, rfl, rfl, SqL.of thm, rfl, ?_⟩
      refine ⟨_, rfl, _, _, rfl, rfl, by show 2 ≤ sizeLine; decide, fun Ls nLs => ⟨Ls, rfl, ⟨_, SqL.of upd_same⟩, ?_⟩⟩
      have SD := same_new (o := .lst [.int 0, .int ((n : Int) - 1)]) nLs
      have LD := LC.same SD
      have hhD := hhC.same SD
      have nLo : Ls ∉ a'.own := fun z => by
        obtain ⟨o, ho, _⟩ := hhC.mem.ownAt Ls z
        rw [nLs] at ho; cases ho
      have nLb : Ls ≠ bm := fun z => by
        have := LC.st.rm.bd (many + 1) mA
        rw [gbm, ← z, nLs] at this
        cases this
      have nLp : Ls ≠ p := fun z => by
        obtain ⟨i1, i2, i3, e, _⟩ := LC.fd
        rw [z, e] at nLs; cases nLs
      have hLs : upd HC Ls (.lst [.int 0, .int ((n : Int) - 1)]) Ls = some (.lst [.int 0, .int ((n : Int) - 1)]) := upd_same
      revert SD LD hhD hLs
      generalize upd HC Ls (.lst [.int 0, .int ((n : Int) - 1)]) = HD
      intro SD LD hhD hLs
      have blen : ((addA (roomA c A held n) (many + 1) k n).ob (many + 1)).b.length = n := by
        rw [show (addA (roomA c A held n) (many + 1) k n).ob (many + 1) = newO k n from if_pos rfl]
        exact List.length_replicate
      refine for_list (xs := [.int 0, .int ((n : Int) - 1)]) (fun i σ H' => ∃ (A3 : AM) (s3 : Ms) (fn3 : Nat) (o12 : Option V), σ = [some (.ref p), some (.ref hp), some (.ref aS), some (.ref aZ), some (.ref aR1), some (.ref aH), some (.int k), some (.int n), some (.ref b), some (.ref tm), some (.int (pl' (many + 1) : Nat)), some (.ref bm), o12, none] ∧ HpAt C_Heap C_Memory H' hp a' c sh s3 ∧ Rep c sh s3 A3 pl' ∧ LwAt H' p aZ fn3 c (gNew g (many + 1) tm bm) A3 aS aR2 l02 l11 l21 aH held (many + 1) a' ∧ PlainA A3 ∧ A3.all = (addA (roomA c A held n) (many + 1) k n).all ∧ (∀ y, wd (A3.ob y) = wd ((addA (roomA c A held n) (many + 1) k n).ob y)) ∧ fn3 ≤ fn + 2 + i ∧ H' Ls = some (.lst [.int 0, .int ((n : Int) - 1)])) ⟨_, _, _, _, rfl, hhD, R', LD, (roomA_plain pn).add (fun z => m0 (roomA_sub z)) hk, rfl, fun _ => rfl, by omega, hLs⟩ ?_ ?_ ?_
      · rintro i σ H' _ ⟨_, _, _, _, _, _, _, _, _, _, _, _, h⟩
        exact SqL.of h
      · rintro i x σ H' hi ⟨A3, s3, fn3, o12, rfl, hh3', R3, L3', P3, all3, wd3, fn3l, hLs'⟩
        have hi2 : i < 2 := (List.getElem?_eq_some_iff.mp hi).1
        have hx2 : x = .int 0 ∨ x = .int ((n : Int) - 1) := by
          have := List.mem_of_getElem? hi
          simpa using this
        have hxi : ∃ z : Int, x = .int z ∧ (z = 0 ∨ z = (n : Int) - 1) := hx2.elim (fun e => ⟨_, e, .inl rfl⟩) (fun e => ⟨_, e, .inr rfl⟩)
        obtain ⟨z, rfl, hz⟩ := hxi
        refine ⟨_, rfl, _, _, rfl, rfl, _, rfl, ite2 (fun h0 => ⟨_, rfl, _, _, rfl, rfl, _, rfl, ite2 (fun h1 => ?_) (fun h1 => ?_)⟩) (fun h0 => ⟨_, rfl, iteF ?_⟩)⟩
        · have h0 : 0 ≤ z := of_decide_eq_true h0
          have h1 : z < (n : Int) := of_decide_eq_true h1
          obtain ⟨j, rfl⟩ := Int.eq_ofNat_of_zero_le h0
          have hjn : j < n := by omega
          have mA3 : many + 1 ∈ A3.all := by rw [all3]; exact mA
          have bl3 : (A3.ob (many + 1)).b.length = n := by
            have := wd3 (many + 1)
            unfold wd at this
            omega
          refine ⟨_, rfl, p, 200, fn3, rfl, L3'.fd, by omega, by decide, by decide, fun v HE v0 v1 kE FE => ⟨_, _, rfl, rfl, ?_⟩⟩
          have LE := L3'.feed kE FE
          have hhE := hh3'.keptX kE (feed_lst L3'.fd L3'.po)
          have hLE := kE _ _ (by rw [List.mem_singleton]; exact nLp) hLs'
          have hbE := LE.st.rm.bd (many + 1) mA3
          rw [gbm] at hbE
          refine ⟨_, rfl, _, rfl, bm, _, (j : Int), j, rfl, rfl, hbE, ixN_nat (by rw [List.length_map, bl3]; exact hjn), ?_⟩
          obtain ⟨LF, hhF⟩ := body_step (j := j) (v := v - 100) LE hhE mA3 (by rw [bl3]; exact hjn)
          rw [gbm] at LF hhF
          obtain ⟨s4, p1, R4⟩ := put_word R3 (n := many + 1) (j := j) (v := v - 100) mA3 (by rw [bl3]; exact hjn) (P3.flag sh mA3) (by omega) (by omega)
          have eS : ((A3.ob (many + 1)).b.map V.int).set j (V.int (v - 100)) = ((A3.ob (many + 1)).b.set j (v - 100)).map V.int := by rw [List.map_set]
          refine at_nx (B := upd HE bm (.lst (((A3.ob (many + 1)).b.set j (v - 100)).map V.int))) (by rw [← eS]) ?_
          have hLF : upd HE bm (.lst (((A3.ob (many + 1)).b.set j (v - 100)).map V.int)) Ls = some (.lst [.int 0, .int ((n : Int) - 1)]) := by rw [upd_ne nLb]; exact hLE
          have hbF : upd HE bm (.lst (((A3.ob (many + 1)).b.set j (v - 100)).map V.int)) bm = some (.lst (((A3.ob (many + 1)).b.set j (v - 100)).map V.int)) := upd_same
          revert LF hhF hLF hbF
          generalize upd HE bm (.lst (((A3.ob (many + 1)).b.set j (v - 100)).map V.int)) = HF
          intro LF hhF hLF hbF
          obtain ⟨dxF, hdF⟩ := hhF.at_
          refine ⟨_, rfl, hp, dxF, HpF a', rfl, hdF, hpF_no (by decide), _, rfl, _, rfl, _, rfl, _, rfl, bm, _, (j : Int), .int (v - 100), rfl, rfl, SqL.of hbF, atI_nat (by rw [List.getElem?_map, List.getElem?_set, if_pos rfl, if_pos (by rw [bl3]; exact hjn)]; rfl), hp, pl' (many + 1), j, v - 100, a', c, sh, s3, s4, rfl, hhF, p1, fun HG hhG kG => ?_⟩
          have LG := LF.gone hhF (GoneTo.of_kept kG)
          refine ⟨rfl, _, rfl, iteF ?_⟩
          refine ⟨putA A3 (many + 1) j (v - 100), s4, fn3 + 1, _, rfl, hhG, R4, LG, P3.put _ _ _, all3, fun y => ?_, by omega, kG _ _ nLo hLF⟩
          by_cases e : y = many + 1
          · subst e
            rw [← wd3, show (putA A3 (many + 1) j (v - 100)).ob (many + 1) = { A3.ob (many + 1) with b := (A3.ob (many + 1)).b.set j (v - 100) } from if_pos rfl]
            unfold wd
            rw [List.length_set]
          · rw [← wd3, show (putA A3 (many + 1) j (v - 100)).ob y = A3.ob y from if_neg e]
        · exact ⟨A3, s3, fn3, _, rfl, hh3', R3, L3', P3, all3, wd3, by omega, hLs'⟩
        · exact ⟨A3, s3, fn3, _, rfl, hh3', R3, L3', P3, all3, wd3, by omega, hLs'⟩
      · rintro σ H' ⟨A3, s3, fn3, o12, rfl, hh3', R3, L3', P3, all3, wd3, fn3l, hLs'⟩
        have fn3l : fn3 ≤ fn + 4 := fn3l
        refine ⟨_, rfl, _, rfl, .ref aH, _, rfl, .inl ⟨_, SqL.of L3'.st.hl, rfl⟩, _, _, rfl, rfl, p, (((refsT (gNew g (many + 1) tm bm) held).length : Nat) : Int) + 1, fn3, rfl, L3'.fd, by omega, by omega, ?_, fun at0 HE a0 a1 kE FE => ?_⟩
        · unfold refsT
          rw [List.length_map]
          omega
        obtain ⟨t0, rfl⟩ := Int.eq_ofNat_of_zero_le a0
        have LE := L3'.feed kE FE
        have hhE := hh3'.keptX kE (feed_lst L3'.fd L3'.po)
        have rl : (refsT (gNew g (many + 1) tm bm) held).length = held.length := by unfold refsT; rw [List.length_map]
        have t0l : t0 ≤ (refsT (gNew g (many + 1) tm bm) held).length := by omega
        generalize hXe : refsT (gNew g (many + 1) tm bm) held = XS at *
        refine ⟨_, rfl, _, rfl, _, rfl, aH, _, rfl, SqL.of (hXe ▸ LE.st.hl), fun q1 nq1 => ?_⟩
        rw [cut_to t0l] 
        have S1 := same_new (o := .lst (XS.take t0)) nq1
        refine ⟨_, rfl, by show 1 ≤ sizeLine; decide, fun q2 nq2 => ?_⟩
        have S2 := S1.trans (same_new (o := .lst [.ref tm]) nq2)
        refine ⟨q1, q2, XS.take t0, [.ref tm], rfl, rfl, same_new nq2 _ _ upd_same, upd_same, ?_, fun q3 nq3 => ?_⟩
        · rw [List.length_take]
          exact Nat.le_of_lt (big (by show _ + 1 ≤ _; omega))
        have S3 := S2.trans (same_new (o := .lst (XS.take t0 ++ [V.ref tm])) nq3)
        refine ⟨_, rfl, _, rfl, _, rfl, aH, _, rfl, SqL.of (S3 _ _ (hXe ▸ LE.st.hl)), fun q4 nq4 => ?_⟩
        rw [cut_from t0l]
        have S4 := S3.trans (same_new (o := .lst (XS.drop t0)) nq4)
        refine ⟨q3, q4, XS.take t0 ++ [.ref tm], XS.drop t0, rfl, rfl, same_new nq4 _ _ upd_same, upd_same, ?_, fun q5 nq5 => ?_⟩
        · rw [List.length_append, List.length_take, List.length_drop]
          exact Nat.le_of_lt (big (by show _ + 1 + _ ≤ _; omega))
        have S5 := S4.trans (same_new (o := .lst (XS.take t0 ++ [V.ref tm] ++ XS.drop t0)) nq5)
        have dS5 := S5 _ _ LE.st.d
        refine ⟨_, rfl, aS, _, rfl, DPut.k (k := Sum.inr "held") dS5 stK_len, ?_⟩
        have n5 : q5 ≠ aS := (ne_of_none (S4 _ _ LE.st.d) nq5).symm
        have mh : many + 1 ∉ held := fun z => m0 (hA _ z)
        have ph : (held.take t0 ++ [many + 1] ++ held.drop t0).Perm ((many + 1) :: held) := by
          have h1 : (held.take t0 ++ (many + 1) :: held.drop t0).Perm ((many + 1) :: (held.take t0 ++ held.drop t0)) := List.perm_middle
          rw [List.take_append_drop] at h1
          rw [List.append_assoc]
          exact h1
        obtain ⟨LZ, hhZ⟩ := held_step (held' := held.take t0 ++ [many + 1] ++ held.drop t0) (aH' := q5) LE hhE ((KeptL.of_same S5).trans (kept_upd (o := .dK (stK aR2 q5 A3.which ((many + 1 : Nat) : Int))) (p := aS) (by simp))) (by rw [upd_same]) (by
          rw [upd_ne n5, upd_same, ← hXe]
          unfold refsT
          rw [List.map_append, List.map_append, List.map_take, List.map_drop]
          show _ = some (HO.lst (_ ++ [V.ref ((gNew g (many + 1) tm bm).t (many + 1))] ++ _))
          rw [gtm]) (free_no LE.fd hhE (S4.free nq5)) (LE.zf (S4.free nq5))
        refine q s3 pl' (gNew g (many + 1) tm bm) A3 aR2 l02 l11 l21 q5 (held.take t0 ++ [many + 1] ++ held.drop t0) a' (fn3 + 1) _ hhZ R3 LZ ?_ (by omega) rfl
        refine ⟨P3, ?_, ?_, fun y hy => ?_, fun y hy => ?_, ?_, hc1, hc2⟩
        · rw [ph.nodup_iff]
          exact List.nodup_cons.mpr ⟨mh, hnd⟩
        · rw [ph.length_eq]
          show held.length + 1 ≤ 30
          omega
        · rw [all3]
          rcases List.mem_cons.mp (ph.mem_iff.mp hy) with rfl | z
          · exact mA
          · exact hAA y z
        · rw [all3] at hy
          rcases addA_mem.mp hy with z | rfl
          · have := hnm y (roomA_sub z)
            omega
          · exact Nat.le_refl _
        · rw [all3, wsum_congr (ob' := (addA (roomA c A held n) (many + 1) k n).ob) fun y _ => wd3 y, addA_wsum fun z => m0 (roomA_sub z)]
          omega
end
end PH

/-! A deed. -/
namespace PH
open PySem PySem.Spec PyProof.Rows L2 KA KI KK PV T ET
def thD (ob : Nat → Obj) (n : Nat) : PyData := .list [.int (ob n).k, .int (ob n).age, .list ((ob n).b.map .int), .int n]
theorem ints_shape : ∀ xs : List Int, PyData.canLayAll0 (xs.map .int) = true ∧ PyData.depthAll (xs.map .int) = 0
  | [] => ⟨rfl, rfl⟩
  | x :: xs => by
    obtain ⟨h1, h2⟩ := ints_shape xs
    rw [List.map_cons]
    unfold PyData.canLayAll0 PyData.depthAll
    rw [h1, h2]
    exact ⟨rfl, rfl⟩
theorem held_shape (ob : Nat → Obj) : ∀ ns : List Nat, PyData.canLayAll0 (ns.map (thD ob)) = true ∧ PyData.depthAll (ns.map (thD ob)) ≤ 2
  | [] => ⟨rfl, Nat.zero_le _⟩
  | n :: ns => by
    obtain ⟨h1, h2⟩ := held_shape ob ns
    obtain ⟨i1, i2⟩ := ints_shape (ob n).b
    rw [List.map_cons]
    unfold PyData.canLayAll0 PyData.depthAll
    have a1 : (thD ob n).canLay0 = true := by
      unfold thD
      simp [PyData.canLay0, PyData.canLayAll0, i1]
    have a2 : (thD ob n).depth ≤ 2 := by
      unfold thD
      simp [PyData.depth, PyData.depthAll, i2]
    rw [a1, h1]
    exact ⟨rfl, Nat.max_le.mpr ⟨a2, h2⟩⟩
theorem ints_dp {K : PySem.W.Frag} {H : Hp} : ∀ xs : List Int, DpAll K H (xs.map V.int) (xs.map .int)
  | [] => .nil
  | x :: xs => .cons (.int x) (ints_dp xs)
theorem held_dp {K : PySem.W.Frag} {H : Hp} {g : Gh} {ob : Nat → Obj} : ∀ {ns : List Nat}, (∀ n ∈ ns, H (g.t n) = some (.lst (thL g ob n)) ∧ H (g.b n) = some (.lst ((ob n).b.map V.int))) → DpAll K H (refsT g ns) (ns.map (thD ob))
  | [], _ => .nil
  | n :: ns, h => by
    obtain ⟨h1, h2⟩ := h n List.mem_cons_self
    exact .cons (.lst (SqL.of h1) (.cons (.int _) (.cons (.int _) (.cons (.lst (SqL.of h2) (ints_dp _)) (.cons (.int _) .nil))))) (held_dp fun m hm => h m (List.mem_cons_of_mem _ hm))
theorem min_step {CH CM hp : Addr} {H H8 : Hp} {p aZ : Addr} {fn : Nat} {c : Sz} {g : Gh} {A A1 : AM} {aS aR l0 l1 l2 aH aR2 l02 l11 l21 : Addr} {held : List Nat} {many : Nat} {a : Ma} {sh : List (List Bool)} {s : Ms}
    (L : LwAt H p aZ fn c g A aS aR l0 l1 l2 aH held many a) (hh : HpAt CH CM H hp a c sh s) (hA : ∀ y ∈ held, y ∈ A.all) (sub : ∀ y ∈ A1.all, y ∈ A.all)
    (k8 : KeptL (aS :: held.map g.t) H H8) (dS : H8 aS = some (.dK (stK aR2 aH A1.which many))) (R8 : RmAt H8 g A1 aR2 l02 l11 l21) (fr : ∀ x ∈ [aR2, l02, l11, l21], H x = none) :
    LwAt H8 p aZ fn c g A1 aS aR2 l02 l11 l21 aH held many a ∧ HpAt CH CM H8 hp a c sh s := by
  have nl : ∀ y ∈ aS :: held.map g.t, y ∉ a.own ∧ ∃ o, H y = some o ∧ (∀ xs, o ≠ .tup xs) ∧ ∀ C d f, o ≠ .ins C d f := fun y hy => by
    rcases List.mem_cons.mp hy with rfl | hy
    · exact ⟨(L.out _ (by simp [adrs])).1, _, L.st.d, by simp, by simp⟩
    · obtain ⟨z, hz, rfl⟩ := List.mem_map.mp hy
      exact ⟨(L.out _ (adrs_t (hA z hz))).1, _, L.st.rm.th z (hA z hz), by simp, by simp⟩
  have pn : p ∉ aS :: held.map g.t := fun z => by
    rcases List.mem_cons.mp z with e | z
    · exact (L.out aS (by simp [adrs])).2 e.symm
    · obtain ⟨y, hy, e⟩ := List.mem_map.mp z
      exact (L.out _ (adrs_t (hA y hy))).2 e
  have zn : aZ ∉ aS :: held.map g.t := fun z => by
    obtain ⟨_, o, ho, h2, _⟩ := nl _ z
    rw [L.sz] at ho
    cases ho
    exact h2 _ rfl
  have hn : aH ∉ aS :: held.map g.t := fun z => by
    rcases List.mem_cons.mp z with e | z
    · have := L.st.hl
      rw [e, L.st.d] at this
      cases this
    · obtain ⟨y, hy, e⟩ := List.mem_map.mp z
      have h1 := L.st.rm.th y (hA y hy)
      rw [e, L.st.hl] at h1
      injection h1 with h1
      injection h1 with h1
      cases held with
      | nil => cases hy
      | cons a r => cases h1
  have fd := L.fd
  obtain ⟨i1, i2, i3, e, re⟩ := fd
  have free : ∀ {y : Addr}, H y = none → y ∉ a.own ∧ y ≠ p := fun {y} hy => by
    refine ⟨fun z => ?_, fun z => ?_⟩
    · obtain ⟨o, ho, _⟩ := hh.mem.ownAt y z
      rw [hy] at ho
      cases ho
    · rw [z, e] at hy
      cases hy
  refine ⟨⟨⟨dS, R8, k8 _ _ hn L.st.hl⟩, k8 _ _ zn L.sz, ⟨i1, i2, i3, k8 _ _ pn e, re⟩, fun y hy => ?_, L.po, fun y hy z hz => L.bi y (sub y hy) z (sub z hz), fun Z zs ez => ?_⟩, hh.keptX k8 nl⟩
  · unfold adrs at hy
    rcases List.mem_append.mp hy with z | z
    · simp only [List.mem_cons, List.not_mem_nil, or_false] at z
      rcases z with rfl | rfl | rfl | rfl | rfl | rfl
      · exact L.out _ (by simp [adrs])
      · exact free (fr _ (by simp))
      · exact free (fr _ (by simp))
      · exact free (fr _ (by simp))
      · exact free (fr _ (by simp))
      · exact L.out _ (by simp [adrs])
    · rcases List.mem_append.mp z with z | z
      · obtain ⟨x, hx, rfl⟩ := List.mem_map.mp z
        exact L.out _ (adrs_t (sub x hx))
      · obtain ⟨x, hx, rfl⟩ := List.mem_map.mp z
        exact L.out _ (adrs_b (sub x hx))
  · obtain ⟨z1, z2, z3, z4⟩ := L.kz Z zs ez
    have zl : Z ∉ aS :: held.map g.t := fun y => by
      rcases List.mem_cons.mp y with e | y
      · exact z4 (by rw [e]; simp [adrs])
      · obtain ⟨x, hx, e⟩ := List.mem_map.mp y
        exact z4 (by rw [← e]; exact adrs_t (hA x hx))
    have zf : ∀ {y : Addr}, H y = none → Z ≠ y := fun {y} hy e2 => by rw [e2, hy] at z1; cases z1
    refine ⟨k8 _ _ zl z1, z2, z3, fun hy => ?_⟩
    unfold adrs at hy
    rcases List.mem_append.mp hy with w | w
    · simp only [List.mem_cons, List.not_mem_nil, or_false] at w
      rcases w with e2 | e2 | e2 | e2 | e2 | e2
      · exact z4 (by rw [e2]; simp [adrs])
      · exact zf (fr _ (by simp)) e2
      · exact zf (fr _ (by simp)) e2
      · exact zf (fr _ (by simp)) e2
      · exact zf (fr _ (by simp)) e2
      · exact z4 (by rw [e2]; simp [adrs])
    · rcases List.mem_append.mp w with w | w
      · obtain ⟨x, hx, e2⟩ := List.mem_map.mp w
        exact z4 (by rw [← e2]; exact adrs_t (sub x hx))
      · obtain ⟨x, hx, e2⟩ := List.mem_map.mp w
        exact z4 (by rw [← e2]; exact adrs_b (sub x hx))
section
variable {P : Program} {w : World} {K : PySem.W.Frag} {mg : Str → Option Value} {base : Heap} {C_Moving C_Memory C_Heap : Addr}
def spDeed (K : PySem.W.Frag) (CH CM : Addr) : Sp := fun vs H Q _ => ∃ (p hp aZ : Addr) (fn : Nat) (c : Sz) (sh : List (List Bool)) (s : Ms) (pl : Nat → Nat) (g : Gh) (A : AM) (aS aR l0 l1 l2 aH : Addr) (held : List Nat) (many : Nat) (a : Ma), vs = [.ref p, .ref hp, .ref aS, .ref aZ] ∧ HpAt CH CM H hp a c sh s ∧ Rep c sh s A pl ∧ LwAt H p aZ fn c g A aS aR l0 l1 l2 aH held many a ∧ LvP c A held many ∧ many ≤ 1000 ∧ fn + 200 ≤ 2 ^ 60 ∧
  ∀ (s' : Ms) (pl' : Nat → Nat) (g' : Gh) (A' : AM) (aR' l0' l1' l2' aH' : Addr) (held' : List Nat) (many' : Nat) (a' : Ma) (fn' : Nat) (H' : Hp), HpAt CH CM H' hp a' c sh s' → Rep c sh s' A' pl' → LwAt H' p aZ fn' c g' A' aS aR' l0' l1' l2' aH' held' many' a' → LvP c A' held' many' → fn' ≤ fn + 200 → many' ≤ many + 1 → g'.z = g.z → Q (.bl true) H'
theorem ok_deed {f : Addr} {fd : FuncData} (G : Gd K mg "_law_deed" s_law_deed ["_law_feed_here", "_law_heap", "_law_state", "_law_sizes_here"] f fd) (X : Lw K mg C_Moving C_Memory C_Heap) : FnOk P w K mg base CX0 11 f fd ["_law_feed_here", "_law_heap", "_law_state", "_law_sizes_here"] (spDeed K C_Heap C_Memory) := by
  obtain ⟨f__law_same, d__law_same, G__law_same⟩ := X.f__law_same
  have H__law_same : FnOk P w K mg base CX0 4 f__law_same d__law_same ["_law_told", "_law_due"] (spSm 3) := ok_same3 G__law_same X
  obtain ⟨f_Heap_slots, d_Heap_slots, M_Heap_slots⟩ := X.m_Heap_slots
  have H_Heap_slots : FnOk P w K mg base CX0 3 f_Heap_slots d_Heap_slots ["self", "address"] (spHslots C_Heap C_Memory) := ok_hslots M_Heap_slots X
  obtain ⟨f_Heap_kind, d_Heap_kind, M_Heap_kind⟩ := X.m_Heap_kind
  have H_Heap_kind : FnOk P w K mg base CX0 3 f_Heap_kind d_Heap_kind ["self", "address"] (spHkind C_Heap C_Memory) := ok_hkind M_Heap_kind X
  obtain ⟨f_Heap_where, d_Heap_where, M_Heap_where⟩ := X.m_Heap_where
  have H_Heap_where : FnOk P w K mg base CX0 3 f_Heap_where d_Heap_where ["self", "address"] (spHwhere C_Heap C_Memory) := ok_hwhere M_Heap_where X
  obtain ⟨f__law_address, d__law_address, G__law_address⟩ := X.f__law_address
  have H__law_address : FnOk P w K mg base CX0 1 f__law_address d__law_address ["_law_rooms", "_law_sizes_here", "_law_which", "_law_one_here"] (spAddr K) := ok_addr G__law_address X
  obtain ⟨f__law_roots, d__law_roots, G__law_roots⟩ := X.f__law_roots
  have H__law_roots : FnOk P w K mg base CX0 2 f__law_roots d__law_roots ["_law_rooms", "_law_sizes_here", "_law_which", "_law_held"] (spRoots K) := ok_roots G__law_roots X
  obtain ⟨f__law_minor, d__law_minor, G__law_minor⟩ := X.f__law_minor
  have H__law_minor : FnOk P w K mg base CX0 1 f__law_minor d__law_minor ["_law_rooms", "_law_sizes_here", "_law_held"] (spMinL K) := ok_minor42 G__law_minor X
  obtain ⟨f_Heap_minor, d_Heap_minor, M_Heap_minor⟩ := X.m_Heap_minor
  have H_Heap_minor : FnOk P w K mg base CX0 9 f_Heap_minor d_Heap_minor ["self", "roots"] (spHminor C_Heap C_Memory) := ok_hminor M_Heap_minor X
  obtain ⟨f__law_draw, d__law_draw, G__law_draw⟩ := X.f__law_draw
  have H__law_draw : FnOk P w K mg base CX0 1 f__law_draw d__law_draw ["_law_feed_here", "_law_many"] (spDk) := ok_drw G__law_draw X
  obtain ⟨f__law_made, d__law_made, G__law_made⟩ := X.f__law_made
  have H__law_made : FnOk P w K mg base CX0 10 f__law_made d__law_made ["_law_feed_here", "_law_heap", "_law_state", "_law_sizes_here"] (spMade K C_Heap C_Memory) := ok_made G__law_made X
  refine G.F.ok sc_law_deed (fun vs H Q E h => ?_) (fun cdv A outer s H vs Q E hr h => ?_)
  · obtain ⟨p, hp, aZ, fn, c, sh, s, pl, g, A, aS, aR, l0, l1, l2, aH, held, many, a, rfl, _⟩ := h; rfl
  · obtain ⟨p, hp, aZ, fn, c, sh, s, pl, g, A, aS, aR, l0, l1, l2, aH, held, many, a, rfl, hh, R, L, V0, hmany, hfn, q⟩ := h
    refine ⟨_, (pss_cons (ps_par (i := 4) (j := 5) (by rfl) sc_law_deed.nd rfl rfl (by decide) rfl rfl (pa_cons (pe_call H__law_draw (hr.mono (by decide)) (by rfl) G__law_draw.g G__law_draw.F.kp G__law_draw.b .nil pass0 (pa_cons (pv 0) (pa_cons pe_int pa_nil))) (pa_cons (pe_dget (hu_of hr) (pv 2) pe_str (fun _ _ => rfl)) pa_nil)) (by rfl))
      (C8.pss_cut (ps_if (PW.pt (pw_and (pt_cmpR op_lt (pv 4) pe_int (nomark _)) (pw_and1 (pt_cmpR op_lt (pe_callB call_len (by rfl) X.b_len PySem.boot_len (pa_cons (pv 5) pa_nil)) pe_int (nomark _)))))
        (pss_one (ps_ret (pe_call H__law_made hr (by rfl) G__law_made.g G__law_made.F.kp G__law_made.b .nil pass0 (pa_cons (pv 0) (pa_cons (pv 1) (pa_cons (pv 2) (pa_cons (pv 3) pa_nil))))))) pss_nil)
      (C8.pss_cut (ps_if (PW.pt (pw_and (pt_cmpR op_lt (pv 4) pe_int (nomark _)) (pw_and1 (pt_cmpR (op_neD hr.units) (pv 5) (pe_lst pa_nil) (nomark _)))))
        (pss_cons (ps_set (i := 6) sc_law_deed.nd rfl (Or.inl rfl) (pe_call H__law_draw (hr.mono (by decide)) (by rfl) G__law_draw.g G__law_draw.F.kp G__law_draw.b .nil pass0 (pa_cons (pv 0) (pa_cons (pe_callB call_len (by rfl) X.b_len PySem.boot_len (pa_cons (pv 5) pa_nil)) pa_nil))))
      (pss_cons (ps_set (i := 7) sc_law_deed.nd rfl (Or.inl rfl) (pe_op op_cat (pe_slice sl_list (pv 5) po_none (po_some (pv 6))) (pe_slice sl_list (pv 5) (po_some (pe_op op_add (pv 6) pe_int)) po_none)))
      (pss_cons (ps_set (i := 8) sc_law_deed.nd rfl (Or.inl rfl) (pe_call H__law_draw (hr.mono (by decide)) (by rfl) G__law_draw.g G__law_draw.F.kp G__law_draw.b .nil pass0 (pa_cons (pv 0) (pa_cons (pe_callB call_len (by rfl) X.b_len PySem.boot_len (pa_cons (pv 5) pa_nil)) pa_nil))))
      (pss_cons (ps_dput (hu_of hr) (pv 2) pe_str (pe_ifExp (pt_cmpR op_eq (pv 4) pe_int (nomark _)) (pv 7) (pe_op op_cat (pe_op op_cat (pe_slice sl_list (pv 7) po_none (po_some (pv 8))) (pe_lst (pa_cons (pe_ix ix_list (pv 5) (pv 6) (fun _ _ => rfl)) pa_nil))) (pe_slice sl_list (pv 7) (po_some (pv 8)) po_none))) rfl)
      (pss_one (ps_ret pe_bl)))))) pss_nil)
      (pss_cons (ps_set (i := 9) sc_law_deed.nd rfl (Or.inl rfl) (pe_meth (pv 1) X.cl_Heap M_Heap_minor.m H_Heap_minor (hr.mono (by decide)) M_Heap_minor.b .nil pass0 (pa_cons (pe_call H__law_roots (hr.mono (by decide)) (by rfl) G__law_roots.g G__law_roots.F.kp G__law_roots.b .nil pass0 (pa_cons (pe_dget (hu_of hr) (pv 2) pe_str (fun _ _ => rfl)) (pa_cons (pv 3) (pa_cons (pe_dget (hu_of hr) (pv 2) pe_str (fun _ _ => rfl)) (pa_cons (pv 5) pa_nil))))) pa_nil)))
      (pss_cons (ps_dput (hu_of hr) (pv 2) pe_str (pe_call H__law_minor (hr.mono (by decide)) (by rfl) G__law_minor.g G__law_minor.F.kp G__law_minor.b .nil pass0 (pa_cons (pe_dget (hu_of hr) (pv 2) pe_str (fun _ _ => rfl)) (pa_cons (pv 3) (pa_cons (pv 5) pa_nil)))) rfl)
      (pss_cons (ps_dput (hu_of hr) (pv 2) pe_str (pe_op op_sub pe_int (pe_dget (hu_of hr) (pv 2) pe_str (fun _ _ => rfl))) rfl)
      (pss_cons (ps_if (pt_not (pt_val (pe_call H__law_same (hr.mono (by decide)) (by rfl) G__law_same.g G__law_same.F.kp G__law_same.b .nil pass0 (pa_cons (pv 9) (pa_cons (pe_call H__law_roots (hr.mono (by decide)) (by rfl) G__law_roots.g G__law_roots.F.kp G__law_roots.b .nil pass0 (pa_cons (pe_dget (hu_of hr) (pv 2) pe_str (fun _ _ => rfl)) (pa_cons (pv 3) (pa_cons (pe_dget (hu_of hr) (pv 2) pe_str (fun _ _ => rfl)) (pa_cons (pv 5) pa_nil))))) pa_nil)))))
        (pss_one (ps_ret pe_bl)) pss_nil)
      (pss_cons (ps_for PassesOwn.never rfl (pi_list (pv 5)) (pg_name (i := 10) sc_law_deed.nd rfl (Or.inl rfl))
        (pss_cons (ps_asg (pe_call H__law_address (hr.mono (by decide)) (by rfl) G__law_address.g G__law_address.F.kp G__law_address.b .nil pass0 (pa_cons (pe_dget (hu_of hr) (pv 2) pe_str (fun _ _ => rfl)) (pa_cons (pv 3) (pa_cons (pe_dget (hu_of hr) (pv 2) pe_str (fun _ _ => rfl)) (pa_cons (pv 10) pa_nil))))) (pg_tup rfl (pgs_cons (pg_name (i := 11) sc_law_deed.nd rfl (Or.inl rfl)) (pgs_cons (pg_name (i := 12) sc_law_deed.nd rfl (Or.inl rfl)) pgs_nil))))
      (pss_one (ps_if (pt_not (pt_val (pe_call H__law_same (hr.mono (by decide)) (by rfl) G__law_same.g G__law_same.F.kp G__law_same.b .nil pass0 (pa_cons (pe_tup (pa_cons (pe_meth (pv 1) X.cl_Heap M_Heap_where.m H_Heap_where (hr.mono (by decide)) M_Heap_where.b .nil pass0 (pa_cons (pv 11) pa_nil)) (pa_cons (pe_meth (pv 1) X.cl_Heap M_Heap_kind.m H_Heap_kind (hr.mono (by decide)) M_Heap_kind.b .nil pass0 (pa_cons (pv 11) pa_nil)) (pa_cons (pe_meth (pv 1) X.cl_Heap M_Heap_slots.m H_Heap_slots (hr.mono (by decide)) M_Heap_slots.b .nil pass0 (pa_cons (pv 11) pa_nil)) pa_nil)))) (pa_cons (pe_tup (pa_cons (pv 12) (pa_cons (pe_ix ix_list (pv 10) pe_int (fun _ _ => rfl)) (pa_cons (pe_callB call_len (by rfl) X.b_len PySem.boot_len (pa_cons (pe_ix ix_list (pv 10) pe_int (fun _ _ => rfl)) pa_nil)) pa_nil)))) pa_nil)))))
        (pss_one (ps_ret pe_bl)) pss_nil))))
      (pss_one (ps_ret pe_bl)))))))))), ?_⟩
    obtain ⟨pn, hnd, h30', hA, hnm, hws, hc1, hc2⟩ := id V0
    refine ⟨_, rfl, p, 8, fn, rfl, L.fd, by omega, by decide, by decide, fun wy H1 w0 w1 k1 F1 => ?_⟩
    have L1 := L.feed k1 F1
    have hh1 := hh.keptX k1 (feed_lst L.fd L.po)
    have rl : (refsT g held).length = held.length := by unfold refsT; rw [List.length_map]
    refine ⟨_, rfl, aS, _, rfl, dgH L1.st.d, _, _, rfl, ?_⟩
    obtain ⟨wy, rfl⟩ := Int.eq_ofNat_of_zero_le w0
    refine ⟨fun σ' H' => σ' = [some (.ref p), some (.ref hp), some (.ref aS), some (.ref aZ), some (.int wy), some (.ref aH), none, none, none, none, none, none, none] ∧ H1 = H', ?_, ?_⟩
    · refine ⟨_, rfl, _, _, rfl, rfl, _, rfl, ite2 (fun h1 => ⟨_, rfl, .ref aH, _, rfl, .inl ⟨_, SqL.of L1.st.hl, rfl⟩, _, _, rfl, rfl, _, rfl, ite2 (fun h2 => ?_) (fun h2 => ?_)⟩) (fun h1 => iteF ?_)⟩
      · have h2 : held.length < 30 := by
          have := of_decide_eq_true h2
          omega
        exact ⟨_, rfl, _, rfl, _, rfl, _, rfl, p, hp, aZ, fn + 1, c, sh, s, pl, g, A, aS, aR, l0, l1, l2, aH, held, many, a, rfl, hh1, R, L1, V0, h2, hmany, by omega, fun s' pl' g' A' aR' l0' l1' l2' aH' held' a' fn' H' e1 e2 e3 e4 e5 e6 => q s' pl' g' A' aR' l0' l1' l2' aH' held' (many + 1) a' fn' H' e1 e2 e3 e4 (by omega) (Nat.le_refl _) e6⟩
      · exact ⟨rfl, rfl⟩
      · exact ⟨rfl, rfl⟩
    rintro _ _ ⟨rfl, rfl⟩
    refine ⟨fun σ' H' => σ' = [some (.ref p), some (.ref hp), some (.ref aS), some (.ref aZ), some (.int wy), some (.ref aH), none, none, none, none, none, none, none] ∧ Same H1 H', ?_, ?_⟩
    · refine ⟨_, rfl, _, _, rfl, rfl, _, rfl, ite2 (fun h1 => ⟨_, rfl, Nat.zero_le _, fun E0' nE => ?_⟩) (fun h1 => iteF ⟨rfl, fun _ _ e => e⟩)⟩
      have SE := same_new (o := .lst []) nE
      have hE : upd H1 E0' (.lst []) E0' = some (.lst []) := upd_same
      revert SE hE
      generalize upd H1 E0' (.lst []) = H2
      intro SE hE
      have L2 := L1.same SE
      have hh2 := hh1.same SE
      obtain ⟨c1, c2⟩ := held_shape A.ob held
      refine ⟨.list (held.map (thD A.ob)), .list [], .lst (SqL.of L2.st.hl) (held_dp fun n hn => ⟨L2.st.rm.th n (hA n hn), L2.st.rm.bd n (hA n hn)⟩), .lst (SqL.of hE) .nil, ?_, rfl, _, rfl, ite2 (fun h2 => ?_) (fun h2 => ⟨rfl, SE⟩)⟩
      · unfold SeqAt.shaped
        have d1 : (PyData.list (held.map (thD A.ob))).canLay0 = true := by rw [PyData.canLay0.eq_def]; exact c1
        have d2 : (PyData.list (held.map (thD A.ob))).depth ≤ 64 := by rw [PyData.depth.eq_def]; show PyData.depthAll _ + 1 ≤ 64; omega
        rw [d1, decide_eq_true d2]
        rfl
      have hne : 0 < held.length := by
        cases held with
        | nil => exact absurd h2 (by show ¬ (!PyData.eqv (.list []) (.list [])) = true; decide)
        | cons x r => exact Nat.succ_pos _
      have F2 := L2.fd
      refine ⟨_, rfl, _, rfl, .ref aH, _, rfl, .inl ⟨_, SqL.of L2.st.hl, rfl⟩, p, (((refsT g held).length : Nat) : Int), fn + 1, rfl, F2, by omega, by omega, by omega, fun t H3 t0 t1 k3 F3 => ?_⟩
      obtain ⟨t, rfl⟩ := Int.eq_ofNat_of_zero_le t0
      have L3 := L2.feed k3 F3
      have hh3 := hh2.keptX k3 (feed_lst L2.fd L2.po)
      have tl : t < held.length := by omega
      refine ⟨_, rfl, _, rfl, _, rfl, aH, _, rfl, SqL.of L3.st.hl, fun q1 nq1 => ?_⟩
      rw [cut_to (by omega)]
      have S1 := same_new (o := .lst ((refsT g held).take t)) nq1
      refine ⟨_, rfl, _, rfl, _, _, rfl, rfl, _, rfl, aH, _, rfl, SqL.of (S1 _ _ L3.st.hl), fun q2 nq2 => ?_⟩
      have et1 : (t : Int) + 1 = ((t + 1 : Nat) : Int) := by omega
      rw [et1, cut_from (by omega)]
      have S2 := S1.trans (same_new (o := .lst ((refsT g held).drop (t + 1))) nq2)
      refine ⟨q1, q2, (refsT g held).take t, (refsT g held).drop (t + 1), rfl, rfl, same_new nq2 _ _ upd_same, upd_same, ?_, fun q3 nq3 => ?_⟩
      · rw [List.length_take, List.length_drop]
        exact Nat.le_of_lt (big (by omega))
      have S3 := S2.trans (same_new (o := .lst ((refsT g held).take t ++ (refsT g held).drop (t + 1))) nq3)
      have ersT : (refsT g held).take t ++ (refsT g held).drop (t + 1) = refsT g (held.take t ++ held.drop (t + 1)) := by
        unfold refsT
        rw [List.map_append, List.map_take, List.map_drop]
      have hq3 : upd (upd (upd H3 q1 (.lst ((refsT g held).take t))) q2 (.lst ((refsT g held).drop (t + 1)))) q3 (.lst ((refsT g held).take t ++ (refsT g held).drop (t + 1))) q3 = some (.lst (refsT g (held.take t ++ held.drop (t + 1)))) := by rw [upd_same, ersT]
      have fq3 : H3 q3 = none := S2.free nq3
      revert hq3 S3
      generalize upd (upd (upd H3 q1 (.lst ((refsT g held).take t))) q2 (.lst ((refsT g held).drop (t + 1)))) q3 (.lst ((refsT g held).take t ++ (refsT g held).drop (t + 1))) = H4
      intro S3 hq3
      have L4 := L3.same S3
      have hh4 := hh3.same S3
      have F4 := L4.fd
      -- the hands without one
      have ex : held[t]? = some held[t] := List.getElem?_eq_getElem tl
      have ph : held.Perm (held[t] :: (held.take t ++ held.drop (t + 1))) := by
        have h1 : (held.take t ++ held[t] :: held.drop (t + 1)).Perm (held[t] :: (held.take t ++ held.drop (t + 1))) := List.perm_middle
        rw [← List.drop_eq_getElem_cons tl, List.take_append_drop] at h1
        exact h1
      have nd2 := hnd
      rw [ph.nodup_iff] at nd2
      obtain ⟨nx, ndr⟩ := List.nodup_cons.mp nd2
      have lr := ph.length_eq
      rw [List.length_cons] at lr
      generalize hrs : held.take t ++ held.drop (t + 1) = rest at *
      refine ⟨_, rfl, _, rfl, .ref aH, _, rfl, .inl ⟨_, SqL.of L4.st.hl, rfl⟩, p, (((refsT g held).length : Nat) : Int), fn + 1 + 1, rfl, F4, by omega, by omega, by omega, fun u H5 u0 u1 k5 F5 => ?_⟩
      obtain ⟨u, rfl⟩ := Int.eq_ofNat_of_zero_le u0
      have L5 := L4.feed k5 F5
      have hh5 := hh4.keptX k5 (feed_lst L4.fd L4.po)
      have q3p : q3 ≠ p := fun z => by
        obtain ⟨i1, i2, i3, e, _⟩ := L3.fd
        rw [z, e] at fq3
        cases fq3
      have hq5 := k5 _ _ (by rw [List.mem_singleton]; exact q3p) hq3
      have rtl : (refsT g rest).length = rest.length := by unfold refsT; rw [List.length_map]
      have nq3' : q3 ∉ a.own ∧ q3 ≠ p := free_no L3.fd hh3 fq3
      have fin : ∀ (held' : List Nat) (aH' : Addr) (H6 H7 : Hp), Same H5 H6 → H7 = upd H6 aS (.dK (stK aR aH' A.which many)) → H6 aH' = some (.lst (refsT g held')) → (aH' ∉ a.own ∧ aH' ≠ p) → (∀ Z zs, g.z = some (Z, zs) → Z ≠ aH') → held'.Nodup → held'.length ≤ 30 → (∀ y ∈ held', y ∈ held) → Q (.bl true) H7 := fun held' aH' H6 H7 S6 e7 h6 no nz n6 l6 s6 => by
        have d6 := S6 _ _ L5.st.d
        have naS : aH' ≠ aS := fun z => by rw [z, d6] at h6; cases h6
        obtain ⟨LZ, hhZ⟩ := held_step (held' := held') (aH' := aH') (H' := H7) L5 hh5 (by rw [e7]; exact (KeptL.of_same S6).trans (kept_upd (by simp))) (by rw [e7, upd_same]) (by rw [e7, upd_ne naS]; exact h6) no nz
        exact q s pl g A aR l0 l1 l2 aH' held' many a _ H7 hhZ R LZ ⟨pn, n6, l6, fun y hy => hA y (s6 y hy), hnm, hws, hc1, hc2⟩ (by omega) (by omega) rfl
      refine ⟨_, rfl, rfl, _, rfl, ite2 (fun hw => ?_) (fun hw => ?_)⟩
      · refine ⟨_, rfl, _, rfl, aS, _, rfl, DPut.k (k := Sum.inr "held") L5.st.d stK_len, ?_⟩
        exact fin rest q3 H5 _ (fun _ _ e => e) rfl hq5 nq3' (L3.zf fq3) ndr (by omega) fun y hy => ph.mem_iff.mpr (List.mem_cons_of_mem _ hy)
      · refine ⟨_, rfl, _, rfl, _, rfl, q3, _, rfl, SqL.of hq5, fun q4 nq4 => ?_⟩
        rw [cut_to (by omega)]
        have S4 := same_new (o := .lst ((refsT g rest).take u)) nq4
        refine ⟨_, rfl, _, rfl, aH, _, (t : Int), .ref (g.t held[t]), rfl, rfl, SqL.of (S4 _ _ L5.st.hl), atI_nat (by unfold refsT; rw [List.getElem?_map, ex]; rfl), by show 1 ≤ sizeLine; decide, fun q6 nq6 => ?_⟩
        have S6 := S4.trans (same_new (o := .lst [.ref (g.t held[t])]) nq6)
        refine ⟨q4, q6, (refsT g rest).take u, [.ref (g.t held[t])], rfl, rfl, same_new nq6 _ _ upd_same, upd_same, ?_, fun q7 nq7 => ?_⟩
        · rw [List.length_take]
          exact Nat.le_of_lt (big (by show _ + 1 ≤ _; omega))
        have S7 := S6.trans (same_new (o := .lst ((refsT g rest).take u ++ [.ref (g.t held[t])])) nq7)
        refine ⟨_, rfl, _, rfl, _, rfl, q3, _, rfl, SqL.of (S7 _ _ hq5), fun q8 nq8 => ?_⟩
        rw [cut_from (by omega)]
        have S8 := S7.trans (same_new (o := .lst ((refsT g rest).drop u)) nq8)
        refine ⟨q7, q8, (refsT g rest).take u ++ [.ref (g.t held[t])], (refsT g rest).drop u, rfl, rfl, same_new nq8 _ _ upd_same, upd_same, ?_, fun q9 nq9 => ?_⟩
        · rw [List.length_append, List.length_take, List.length_drop]
          exact Nat.le_of_lt (big (by show _ + 1 + _ ≤ _; omega))
        have S9 := S8.trans (same_new (o := .lst ((refsT g rest).take u ++ [.ref (g.t held[t])] ++ (refsT g rest).drop u)) nq9)
        refine ⟨_, rfl, aS, _, rfl, DPut.k (k := Sum.inr "held") (S9 _ _ L5.st.d) stK_len, ?_⟩
        have p2 : (rest.take u ++ [held[t]] ++ rest.drop u).Perm held := by
          have h1 : (rest.take u ++ held[t] :: rest.drop u).Perm (held[t] :: (rest.take u ++ rest.drop u)) := List.perm_middle
          rw [List.take_append_drop] at h1
          rw [List.append_assoc]
          exact h1.trans ph.symm
        refine fin (rest.take u ++ [held[t]] ++ rest.drop u) q9 _ _ S9 rfl ?_ (free_no L5.fd hh5 (S8.free nq9)) (L5.zf (S8.free nq9)) (p2.nodup_iff.mpr hnd) (by rw [p2.length_eq]; exact h30') fun y hy => p2.mem_iff.mp hy
        rw [upd_same]
        unfold refsT
        rw [List.map_append, List.map_append, List.map_take, List.map_drop]
        rfl
    · rintro _ H2 ⟨rfl, SE⟩
      have L2 := L1.same SE
      have hh2 := hh1.same SE
      obtain ⟨dx, hd2⟩ := hh2.at_
      refine ⟨_, rfl, hp, dx, HpF a, rfl, hd2, hpF_no (by decide), _, rfl, aS, _, rfl, dgR L2.st.d, _, rfl, _, rfl, aS, _, rfl, dgW L2.st.d, _, rfl, aR, aZ, aH, l0, l1, l2, g, A, c, held, pl, rfl, L2.st.rm, L2.sz, L2.st.hl, by omega, hA, R.laid, fun r H3 nr S3 hr => ?_⟩
      have L3 := L2.same S3
      have hh3 := hh2.same S3
      obtain ⟨s', pl', e1, R', hal⟩ := minor_ok R (hands := held) fun x hx => .inr (hA x hx)
      rw [minA_eq pn] at R' hal
      refine ⟨hp, r, _, _, a, c, sh, s, s', rfl, hh3, hr, by rw [List.length_map]; omega, R.roots fun x hx => .inr (hA x hx), e1, fun a' b H4 hh4 G4 nb hb => ?_⟩
      have L4 := L3.gone hh3 G4
      refine ⟨_, rfl, aS, _, rfl, dgR L4.st.d, _, rfl, _, rfl, aR, aZ, aH, l0, l1, l2, g, A, c, held, rfl, L4.st.rm, L4.sz, L4.st.hl, hnd, by omega, hA, R.nd, by omega, pn.nm, fun aR1 l01 l11 l21 H5 f0 f1 f2 f3 k5 R5 => ?_⟩
      have aSn : aS ∉ held.map g.t := fun z => by
        obtain ⟨m, hm, e⟩ := List.mem_map.mp z
        have := L4.st.rm.th m (hA m hm)
        rw [e, L4.st.d] at this
        cases this
      have hS5 := k5 _ _ aSn L4.st.d
      refine ⟨_, rfl, aS, _, rfl, DPut.k (k := Sum.inr "rooms") hS5 stK_len, ?_⟩
      have hS6 : upd H5 aS (.dK (putK (stK aR aH A.which many) (Sum.inr "rooms" : Key) (.ref aR1))) aS = some (.dK (stK aR1 aH A.which many)) := upd_same
      refine ⟨_, rfl, aS, _, rfl, dgW hS6, _, _, rfl, rfl, _, rfl, aS, _, rfl, DPut.k (k := Sum.inr "which") hS6 stK_len, ?_⟩
      have w2 := R.w2
      have ew : (1 : Int) - (A.which : Int) = (((minA c A held).which : Nat) : Int) := by
        show _ = ((1 - A.which : Nat) : Int)
        omega
      obtain ⟨H7, g7⟩ : ∃ G : Hp, G = upd (upd H5 aS (.dK (putK (stK aR aH A.which many) (Sum.inr "rooms" : Key) (.ref aR1)))) aS (.dK (putK (stK aR1 aH A.which many) (Sum.inr "which" : Key) (.int (1 - (A.which : Int))))) := ⟨_, rfl⟩
      refine at_nx g7 ?_
      have hS7 : H7 aS = some (.dK (stK aR1 aH (minA c A held).which many)) := by rw [g7, upd_same, putW, ew]
      have R7 : RmAt H7 g (minA c A held) aR1 l01 l11 l21 := by rw [g7]; exact (R5.atD hS5).atD hS6
      have k7 : KeptL (aS :: held.map g.t) H4 H7 := by rw [g7]; exact ((k5.mono fun b hb => List.mem_cons_of_mem _ hb).trans (kept_upd List.mem_cons_self)).trans (kept_upd List.mem_cons_self)
      clear g7 hS6
      obtain ⟨L7, hh7⟩ := min_step L4 hh4 hA (fun y hy => minA_mem hy) k7 hS7 R7 (fun x hx => by
        simp only [List.mem_cons, List.not_mem_nil, or_false] at hx
        rcases hx with rfl | rfl | rfl | rfl <;> assumption)
      have T7 : TupSame H4 H7 := k7.tups2 fun y hy => by
        rcases List.mem_cons.mp hy with rfl | hy
        · exact ⟨_, L4.st.d, by simp⟩
        · obtain ⟨z, hz, rfl⟩ := List.mem_map.mp hy
          exact ⟨_, L4.st.rm.th z (hA z hz), by simp⟩
      have hA7 : ∀ y ∈ held, y ∈ (minA c A held).all := fun y hy => minA_all hy (hA y hy)
      refine ⟨_, rfl, _, rfl, aS, _, rfl, dgR L7.st.d, _, rfl, _, rfl, aS, _, rfl, dgW L7.st.d, _, rfl, aR1, aZ, aH, l01, l11, l21, g, minA c A held, c, held, pl', rfl, L7.st.rm, L7.sz, L7.st.hl, by omega, hA7, R'.laid, fun rb H8 nrb S8 hrb => ?_⟩
      have il : (held.map fun x => (pl' x : Int)).length ≤ 50000 := by rw [List.length_map]; omega
      refine ⟨.ref b, .ref rb, inPy (held.map fun x => (pl' x : Int)), rfl, (ints_at hb il).same (T7.trans (TupSame.of S8)), ints_at hrb il, .inr ⟨_, rfl, fun e he => by
        obtain ⟨i, _, rfl⟩ := List.mem_map.mp he
        exact .inl (.inl ⟨_, rfl⟩)⟩, _, rfl, iteF ?_⟩
      have L8 := L7.same S8
      have hh8 := hh7.same S8
      refine ⟨_, rfl, aH, rfl, ⟨_, SqL.of L8.st.hl⟩, for_list (xs := refsT g held) (fun i σ H' => ∃ o10 o11 o12, σ = [some (.ref p), some (.ref hp), some (.ref aS), some (.ref aZ), some (.int wy), some (.ref aH), none, none, none, some (.ref b), o10, o11, o12] ∧ Same H8 H') ⟨_, _, _, rfl, fun _ _ e => e⟩ ?_ ?_ ?_⟩
      · rintro i σ H' _ ⟨_, _, _, _, S9⟩
        exact SqL.of (S9 _ _ L8.st.hl)
      · rintro i x σ H9 hj ⟨o10, o11, o12, rfl, S9⟩
        unfold refsT at hj
        rw [List.getElem?_map] at hj
        obtain ⟨m, hm, rfl⟩ := Option.map_eq_some_iff.mp hj
        have hmh := List.mem_of_getElem? hm
        have mA := hA7 m hmh
        have L9 := L8.same S9
        have hh9 := hh8.same S9
        refine ⟨_, rfl, aS, _, rfl, dgR L9.st.d, _, rfl, _, rfl, aS, _, rfl, dgW L9.st.d, _, rfl, aR1, aZ, l01, l11, l21, g, minA c A held, c, m, pl', rfl, L9.st.rm, L9.sz, mA, R'.laid, fun bA HA nbA SA hbA => ⟨bA, _, rfl, SqT.of hbA, rfl, _, _, rfl, _, _, rfl, rfl, ?_⟩⟩
        have LA := L9.same SA
        have hhA := hh9.same SA
        obtain ⟨dxA, hdA⟩ := hhA.at_
        obtain ⟨wh, w0⟩ := where_ok R' mA
        have T := R'.at_ m mA
        have O := R'.ok m mA
        have hdg := head_age (k := ((minA c A held).ob m).k) (age := ((minA c A held).ob m).age) (col := ((minA c A held).ob m).col) (by have := O.ag; omega) (by have := O.co; omega)
        refine ⟨_, rfl, hp, dxA, HpF a', rfl, hdA, hpF_no (by decide), _, rfl, hp, pl' m, a', c, sh, s', rfl, hhA, R'.isOb mA, w0, ?_⟩
        refine ⟨_, rfl, hp, dxA, HpF a', rfl, hdA, hpF_no (by decide), _, rfl, hp, pl' m, _, a', c, sh, s', rfl, hhA, R'.isOb mA, T.hd, ?_⟩
        refine ⟨_, rfl, hp, dxA, HpF a', rfl, hdA, hpF_no (by decide), _, rfl, hp, pl' m, _, a', c, sh, s', rfl, hhA, R'.isOb mA, T.ln, ?_⟩
        rw [hdg.2.1, wh]
        refine ⟨by show 3 ≤ sizeLine; decide, fun t1 nt1 => ?_⟩
        have ST := same_new (o := .tup [.str (whereA (minA c A held) m), .int ((minA c A held).ob m).k, .int (((minA c A held).ob m).b.length : Int)]) nt1
        have LT := LA.same ST
        refine ⟨_, rfl, _, rfl, g.t m, _, 0, _, rfl, rfl, SqL.of (LT.st.rm.th m mA), rfl, _, rfl, g.t m, _, 2, _, rfl, rfl, SqL.of (LT.st.rm.th m mA), rfl, .ref (g.b m), _, rfl, .inl ⟨_, SqL.of (LT.st.rm.bd m mA), rfl⟩, by show 3 ≤ sizeLine; decide, fun t2 nt2 => ?_⟩
        have wl : (whereA (minA c A held) m).length ≤ 50000 := by unfold whereA; split <;> (try split) <;> decide
        have SU := same_new (o := .tup [.str (roomN (minA c A held) m), .int ((minA c A held).ob m).k, .int ((((minA c A held).ob m).b.map V.int).length : Int)]) nt2
        have d1 : Dv (upd HA t1 (.tup [.str (whereA (minA c A held) m), .int ((minA c A held).ob m).k, .int (((minA c A held).ob m).b.length : Int)])) (.ref t1) (.tuple [.str (whereA (minA c A held) m), .int ((minA c A held).ob m).k, .int (((minA c A held).ob m).b.length : Int)]) := .tup upd_same (by show 3 ≤ 50000; decide) (.cons (.str _ wl) (.cons (.int _) (.cons (.int _) .nil)))
        refine ⟨.ref t1, .ref t2, _, rfl, d1.same (TupSame.of SU), .tup upd_same (by show 3 ≤ 50000; decide) (.cons (.str _ wl) (.cons (.int _) (.cons (by rw [List.length_map]; exact .int _) .nil))), .inr ⟨_, rfl, ?_⟩, _, rfl, iteF ?_⟩
        · intro e he
          simp only [List.mem_cons, List.not_mem_nil, or_false] at he
          rcases he with rfl | rfl | rfl
          · exact .inl (.inr (.inr ⟨_, rfl⟩))
          · exact .inl (.inl ⟨_, rfl⟩)
          · exact .inl (.inl ⟨_, rfl⟩)
        · exact ⟨_, _, _, rfl, ((S9.trans SA).trans ST).trans SU⟩
      · rintro σ H9 ⟨o10, o11, o12, rfl, S9⟩
        have L9 := L8.same S9
        have hh9 := hh8.same S9
        refine q s' pl' g (minA c A held) aR1 l01 l11 l21 aH held many a' _ H9 hh9 R' L9 ⟨pn.min c held, hnd, h30', hA7, fun y hy => hnm y (minA_mem hy), Nat.le_trans (minA_wsum R') hws, hc1, hc2⟩ (by omega) (by omega) rfl
end
end PH

/-! The law. -/
namespace PH
open PySem PySem.Spec PyProof.Rows L2 KA KI KK PV T ET
theorem TupsAt.drop {H : Hp} {ts : List Addr} {rows : List (List Bool)} (h : TupsAt H ts rows) (n : Nat) : TupsAt H (ts.drop n) (rows.drop n) := ⟨by rw [List.length_drop, List.length_drop, h.1], fun j r b e1 e2 => by
  rw [List.getElem?_drop] at e1 e2
  exact h.2 _ r b e1 e2⟩
def A0 : AM := ⟨[], [], [], [], fun _ => ⟨0, 0, 0, []⟩, 0, false⟩
theorem Rep.init {c : Sz} {sh : List (List Bool)} (hc : szOk c) (h60 : sh.length ≤ 60) (h100 : ∀ r ∈ sh, r.length ≤ 100) : Rep c sh (s0 c) A0 fun _ => 0 := by
  refine {
    cz := hc, shl := h60, shr := h100, hf := rfl, w2 := by decide, mrk := rfl, z := rfl, nxl := rfl
    ln := ⟨1, rfl, rfl, by omega⟩
    lh := ⟨c.1 + 1, rfl, rfl, ?_⟩
    lt := rfl
    lo := by show c.fo = (List.replicate c.fo (0 : Int)).length; rw [List.length_replicate]
    at_ := fun n hn => nomatch hn
    yg := .refl _
    od := rfl
    rnd := .nil
    rem := fun p => by
      constructor
      · intro h
        cases h
      · rintro ⟨n, hn, _⟩
        cases hn
    gs := fun n hn => nomatch hn
    gr := rfl
    gd := Nat.le_refl _
    gb := Nat.le_refl _
    en := rfl
    nd := .nil
    n0 := fun h => nomatch h
    ok := fun n hn => nomatch hn
    cl := fun n hn => nomatch hn
    yc := fun n hn => nomatch hn
    bud := Nat.zero_le _ }
  show c.1 + 1 ≤ c.1 + 1 + c.2.1
  omega
theorem plain_words {A : AM} (P : PlainA A) (sh : List (List Bool)) (pl : Nat → Nat) : ∀ {ns : List Nat}, (∀ n ∈ ns, n ∈ A.all) → roomWd sh pl A.ob ns = roomWords A.ob ns
  | [], _ => rfl
  | n :: r, h => by
    have hn := h n List.mem_cons_self
    show obW sh pl (A.ob n) ++ roomWd sh pl A.ob r = obWords (A.ob n) ++ roomWords A.ob r
    rw [plain_words P sh pl fun m hm => h m (List.mem_cons_of_mem _ hm)]
    congr 1
    unfold obW obWords
    rw [P.co n hn]
    congr 2
    apply List.ext_getElem?
    intro j
    rw [List.getElem?_map]
    by_cases hj : j < (A.ob n).b.length
    · rw [List.getElem?_range hj, List.getElem?_eq_getElem hj]
      show some (slotV sh pl (A.ob n).k j ((A.ob n).b.getD j 0)) = _
      unfold slotV
      rw [P.flag sh hn, List.getD_eq_getElem?_getD, List.getElem?_eq_getElem hj]
      rfl
    · rw [List.getElem?_eq_none (l := List.range _) (by rw [List.length_range]; omega), List.getElem?_eq_none (l := (A.ob n).b) (by omega)]
      rfl
theorem plain_rem {c : Sz} {sh : List (List Bool)} {s : Ms} {A : AM} {pl : Nat → Nat} (R : Rep c sh s A pl) (P : PlainA A) : s.rem = [] := by
  cases e : s.rem with
  | nil => rfl
  | cons p r =>
    have hp : p ∈ s.rem := by rw [e]; exact List.mem_cons_self
    obtain ⟨n, hn, j, x, _, h, _⟩ := (R.rem p).mp hp
    rw [P.flag sh (mem_all.mpr (.inr hn))] at h
    cases h
theorem sm_ints {n : Nat} (xs : List Int) : smOk (n + 1) (inPy xs) := .inr ⟨_, rfl, fun e he => by
  obtain ⟨z, _, rfl⟩ := List.mem_map.mp he
  cases n
  · exact .inl ⟨_, rfl⟩
  · exact .inl (.inl ⟨_, rfl⟩)⟩
theorem pic_sm (x y z : List Int) (i : Int) (b : Bool) : smOk 3 (.tuple [inPy x, .int i, inPy y, inPy z, inPy [], inPy [], .bool b]) := .inr ⟨_, rfl, fun e he => by
  simp only [List.mem_cons, List.not_mem_nil, or_false] at he
  rcases he with rfl | rfl | rfl | rfl | rfl | rfl | rfl
  · exact sm_ints _
  · exact .inl (.inl ⟨_, rfl⟩)
  · exact sm_ints _
  · exact sm_ints _
  · exact sm_ints _
  · exact sm_ints _
  · exact .inl (.inr (.inl ⟨_, rfl⟩))⟩
theorem LwAt.refeed {CH CM hp : Addr} {H H' : Hp} {p p' aZ : Addr} {fn m : Nat} {c : Sz} {g : Gh} {A : AM} {aS aR l0 l1 l2 aH : Addr} {held : List Nat} {many : Nat} {a : Ma} {sh : List (List Bool)} {s : Ms} (x : LwAt H p aZ fn c g A aS aR l0 l1 l2 aH held many a) (hh : HpAt CH CM H hp a c sh s) (S : Same H H') (np : H p' = none) (f : FeedAt H' p' m) : LwAt H' p' aZ m c g A aS aR l0 l1 l2 aH held many a :=
  ⟨x.st.same S, S _ _ x.sz, f, fun y hy => ⟨(x.out y hy).1, fun e => by
    obtain ⟨o, ho⟩ := x.st.ex y hy
    rw [e, np] at ho
    cases ho⟩, (free_no x.fd hh np).1, x.bi, fun Z zs ez => ⟨S _ _ (x.kz Z zs ez).1, (x.kz Z zs ez).2.1, x.zf np Z zs ez, (x.kz Z zs ez).2.2.2⟩⟩
section
variable {P : Program} {w : World} {K : PySem.W.Frag} {mg : Str → Option Value} {base : Heap} {C_Moving C_Memory C_Heap : Addr}
def spLaw (K : PySem.W.Frag) : Sp := fun vs H Q _ => ∃ (a : Addr) (ns : List Int), vs = [.ref a] ∧ SqL K H a (ns.map V.int) ∧ ns.length ≤ 63 ∧ ∀ H' : Hp, Q (.bl true) H'
theorem ok_law {f : Addr} {fd : FuncData} (G : Gd K mg "law" s_law ["_law_script"] f fd) (X : Lw K mg C_Moving C_Memory C_Heap) : FnOk P w K mg base CX0 12 f fd ["_law_script"] (spLaw K) := by
  obtain ⟨f__law_draw, d__law_draw, G__law_draw⟩ := X.f__law_draw
  have H__law_draw : FnOk P w K mg base CX0 1 f__law_draw d__law_draw ["_law_feed_here", "_law_many"] (spDk) := ok_drw G__law_draw X
  obtain ⟨f__law_same, d__law_same, G__law_same⟩ := X.f__law_same
  have H__law_same : FnOk P w K mg base CX0 4 f__law_same d__law_same ["_law_told", "_law_due"] (spSm 3) := ok_same3 G__law_same X
  obtain ⟨f__law_picture, d__law_picture, G__law_picture⟩ := X.f__law_picture
  have H__law_picture : FnOk P w K mg base CX0 2 f__law_picture d__law_picture ["_law_state"] (spPicL K) := ok_picL G__law_picture X
  obtain ⟨f_Heap_picture, d_Heap_picture, M_Heap_picture⟩ := X.m_Heap_picture
  have H_Heap_picture : FnOk P w K mg base CX0 2 f_Heap_picture d_Heap_picture ["self"] (spHpic C_Heap C_Memory) := ok_hpic M_Heap_picture X
  obtain ⟨f__law_deed, d__law_deed, G__law_deed⟩ := X.f__law_deed
  have H__law_deed : FnOk P w K mg base CX0 11 f__law_deed d__law_deed ["_law_feed_here", "_law_heap", "_law_state", "_law_sizes_here"] (spDeed K C_Heap C_Memory) := ok_deed G__law_deed X
  obtain ⟨f__law_feed, d__law_feed, G__law_feed⟩ := X.f__law_feed
  have H__law_feed : FnOk P w K mg base CX0 1 f__law_feed d__law_feed ["_law_script", "_law_k"] (spFeed K) := ok_fee G__law_feed X
  obtain ⟨f_Heap___init__, d_Heap___init__, K_Heap, F_Heap___init__, b_Heap___init__⟩ := X.i_Heap
  have H_Heap___init__ : FnOk P w K mg base CX0 4 f_Heap___init__ d_Heap___init__ ["self", "shapes", "sizes"] (spHinit C_Heap C_Memory) := ok_hinit F_Heap___init__ X
  obtain ⟨f__law_one, d__law_one, G__law_one⟩ := X.f__law_one
  have H__law_one : FnOk P w K mg base CX0 2 f__law_one d__law_one ["_law_feed_here", "_law_things"] (spOl) := ok_oneL G__law_one X
  obtain ⟨f__law_sizes, d__law_sizes, G__law_sizes⟩ := X.f__law_sizes
  have H__law_sizes : FnOk P w K mg base CX0 3 f__law_sizes d__law_sizes ["_law_feed_here"] (spSizes) := ok_sizes G__law_sizes X
  obtain ⟨f__law_shapes, d__law_shapes, G__law_shapes⟩ := X.f__law_shapes
  have H__law_shapes : FnOk P w K mg base CX0 3 f__law_shapes d__law_shapes ["_law_feed_here"] (spShapes) := ok_shapes G__law_shapes X
  refine G.F.ok sc_law (fun vs H Q E h => ?_) (fun cdv A outer s H vs Q E hr h => ?_)
  · obtain ⟨a, ns, rfl, _⟩ := h; rfl
  · obtain ⟨ps, ns, rfl, hS, hl, q⟩ := h
    refine ⟨_, (pss_cons (ps_set (i := 1) sc_law.nd rfl (Or.inl rfl) (pe_call H__law_feed (hr.mono (by decide)) (by rfl) G__law_feed.g G__law_feed.F.kp G__law_feed.b .nil pass0 (pa_cons (pv 0) (pa_cons pe_int pa_nil))))
      (C8.pss_cut (ps_par (i := 2) (j := 3) (by rfl) sc_law.nd rfl rfl (by decide) rfl rfl (pa_cons (pe_slice sl_tupA (pe_call H__law_shapes (hr.mono (by decide)) (by rfl) G__law_shapes.g G__law_shapes.F.kp G__law_shapes.b .nil pass0 (pa_cons (pv 1) pa_nil)) (po_some (pe_call H__law_draw (hr.mono (by decide)) (by rfl) G__law_draw.g G__law_draw.F.kp G__law_draw.b .nil pass0 (pa_cons (pv 1) (pa_cons pe_int pa_nil)))) po_none) (pa_cons (pe_call H__law_sizes (hr.mono (by decide)) (by rfl) G__law_sizes.g G__law_sizes.F.kp G__law_sizes.b .nil pass0 (pa_cons (pv 1) pa_nil)) pa_nil)) (by rfl))
      (C8.pss_cut (ps_if (pt_cmpR op_eq (pe_call H__law_draw (hr.mono (by decide)) (by rfl) G__law_draw.g G__law_draw.F.kp G__law_draw.b .nil pass0 (pa_cons (pv 1) (pa_cons pe_int pa_nil))) pe_int (nomark _))
        (pss_one (ps_set (i := 3) sc_law.nd rfl (Or.inl rfl) (pe_tup (pa_cons pe_int (pa_cons (pe_call H__law_one (hr.mono (by decide)) (by rfl) G__law_one.g G__law_one.F.kp G__law_one.b .nil pass0 (pa_cons (pv 1) (pa_cons (pe_lst (pa_cons pe_int (pa_cons pe_int (pa_cons pe_int pa_nil)))) pa_nil))) (pa_cons pe_int (pa_cons (pe_ix ix_tup (pv 3) pe_int (fun _ _ => rfl)) pa_nil))))))) pss_nil)
      (pss_cons (ps_set (i := 4) sc_law.nd rfl (Or.inl rfl) (pe_make K_Heap H_Heap___init__ (hr.mono (by decide)) (by rfl) X.g_Heap b_Heap___init__ .nil pass0 (pa_cons (pv 2) (pa_cons (pv 3) pa_nil))))
      (pss_cons (ps_set (i := 5) sc_law.nd rfl (Or.inl rfl) (pe_disp (pps_cons pe_str (pe_lst (pa_cons (pe_lst pa_nil) (pa_cons (pe_lst pa_nil) (pa_cons (pe_lst pa_nil) pa_nil)))) (pps_cons pe_str (pe_lst pa_nil) (pps_cons pe_str pe_int (pps_cons pe_str pe_int pps_nil)))) (by rfl) (by rfl) (fun z => by cases z) (by decide)))
      (pss_cons (ps_set (i := 6) sc_law.nd rfl (Or.inl rfl) (pe_callB (call_max2 rfl) (by rfl) X.b_max (by decide +kernel) (pa_cons pe_int (pa_cons (pe_op op_sub (pe_callB (call_min2 rfl) (by rfl) X.b_min (by decide +kernel) (pa_cons pe_int (pa_cons (pe_callB call_len (by rfl) X.b_len PySem.boot_len (pa_cons (pv 0) pa_nil)) pa_nil))) pe_int) pa_nil))))
      (pss_cons (ps_for PassesOwn.never rfl (pi_range2 (by rfl) X.b_range (pa_cons pe_int (pa_cons (pe_op op_add pe_int (pv 6)) pa_nil))) (pg_name (i := 7) sc_law.nd rfl (Or.inl rfl))
        (pss_cons (ps_set (i := 1) sc_law.nd rfl (Or.inl rfl) (pe_call H__law_feed (hr.mono (by decide)) (by rfl) G__law_feed.g G__law_feed.F.kp G__law_feed.b .nil pass0 (pa_cons (pv 0) (pa_cons (pv 7) pa_nil))))
      (pss_one (ps_for PassesOwn.never rfl (pi_range1 (by rfl) X.b_range (pa_cons (pe_op op_add pe_int (pe_call H__law_draw (hr.mono (by decide)) (by rfl) G__law_draw.g G__law_draw.F.kp G__law_draw.b .nil pass0 (pa_cons (pv 1) (pa_cons (pe_callB (call_max2 rfl) (by rfl) X.b_max (by decide +kernel) (pa_cons pe_int (pa_cons (pe_op op_fdiv pe_int (pv 6)) pa_nil))) pa_nil)))) pa_nil)) (pg_name (i := 8) sc_law.nd rfl (Or.inl rfl))
        (pss_one (ps_if (PW.pt (pw_or (pt_not (pt_val (pe_call H__law_deed hr (by rfl) G__law_deed.g G__law_deed.F.kp G__law_deed.b .nil pass0 (pa_cons (pv 1) (pa_cons (pv 4) (pa_cons (pv 5) (pa_cons (pv 3) pa_nil))))))) (pw_or1 (pt_not (pt_val (pe_call H__law_same (hr.mono (by decide)) (by rfl) G__law_same.g G__law_same.F.kp G__law_same.b .nil pass0 (pa_cons (pe_meth0 (pv 4) X.cl_Heap M_Heap_picture.m H_Heap_picture (hr.mono (by decide)) M_Heap_picture.b .nil pass0) (pa_cons (pe_call H__law_picture (hr.mono (by decide)) (by rfl) G__law_picture.g G__law_picture.F.kp G__law_picture.b .nil pass0 (pa_cons (pv 5) pa_nil)) pa_nil))))))))
        (pss_one (ps_ret pe_bl)) pss_nil))))))
      (pss_one (ps_ret pe_bl))))))))), ?_⟩
    refine ⟨_, rfl, ps, ns, 0, rfl, hS, by decide, fun p H1 np S1 F1 => ?_⟩
    refine ⟨fun σ' H' => ∃ (aS aZ : Addr) (sh : List (List Bool)) (c : Sz) (m : Nat), σ' = [some (.ref ps), some (.ref p), some (.ref aS), some (.ref aZ), none, none, none, none, none] ∧ Dv H' (.ref aS) (shPy sh) ∧ szT H' aZ c ∧ szOk c ∧ c.1 ≤ 300 ∧ c.2.2.1 ≤ 60 ∧ sh.length ≤ 60 ∧ (∀ r ∈ sh, r.length ≤ 100) ∧ KeptL [p] H1 H' ∧ FeedAt H' p m ∧ m ≤ 2000, ?_, ?_⟩
    · refine ⟨_, rfl, p, 0, rfl, F1, by decide, fun aT ts sh m1 H2 k2 F2 hm1 hT hTs s1 s3 h100 => ?_⟩
      refine ⟨_, rfl, p, 2, m1, rfl, F2, by omega, by decide, by decide, fun r H3 r0 r1 k3 F3 => ⟨_, rfl, ?_⟩⟩
      obtain ⟨r, rfl⟩ := Int.eq_ofNat_of_zero_le r0
      have nf : ∀ b ∈ [p], ∀ xs, H2 b ≠ some (.tup xs) := fun b hb xs e => by
        rw [List.mem_singleton] at hb
        subst hb
        obtain ⟨x, y, z, e2, _⟩ := F2
        rw [e] at e2
        cases e2
      have hT3 := k3 _ _ (fun z => nf _ z _ hT) hT
      have hTs3 := hTs.kept k3 nf
      have k23 := k2.trans k3
      have lts : (ts.map V.ref).length = sh.length := by rw [List.length_map]; exact hTs.1
      refine ⟨aT, _, rfl, SqT.of hT3, fun hc => ?_, fun hc b nb => ?_⟩
      · refine ⟨_, rfl, p, m1 + 1, rfl, F3, by omega, fun u c m' H5 k5 F5 hm' du hc c1 c2 => ⟨_, _, rfl, ?_⟩⟩
        obtain ⟨aZ, rfl, hz⟩ := szPy_at du
        exact ⟨aT, aZ, sh, c, m', rfl, (tupsDv hT3 (by omega) h100 hTs3).same (feed_tups k5 F3), hz, hc, c1, c2, by omega, h100, k23.trans k5, F5, by omega⟩
      · have Sb := same_new (o := .tup (cutV (ts.map V.ref) (some (r : Int)) none)) nb
        have hb : upd H3 b (.tup (cutV (ts.map V.ref) (some (r : Int)) none)) b = some (.tup ((ts.drop r).map V.ref)) := by
          rw [upd_same, cut_from (by omega), List.map_drop]
        refine ⟨_, rfl, p, m1 + 1, rfl, feedS F3 Sb, by omega, fun u c m' H5 k5 F5 hm' du hc c1 c2 => ⟨_, _, rfl, ?_⟩⟩
        obtain ⟨aZ, rfl, hz⟩ := szPy_at du
        have dl : ∀ x ∈ sh.drop r, x.length ≤ 100 := fun x hx => h100 x (List.mem_of_mem_drop hx)
        exact ⟨b, aZ, sh.drop r, c, m', rfl, (tupsDv hb (by rw [List.length_drop]; omega) dl ((hTs3.kept (KeptL.of_same (l := []) Sb) (fun b h => nomatch h)).drop r)).same (feed_tups k5 (feedS F3 Sb)), hz, hc, c1, c2, by rw [List.length_drop]; omega, dl, (k23.trans (KeptL.of_same Sb)).trans k5, F5, by omega⟩
    rintro _ H2 ⟨aS, aZ0, sh, c0, m0, rfl, dS, hz0, hc0, c01, c02, h60, h100, k2, F2, hm0⟩
    refine ⟨fun σ' H' => ∃ (aZ : Addr) (c : Sz) (m : Nat), σ' = [some (.ref ps), some (.ref p), some (.ref aS), some (.ref aZ), none, none, none, none, none] ∧ Dv H' (.ref aS) (shPy sh) ∧ szT H' aZ c ∧ szOk c ∧ c.1 ≤ 300 ∧ c.2.2.1 ≤ 60 ∧ KeptL [p] H1 H' ∧ FeedAt H' p m, ?_, ?_⟩
    · refine ⟨_, rfl, p, 4, m0, rfl, F2, by omega, by decide, by decide, fun r H3 r0 r1 k3 F3 => ⟨rfl, _, rfl, ite2 (fun _ => ?_) (fun _ => ?_)⟩⟩
      · refine ⟨_, rfl, by show 3 ≤ sizeLine; decide, fun L nL => ?_⟩
        refine one_new (E := E0) F3 (by omega) (by simp) (by simp) (fun x H4 hx k4 F4 => ?_) L nL
        obtain ⟨x, rfl, ix⟩ := in_nat (L := [4096, 200, 90]) hx
        have zn : ∀ {H : Hp} {n : Nat}, FeedAt H p n → szT H aZ0 c0 → aZ0 ∉ [p] := fun {H n} F hz z => by
          obtain ⟨x, y, z2, e2, _⟩ := F
          unfold szT at hz
          rw [List.mem_singleton.mp z, e2] at hz
          cases hz
        have hz3 := k3 _ _ (zn F2 hz0) hz0
        have hz4 : szT H4 aZ0 c0 := k4 _ _ (zn F3 hz3) hz3
        refine ⟨_, rfl, aZ0, _, 3, _, rfl, rfl, SqT.of hz4, rfl, by show 4 ≤ sizeLine; decide, fun b nb => ?_⟩
        have dx : ∀ x ∈ ([4096, 200, 90] : List Nat), x ≤ 4096 := by decide
        have hx := dx x ix
        obtain ⟨z1, z2, z3, z4, z5, z6, z7⟩ := hc0
        refine ⟨b, (300, x, 60, c0.2.2.2), _, rfl, ?_, upd_same, ⟨by show 16 ≤ 300; omega, by show 300 ≤ 4096; omega, hx, by show 4 ≤ 60; omega, by show 60 ≤ 300; omega, z6, z7⟩, Nat.le_refl _, Nat.le_refl _, ((k2.trans k3).trans k4).trans (KeptL.of_same (same_new nb)), feed_new F4 nb⟩
        exact ((dS.same (feed_tups k3 F2)).same (feed_tups k4 F3)).same (TupSame.of (same_new nb))
      · have zn : aZ0 ∉ [p] := fun z => by
          obtain ⟨x, y, z2, e2, _⟩ := F2
          unfold szT at hz0
          rw [List.mem_singleton.mp z, e2] at hz0
          cases hz0
        exact ⟨aZ0, c0, _, rfl, dS.same (feed_tups k3 F2), k3 _ _ zn hz0, hc0, c01, c02, k2.trans k3, F3⟩
    rintro _ H3 ⟨aZ, c, m3, rfl, dS3, hz3, hc, c1, c2, k3, F3⟩
    have S3 : Same H H3 := fun b o e => k3 _ _ (by rw [List.mem_singleton]; exact ne_of_none e np) (S1 _ _ e)
    clear k2 F2 dS hz0 hc0 c01 c02 hm0
    refine ⟨_, rfl, _, rfl, fun hp d1 nh1 nd1 ne1 => ?_⟩
    have SA : Same H3 (upd (upd H3 d1 (.own hp)) hp (.ins C_Heap d1 [])) := same_at nh1 (same_new nd1)
    have dZ3 : Dv H3 (.ref aZ) (szPy c) := szPy_mk hz3
    refine ⟨hp, d1, aS, aZ, c, sh, rfl, upd_same, dS3.same (TupSame.of SA), dZ3.same (TupSame.of SA), hc, h60, h100, fun a H5 hh5 own5 k5 => ⟨rfl, ?_⟩⟩
    have S5 : Same H3 H5 := fun b o e => k5 _ _ (by rw [List.mem_singleton]; exact ne_of_none e nh1) (SA _ _ e)
    have F5 := feedS F3 S5
    intro aD nD
    have SD := same_new (o := .dK []) nD
    have hD0 : upd H5 aD (.dK []) aD = some (.dK []) := upd_same
    refine ⟨Nat.zero_le _, fun l0 n0 => ⟨Nat.zero_le _, fun l1 n1 => ⟨Nat.zero_le _, fun l2 n2 => ⟨by show 3 ≤ sizeLine; decide, fun aR nR => ⟨Nat.zero_le _, fun aH nH => ?_⟩⟩⟩⟩⟩
    have T0 := same_new (o := .lst []) n0
    have T1 := same_new (o := .lst []) n1
    have T2 := same_new (o := .lst []) n2
    have T3 := same_new (o := .lst [.ref l0, .ref l1, .ref l2]) nR
    have T4 := same_new (o := .lst []) nH
    have h0 := T4 _ _ (T3 _ _ (T2 _ _ (T1 _ _ (upd_same (H := upd H5 aD (.dK [])) (a := l0) (o := .lst [])))))
    have TT := (((T0.trans T1).trans T2).trans T3).trans T4
    have f0 := SD.free n0
    have f1 := (SD.trans T0).free n1
    have f2 := ((SD.trans T0).trans T1).free n2
    have fR := (((SD.trans T0).trans T1).trans T2).free nR
    have fH := ((((SD.trans T0).trans T1).trans T2).trans T3).free nH
    refine ⟨TT _ _ hD0, stK aR aH 0 0, rfl, by show 4 ≤ 15; decide, ?_⟩
    obtain ⟨HB, gB⟩ : ∃ G : Hp, G = upd (upd (upd (upd (upd (upd H5 aD (.dK [])) l0 (.lst [])) l1 (.lst [])) l2 (.lst [])) aR (.lst [.ref l0, .ref l1, .ref l2])) aH (.lst []) := ⟨_, rfl⟩
    rw [← gB] at TT h0
    have h1 : HB l1 = some (.lst []) := by rw [gB]; exact T4 _ _ (T3 _ _ (T2 _ _ upd_same))
    have h2 : HB l2 = some (.lst []) := by rw [gB]; exact T4 _ _ (T3 _ _ upd_same)
    have hR : HB aR = some (.lst [.ref l0, .ref l1, .ref l2]) := by rw [gB]; exact T4 _ _ upd_same
    have hH : HB aH = some (.lst []) := by rw [gB, upd_same]
    have hDB : HB aD = some (.dK []) := TT _ _ hD0
    obtain ⟨H6, g6⟩ : ∃ G : Hp, G = upd HB aD (.dK (mergeK [] (stK aR aH 0 0))) := ⟨_, rfl⟩
    refine at_nx (B := H6) (by rw [g6, gB]) ?_
    have hD6 : H6 aD = some (.dK (stK aR aH 0 0)) := by rw [g6, upd_same]; rfl
    have S6 : Same H5 H6 := by rw [g6]; exact same_at nD (SD.trans TT)
    have up : ∀ {y : Addr} {xs : List V}, HB y = some (.lst xs) → H6 y = some (.lst xs) := fun {y xs} e => by
      rw [g6, upd_ne (ne_of e hDB (by intro z; cases z))]
      exact e
    have fo : ∀ y ∈ [aD, aR, l0, l1, l2, aH], H5 y = none := fun y hy => by
      simp only [List.mem_cons, List.not_mem_nil, or_false] at hy
      rcases hy with rfl | rfl | rfl | rfl | rfl | rfl <;> assumption
    obtain ⟨zz, hz1, hz2⟩ : ∃ z : Option (Addr × HO), (∀ Z zs, z = some (Z, zs) → Z = ps ∧ H ps = some zs) ∧ ∀ H' : Hp, (∀ Z zs, z = some (Z, zs) → H' Z = some zs) → SqL K H' ps (ns.map V.int) := by
      rcases hS with (h | ⟨o, h⟩) | h
      · exact ⟨some (ps, _), fun Z zs e => by injection e with e; injection e with e1 e2; subst e1; subst e2; exact ⟨rfl, h⟩, fun H' k => .inl (.inl (k _ _ rfl))⟩
      · exact ⟨some (ps, _), fun Z zs e => by injection e with e; injection e with e1 e2; subst e1; subst e2; exact ⟨rfl, h⟩, fun H' k => .inl (.inr ⟨o, k _ _ rfl⟩)⟩
      · exact ⟨none, fun Z zs e => (nomatch e), fun H' _ => .inr h⟩
    have L6 : LwAt H6 p aZ m3 c ⟨fun _ => aD, fun _ => aD, zz⟩ A0 aD aR l0 l1 l2 aH [] 0 a := by
      refine ⟨⟨hD6, ⟨up hR, up h0, up h1, up h2, fun n hn => (nomatch hn), fun n hn => (nomatch hn)⟩, up hH⟩, S6 _ _ (S5 _ _ hz3), feedS F5 S6, fun y hy => ?_, ?_, fun n hn => (nomatch hn), fun Z zs ez => ?_⟩
      · refine free_no F5 hh5 (fo y ?_)
        simpa [adrs, A0, AM.all] using hy
      · intro z
        have := own5 p z
        obtain ⟨x, y, z2, e2, _⟩ := F3
        rw [SA _ _ e2] at this
        cases this
      · obtain ⟨rfl, hz⟩ := hz1 Z zs ez
        refine ⟨((S3.trans S5).trans S6) _ _ hz, fun z => ?_, ne_of_none hz np, fun z => ?_⟩
        · have := own5 _ z
          rw [SA _ _ (S3 _ _ hz)] at this
          cases this
        · have := fo Z (by simpa [adrs, A0, AM.all] using z)
          rw [S5 _ _ (S3 _ _ hz)] at this
          cases this
    have hh6 := hh5.same S6
    have V6 : LvP c A0 [] 0 := ⟨⟨fun n hn => (nomatch hn), rfl, rfl, fun n hn => (nomatch hn)⟩, .nil, by decide, fun n hn => (nomatch hn), fun n hn => (nomatch hn), Nat.zero_le _, c1, c2⟩
    have R6 := Rep.init hc h60 h100
    have hS6 := hz2 H6 fun Z zs ez => (L6.kz Z zs ez).1
    refine ⟨_, rfl, .ref ps, _, rfl, .inl ⟨_, hS6, rfl⟩, _, _, rfl, _, _, rfl, rfl, _, _, rfl, ?_⟩
    rw [List.length_map]
    obtain ⟨N, eN, n3, n62⟩ : ∃ N : Nat, (if (if ((ns.length : Nat) : Int) < 63 then ((ns.length : Nat) : Int) else 63) - 1 > 3 then (if ((ns.length : Nat) : Int) < 63 then ((ns.length : Nat) : Int) else 63) - 1 else 3) = (N : Int) ∧ 3 ≤ N ∧ N ≤ 62 := by
      refine ⟨(if (if ((ns.length : Nat) : Int) < 63 then ((ns.length : Nat) : Int) else 63) - 1 > 3 then (if ((ns.length : Nat) : Int) < 63 then ((ns.length : Nat) : Int) else 63) - 1 else 3).toNat, ?_, ?_, ?_⟩
      · split <;> split <;> omega
      · split <;> split <;> omega
      · split <;> split <;> omega
    rw [eN]
    obtain ⟨M, eM, m2, mN⟩ : ∃ M : Nat, (if (100 : Int) / (N : Int) > 2 then (100 : Int) / (N : Int) else 2) = (M : Int) ∧ 2 ≤ M ∧ N * M ≤ 124 := by
      have e : (100 : Int) / (N : Int) = ((100 / N : Nat) : Int) := by rw [Int.natCast_ediv]; rfl
      have h : N * (100 / N) ≤ 100 := Nat.mul_div_le 100 N
      rw [e]
      by_cases hc : ((100 / N : Nat) : Int) > 2
      · exact ⟨100 / N, if_pos hc, by omega, by omega⟩
      · exact ⟨2, if_neg hc, Nat.le_refl _, by omega⟩
    have mM : M ≤ 124 := Nat.le_trans (Nat.le_mul_of_pos_left M (by omega : 0 < N)) mN
    refine ⟨_, rfl, _, _, rfl, rfl, _, _, rfl, ⟨by decide, by decide, by omega, by omega⟩, ?_⟩
    have tN : ((1 : Int) + (N : Int) - 1).toNat = N := by omega
    rw [tN]
    refine for_range (lo := 1) (n := N) (fun i σ H' => ∃ (p : Addr) (s : Ms) (pl : Nat → Nat) (g : Gh) (A : AM) (aR l0 l1 l2 aH : Addr) (held : List Nat) (many : Nat) (a : Ma) (fn : Nat) (o7 o8 : Option V), σ = [some (.ref ps), some (.ref p), some (.ref aS), some (.ref aZ), some (.ref hp), some (.ref aD), some (.int N), o7, o8] ∧ HpAt C_Heap C_Memory H' hp a c sh s ∧ Rep c sh s A pl ∧ LwAt H' p aZ fn c g A aD aR l0 l1 l2 aH held many a ∧ LvP c A held many ∧ many ≤ i * M ∧ g.z = zz) ⟨p, _, _, _, _, _, _, _, _, _, _, _, _, _, _, _, rfl, hh6, R6, L6, V6, Nat.zero_le _, rfl⟩ ?_ ?_
    · rintro i σ H7 hi ⟨p, s, pl, g, A, aR, l0, l1, l2, aH, held, many, a, fn, o7, o8, rfl, hh7, R7, L7, V7, hmany, hgz⟩
      have hS7 := hz2 H7 fun Z zs ez => (L7.kz Z zs (hgz.trans ez)).1
      have ei : (1 : Int) + (i : Int) = ((i + 1 : Nat) : Int) := by omega
      rw [ei]
      refine ⟨_, rfl, _, rfl, ps, ns, i + 1, rfl, hS7, by omega, fun p8 H8 np8 S8 F8 => ?_⟩
      have L8 := L7.refeed hh7 S8 np8 F8
      have hh8 := hh7.same S8
      refine ⟨_, rfl, _, rfl, _, _, rfl, rfl, by show 0 < (N : Int) ∧ (N : Int) < 1073741824; omega, _, _, rfl, p8, (M : Int), 0, ?_, F8, by decide, by omega, by omega, fun t H9 t0 t1 k9 F9 => ⟨_, _, rfl, rfl, ?_⟩⟩
      · rw [← eM]; rfl
      obtain ⟨t, rfl⟩ := Int.eq_ofNat_of_zero_le t0
      have L9 := L8.feed k9 F9
      have hh9 := hh8.keptX k9 (feed_lst L8.fd L8.po)
      refine ⟨_, rfl, by omega, by omega, ?_⟩
      have hiM : (i + 1) * M ≤ N * M := Nat.mul_le_mul_right M hi
      have eiM : (i + 1) * M = i * M + M := Nat.succ_mul i M
      have tt : ((1 : Int) + (t : Int)).toNat = t + 1 := by omega
      rw [tt]
      refine for_range (lo := 0) (n := t + 1) (fun j σ H' => ∃ (s : Ms) (pl : Nat → Nat) (g : Gh) (A : AM) (aR l0 l1 l2 aH : Addr) (held : List Nat) (many : Nat) (a : Ma) (fn : Nat) (o8 : Option V), σ = [some (.ref ps), some (.ref p8), some (.ref aS), some (.ref aZ), some (.ref hp), some (.ref aD), some (.int N), some (.int ((i + 1 : Nat) : Int)), o8] ∧ HpAt C_Heap C_Memory H' hp a c sh s ∧ Rep c sh s A pl ∧ LwAt H' p8 aZ fn c g A aD aR l0 l1 l2 aH held many a ∧ LvP c A held many ∧ many ≤ i * M + j ∧ g.z = zz ∧ fn ≤ 1 + 200 * j) ⟨_, _, _, _, _, _, _, _, _, _, _, _, _, _, rfl, hh9, R7, L9, V7, hmany, hgz, Nat.le_refl _⟩ ?_ ?_
      · rintro j σ HA hj ⟨s, pl, g, A, aR, l0, l1, l2, aH, held, many, a, fn, o8, rfl, hhA, RA, LA, VA, hmA, hgA, hfn⟩
        refine ⟨_, rfl, _, rfl, _, rfl, _, rfl, p8, hp, aZ, fn, c, sh, s, pl, g, A, aD, aR, l0, l1, l2, aH, held, many, a, rfl, hhA, RA, LA, VA, by omega, by omega, fun s pl g A aR l0 l1 l2 aH held many' a fn' HB hhB RB LB VB hfB hmB hgB => ?_⟩
        refine ⟨true, rfl, iteF ?_⟩
        obtain ⟨dxB, hdB⟩ := hhB.at_
        obtain ⟨n0, g0, g1, g2⟩ := RB.ln
        obtain ⟨n1, q0, q1, q2⟩ := RB.lh
        have l0e := g1.len
        have l1e := q1.len
        have w2 := RB.w2
        obtain ⟨f1, f2, _⟩ := hfirst_eq (c := c) w2
        have foe : c.fo = c.1 + 2 * c.2.1 + 1 := rfl
        obtain ⟨y1, y2, y3, y4, y5, y6, y7⟩ := hc
        have wl := RB.wl
        have wsB := VB.ws
        have wA : wsum A.ob A.all = wsum A.ob A.nur + wsum A.ob A.hlf + wsum A.ob A.old := by unfold AM.all; rw [wsum_app, wsum_app]
        have wO := wsum_len A.ob A.old
        have gl : s.grey.length ≤ A.old.length := Nat.le_trans RB.gb (List.length_filter_le _ _)
        have remE := plain_rem RB VB.pn
        obtain ⟨p1, p2, p3⟩ := pic_ok RB
        rw [plain_words VB.pn sh pl fun n hn => mem_all.mpr (.inl (List.mem_append_left _ hn))] at p1
        rw [plain_words VB.pn sh pl fun n hn => mem_all.mpr (.inl (List.mem_append_right _ hn))] at p2
        rw [plain_words VB.pn sh pl fun n hn => mem_all.mpr (.inr hn)] at p3
        refine ⟨_, rfl, hp, dxB, HpF a, rfl, hdB, hpF_no (by decide), hp, n0, n1, a, c, sh, s, rfl, hhB, by rw [RB.hf]; exact w2, g0, by omega, by omega, by rw [RB.hf]; exact q0, by rw [RB.hf]; show hfirst c A.which ≤ n1; omega, by omega, by omega, by omega, by rw [remE]; exact Nat.zero_le _, by omega, RB.gd, fun b nsr HC pm pw SC dq => ?_⟩
        have ens : nsr = [] := by rw [remE] at pm; exact List.perm_nil.mp pm
        subst ens
        have eg : (s.grey.drop s.done).map (fun (n : Nat) => (n : Int)) = [] := by rw [RB.gr, VB.pn.gy]; rfl
        rw [p1, p2, p3, eg, RB.hf, RB.mrk, VB.pn.nm] at dq
        have LC := LB.same SC
        refine ⟨_, rfl, aD, aR, l0, l1, l2, aH, g, A, held, many', rfl, LC.st, by omega, fun b2 HD SD2 d2 => ?_⟩
        refine ⟨.ref b, .ref b2, _, rfl, dq.same (TupSame.of SD2), d2, pic_sm _ _ _ _ _, _, rfl, iteF ?_⟩
        exact ⟨s, pl, g, A, aR, l0, l1, l2, aH, held, many', a, fn', _, rfl, (hhB.same SC).same SD2, RB, LC.same SD2, VB, by omega, hgB.trans hgA, by omega⟩
      · rintro σ HA ⟨s, pl, g, A, aR, l0, l1, l2, aH, held, many, a, fn, o8, rfl, hhA, RA, LA, VA, hmA, hgA, hfn⟩
        exact ⟨p8, s, pl, g, A, aR, l0, l1, l2, aH, held, many, a, fn, _, _, rfl, hhA, RA, LA, VA, by omega, hgA⟩
    · rintro σ H' ⟨p, s, pl, g, A, aR, l0, l1, l2, aH, held, many, a, fn, o7, o8, rfl, _⟩
      exact q _
end
end PH

/-! The facts. -/
namespace HX
open PySem PySem.Spec PyProof.Rows L2 PV T KA KK PH
open He (Fa FnD ga ma)
theorem fun_of {K : PySem.W.Frag} (ce : He.SaysE fa fn K) (i : Nat) {p : Str × Option Str} {x q : Str} {st : Stmt} (h : fn[i]? = some ⟨p, x, q, defArgs st, defBody st, defScope st⟩) (kp : PySem.W.keepIn K (.ref (He.fAd K p)) = true) : ∃ fd, L2.Fun K x q st (He.fAd K p) fd := by
  obtain ⟨oc, od, osl, kV, doc, pm, an, cdv, ct, e1, e2⟩ := ce.def_ i h
  exact ⟨_, ⟨oc, od, kV, doc, pm, an, cdv, ct, osl, rfl, e1, e2⟩, kp⟩
theorem lw {w : World} {K : PySem.W.Frag} {h : Heap} {mg : Str → Option Value} (X : K.In h) (G : h.Ns mainGlobals mg) (c : Says w K) : KK.Lw K mg (ga K "Moving") (ga K "Memory") (ga K "Heap") := by
  have ce : He.SaysE fa fn K := c
  have g : ∀ x, (Fa.glo x).ok K = true → mg x = some (.ref (ga K x)) := fun x c => He.glo_ok X G c
  have z_bool : mg "bool" = none := He.free_ok X G (ce.fact 69 rfl)
  have z_enumerate : mg "enumerate" = none := He.free_ok X G (ce.fact 70 rfl)
  have z_int : mg "int" = none := He.free_ok X G (ce.fact 71 rfl)
  have z_isinstance : mg "isinstance" = none := He.free_ok X G (ce.fact 72 rfl)
  have z_len : mg "len" = none := He.free_ok X G (ce.fact 73 rfl)
  have z_list : mg "list" = none := He.free_ok X G (ce.fact 74 rfl)
  have z_max : mg "max" = none := He.free_ok X G (ce.fact 75 rfl)
  have z_min : mg "min" = none := He.free_ok X G (ce.fact 76 rfl)
  have z_range : mg "range" = none := He.free_ok X G (ce.fact 77 rfl)
  have z_sorted : mg "sorted" = none := He.free_ok X G (ce.fact 78 rfl)
  have z_str : mg "str" = none := He.free_ok X G (ce.fact 79 rfl)
  have z_sum : mg "sum" = none := He.free_ok X G (ce.fact 80 rfl)
  have z_tuple : mg "tuple" = none := He.free_ok X G (ce.fact 81 rfl)
  have i_LEAST_INT : ∃ t, mg "LEAST_INT" = some (.int (-2147483648) t) := He.int_ok X G (ce.fact 82 rfl)
  have i_GREATEST_INT : ∃ t, mg "GREATEST_INT" = some (.int (2147483647) t) := He.int_ok X G (ce.fact 83 rfl)
  have i_MOST_ENTRIES : ∃ t, mg "MOST_ENTRIES" = some (.int (1000) t) := He.int_ok X G (ce.fact 84 rfl)
  have i_LINK_ROW : ∃ t, mg "LINK_ROW" = some (.int (-2) t) := He.int_ok X G (ce.fact 85 rfl)
  have i_SIGNS : ∃ t, mg "SIGNS" = some (.int (-3) t) := He.int_ok X G (ce.fact 86 rfl)
  have i_WHITE : ∃ t, mg "WHITE" = some (.int (0) t) := He.int_ok X G (ce.fact 87 rfl)
  have i_GREY : ∃ t, mg "GREY" = some (.int (1) t) := He.int_ok X G (ce.fact 88 rfl)
  have i_BLACK : ∃ t, mg "BLACK" = some (.int (2) t) := He.int_ok X G (ce.fact 89 rfl)
  have i_HEAD_WORDS : ∃ t, mg "HEAD_WORDS" = some (.int (2) t) := He.int_ok X G (ce.fact 90 rfl)
  have i_MOST_SHAPES : ∃ t, mg "MOST_SHAPES" = some (.int (60) t) := He.int_ok X G (ce.fact 91 rfl)
  have i_MOST_SHAPE_FIELDS : ∃ t, mg "MOST_SHAPE_FIELDS" = some (.int (100) t) := He.int_ok X G (ce.fact 92 rfl)
  have i_LEAST_NURSERY : ∃ t, mg "LEAST_NURSERY" = some (.int (16) t) := He.int_ok X G (ce.fact 93 rfl)
  have i_MOST_ROOM : ∃ t, mg "MOST_ROOM" = some (.int (4096) t) := He.int_ok X G (ce.fact 94 rfl)
  have i_LEAST_GREAT : ∃ t, mg "LEAST_GREAT" = some (.int (4) t) := He.int_ok X G (ce.fact 95 rfl)
  have i_MOST_AGE : ∃ t, mg "MOST_AGE" = some (.int (7) t) := He.int_ok X G (ce.fact 96 rfl)
  have i_MOST_ROOTS : ∃ t, mg "MOST_ROOTS" = some (.int (40000) t) := He.int_ok X G (ce.fact 97 rfl)
  have g_Moving := g "Moving" (ce.fact 66 rfl)
  have g_Memory := g "Memory" (ce.fact 67 rfl)
  have g_Heap := g "Heap" (ce.fact 68 rfl)
  have d__wall : ∃ f fd, Gd K mg "_wall" s__wall ["k"] f fd := by
    obtain ⟨fd, F⟩ := fun_of ce 0 (st := s__wall) rfl (He.keep_ok (x := "_wall") (ce.fact 1 rfl))
    exact ⟨_, fd, F, g "_wall" (ce.fact 0 rfl), F.binds (ps := ["k"]) fun _ _ _ _ _ _ us hl => match us, hl with | [_], _ => rfl⟩
  have d_is_integer : ∃ f fd, Gd K mg "is_integer" s_is_integer ["thing"] f fd := by
    obtain ⟨fd, F⟩ := fun_of ce 1 (st := s_is_integer) rfl (He.keep_ok (x := "is_integer") (ce.fact 3 rfl))
    exact ⟨_, fd, F, g "is_integer" (ce.fact 2 rfl), F.binds (ps := ["thing"]) fun _ _ _ _ _ _ us hl => match us, hl with | [_], _ => rfl⟩
  have d_is_between : ∃ f fd, Gd K mg "is_between" s_is_between ["thing", "least", "greatest"] f fd := by
    obtain ⟨fd, F⟩ := fun_of ce 2 (st := s_is_between) rfl (He.keep_ok (x := "is_between") (ce.fact 5 rfl))
    exact ⟨_, fd, F, g "is_between" (ce.fact 4 rfl), F.binds (ps := ["thing", "least", "greatest"]) fun _ _ _ _ _ _ us hl => match us, hl with | [_, _, _], _ => rfl⟩
  have d_is_tuple_to : ∃ f fd, Gd K mg "is_tuple_to" s_is_tuple_to ["thing", "most"] f fd := by
    obtain ⟨fd, F⟩ := fun_of ce 3 (st := s_is_tuple_to) rfl (He.keep_ok (x := "is_tuple_to") (ce.fact 7 rfl))
    exact ⟨_, fd, F, g "is_tuple_to" (ce.fact 6 rfl), F.binds (ps := ["thing", "most"]) fun _ _ _ _ _ _ us hl => match us, hl with | [_, _], _ => rfl⟩
  have d_is_tuple_of : ∃ f fd, Gd K mg "is_tuple_of" s_is_tuple_of ["thing", "many"] f fd := by
    obtain ⟨fd, F⟩ := fun_of ce 4 (st := s_is_tuple_of) rfl (He.keep_ok (x := "is_tuple_of") (ce.fact 9 rfl))
    exact ⟨_, fd, F, g "is_tuple_of" (ce.fact 8 rfl), F.binds (ps := ["thing", "many"]) fun _ _ _ _ _ _ us hl => match us, hl with | [_, _], _ => rfl⟩
  have d_look_at_shapes : ∃ f fd, Gd K mg "look_at_shapes" s_look_at_shapes ["shapes"] f fd := by
    obtain ⟨fd, F⟩ := fun_of ce 5 (st := s_look_at_shapes) rfl (He.keep_ok (x := "look_at_shapes") (ce.fact 11 rfl))
    exact ⟨_, fd, F, g "look_at_shapes" (ce.fact 10 rfl), F.binds (ps := ["shapes"]) fun _ _ _ _ _ _ us hl => match us, hl with | [_], _ => rfl⟩
  have d_look_at_sizes : ∃ f fd, Gd K mg "look_at_sizes" s_look_at_sizes ["sizes"] f fd := by
    obtain ⟨fd, F⟩ := fun_of ce 6 (st := s_look_at_sizes) rfl (He.keep_ok (x := "look_at_sizes") (ce.fact 13 rfl))
    exact ⟨_, fd, F, g "look_at_sizes" (ce.fact 12 rfl), F.binds (ps := ["sizes"]) fun _ _ _ _ _ _ us hl => match us, hl with | [_], _ => rfl⟩
  have d_look_at_kind : ∃ f fd, Gd K mg "look_at_kind" s_look_at_kind ["shapes", "kind"] f fd := by
    obtain ⟨fd, F⟩ := fun_of ce 7 (st := s_look_at_kind) rfl (He.keep_ok (x := "look_at_kind") (ce.fact 15 rfl))
    exact ⟨_, fd, F, g "look_at_kind" (ce.fact 14 rfl), F.binds (ps := ["shapes", "kind"]) fun _ _ _ _ _ _ us hl => match us, hl with | [_, _], _ => rfl⟩
  have d_look_at_size : ∃ f fd, Gd K mg "look_at_size" s_look_at_size ["shapes", "kind", "slots"] f fd := by
    obtain ⟨fd, F⟩ := fun_of ce 8 (st := s_look_at_size) rfl (He.keep_ok (x := "look_at_size") (ce.fact 17 rfl))
    exact ⟨_, fd, F, g "look_at_size" (ce.fact 16 rfl), F.binds (ps := ["shapes", "kind", "slots"]) fun _ _ _ _ _ _ us hl => match us, hl with | [_, _, _], _ => rfl⟩
  have d_is_size : ∃ f fd, Gd K mg "is_size" s_is_size ["shapes", "kind", "slots"] f fd := by
    obtain ⟨fd, F⟩ := fun_of ce 9 (st := s_is_size) rfl (He.keep_ok (x := "is_size") (ce.fact 19 rfl))
    exact ⟨_, fd, F, g "is_size" (ce.fact 18 rfl), F.binds (ps := ["shapes", "kind", "slots"]) fun _ _ _ _ _ _ us hl => match us, hl with | [_, _, _], _ => rfl⟩
  have d_look_at_roots : ∃ f fd, Gd K mg "look_at_roots" s_look_at_roots ["roots", "holder"] f fd := by
    obtain ⟨fd, F⟩ := fun_of ce 10 (st := s_look_at_roots) rfl (He.keep_ok (x := "look_at_roots") (ce.fact 21 rfl))
    exact ⟨_, fd, F, g "look_at_roots" (ce.fact 20 rfl), F.binds (ps := ["roots", "holder"]) fun _ _ _ _ _ _ us hl => match us, hl with | [_, _], _ => rfl⟩
  have d_are_roots : ∃ f fd, Gd K mg "are_roots" s_are_roots ["roots", "holder"] f fd := by
    obtain ⟨fd, F⟩ := fun_of ce 11 (st := s_are_roots) rfl (He.keep_ok (x := "are_roots") (ce.fact 23 rfl))
    exact ⟨_, fd, F, g "are_roots" (ce.fact 22 rfl), F.binds (ps := ["roots", "holder"]) fun _ _ _ _ _ _ us hl => match us, hl with | [_, _], _ => rfl⟩
  have d_shape_links : ∃ f fd, Gd K mg "shape_links" s_shape_links ["shape"] f fd := by
    obtain ⟨fd, F⟩ := fun_of ce 12 (st := s_shape_links) rfl (He.keep_ok (x := "shape_links") (ce.fact 25 rfl))
    exact ⟨_, fd, F, g "shape_links" (ce.fact 24 rfl), F.binds (ps := ["shape"]) fun _ _ _ _ _ _ us hl => match us, hl with | [_], _ => rfl⟩
  have d_is_link : ∃ f fd, Gd K mg "is_link" s_is_link ["shapes", "kind", "slot"] f fd := by
    obtain ⟨fd, F⟩ := fun_of ce 13 (st := s_is_link) rfl (He.keep_ok (x := "is_link") (ce.fact 27 rfl))
    exact ⟨_, fd, F, g "is_link" (ce.fact 26 rfl), F.binds (ps := ["shapes", "kind", "slot"]) fun _ _ _ _ _ _ us hl => match us, hl with | [_, _, _], _ => rfl⟩
  have d_head_word : ∃ f fd, Gd K mg "head_word" s_head_word ["kind", "age", "colour"] f fd := by
    obtain ⟨fd, F⟩ := fun_of ce 14 (st := s_head_word) rfl (He.keep_ok (x := "head_word") (ce.fact 29 rfl))
    exact ⟨_, fd, F, g "head_word" (ce.fact 28 rfl), F.binds (ps := ["kind", "age", "colour"]) fun _ _ _ _ _ _ us hl => match us, hl with | [_, _, _], _ => rfl⟩
  have d_kind_told : ∃ f fd, Gd K mg "kind_told" s_kind_told ["head"] f fd := by
    obtain ⟨fd, F⟩ := fun_of ce 15 (st := s_kind_told) rfl (He.keep_ok (x := "kind_told") (ce.fact 31 rfl))
    exact ⟨_, fd, F, g "kind_told" (ce.fact 30 rfl), F.binds (ps := ["head"]) fun _ _ _ _ _ _ us hl => match us, hl with | [_], _ => rfl⟩
  have d_age_told : ∃ f fd, Gd K mg "age_told" s_age_told ["head"] f fd := by
    obtain ⟨fd, F⟩ := fun_of ce 16 (st := s_age_told) rfl (He.keep_ok (x := "age_told") (ce.fact 33 rfl))
    exact ⟨_, fd, F, g "age_told" (ce.fact 32 rfl), F.binds (ps := ["head"]) fun _ _ _ _ _ _ us hl => match us, hl with | [_], _ => rfl⟩
  have d_colour_told : ∃ f fd, Gd K mg "colour_told" s_colour_told ["head"] f fd := by
    obtain ⟨fd, F⟩ := fun_of ce 17 (st := s_colour_told) rfl (He.keep_ok (x := "colour_told") (ce.fact 35 rfl))
    exact ⟨_, fd, F, g "colour_told" (ce.fact 34 rfl), F.binds (ps := ["head"]) fun _ _ _ _ _ _ us hl => match us, hl with | [_], _ => rfl⟩
  have d_move_young : ∃ f fd, Gd K mg "move_young" s_move_young ["memory", "roots", "is_settling"] f fd := by
    obtain ⟨fd, F⟩ := fun_of ce 18 (st := s_move_young) rfl (He.keep_ok (x := "move_young") (ce.fact 37 rfl))
    exact ⟨_, fd, F, g "move_young" (ce.fact 36 rfl), F.binds (ps := ["memory", "roots", "is_settling"]) fun _ _ _ _ _ _ us hl => match us, hl with | [_, _, _], _ => rfl⟩
  have d__law_feed : ∃ f fd, Gd K mg "_law_feed" s_law_feed ["_law_script", "_law_k"] f fd := by
    obtain ⟨fd, F⟩ := fun_of ce 19 (st := s_law_feed) rfl (He.keep_ok (x := "_law_feed") (ce.fact 39 rfl))
    exact ⟨_, fd, F, g "_law_feed" (ce.fact 38 rfl), F.binds (ps := ["_law_script", "_law_k"]) fun _ _ _ _ _ _ us hl => match us, hl with | [_, _], _ => rfl⟩
  have d__law_draw : ∃ f fd, Gd K mg "_law_draw" s_law_draw ["_law_feed_here", "_law_many"] f fd := by
    obtain ⟨fd, F⟩ := fun_of ce 20 (st := s_law_draw) rfl (He.keep_ok (x := "_law_draw") (ce.fact 41 rfl))
    exact ⟨_, fd, F, g "_law_draw" (ce.fact 40 rfl), F.binds (ps := ["_law_feed_here", "_law_many"]) fun _ _ _ _ _ _ us hl => match us, hl with | [_, _], _ => rfl⟩
  have d__law_one : ∃ f fd, Gd K mg "_law_one" s_law_one ["_law_feed_here", "_law_things"] f fd := by
    obtain ⟨fd, F⟩ := fun_of ce 21 (st := s_law_one) rfl (He.keep_ok (x := "_law_one") (ce.fact 43 rfl))
    exact ⟨_, fd, F, g "_law_one" (ce.fact 42 rfl), F.binds (ps := ["_law_feed_here", "_law_things"]) fun _ _ _ _ _ _ us hl => match us, hl with | [_, _], _ => rfl⟩
  have d__law_shapes : ∃ f fd, Gd K mg "_law_shapes" s_law_shapes ["_law_feed_here"] f fd := by
    obtain ⟨fd, F⟩ := fun_of ce 22 (st := s_law_shapes) rfl (He.keep_ok (x := "_law_shapes") (ce.fact 45 rfl))
    exact ⟨_, fd, F, g "_law_shapes" (ce.fact 44 rfl), F.binds (ps := ["_law_feed_here"]) fun _ _ _ _ _ _ us hl => match us, hl with | [_], _ => rfl⟩
  have d__law_sizes : ∃ f fd, Gd K mg "_law_sizes" s_law_sizes ["_law_feed_here"] f fd := by
    obtain ⟨fd, F⟩ := fun_of ce 23 (st := s_law_sizes) rfl (He.keep_ok (x := "_law_sizes") (ce.fact 47 rfl))
    exact ⟨_, fd, F, g "_law_sizes" (ce.fact 46 rfl), F.binds (ps := ["_law_feed_here"]) fun _ _ _ _ _ _ us hl => match us, hl with | [_], _ => rfl⟩
  have d__law_same : ∃ f fd, Gd K mg "_law_same" s_law_same ["_law_told", "_law_due"] f fd := by
    obtain ⟨fd, F⟩ := fun_of ce 24 (st := s_law_same) rfl (He.keep_ok (x := "_law_same") (ce.fact 49 rfl))
    exact ⟨_, fd, F, g "_law_same" (ce.fact 48 rfl), F.binds (ps := ["_law_told", "_law_due"]) fun _ _ _ _ _ _ us hl => match us, hl with | [_, _], _ => rfl⟩
  have d__law_address : ∃ f fd, Gd K mg "_law_address" s_law_address ["_law_rooms", "_law_sizes_here", "_law_which", "_law_one_here"] f fd := by
    obtain ⟨fd, F⟩ := fun_of ce 25 (st := s_law_address) rfl (He.keep_ok (x := "_law_address") (ce.fact 51 rfl))
    exact ⟨_, fd, F, g "_law_address" (ce.fact 50 rfl), F.binds (ps := ["_law_rooms", "_law_sizes_here", "_law_which", "_law_one_here"]) fun _ _ _ _ _ _ us hl => match us, hl with | [_, _, _, _], _ => rfl⟩
  have d__law_words : ∃ f fd, Gd K mg "_law_words" s_law_words ["_law_room"] f fd := by
    obtain ⟨fd, F⟩ := fun_of ce 26 (st := s_law_words) rfl (He.keep_ok (x := "_law_words") (ce.fact 53 rfl))
    exact ⟨_, fd, F, g "_law_words" (ce.fact 52 rfl), F.binds (ps := ["_law_room"]) fun _ _ _ _ _ _ us hl => match us, hl with | [_], _ => rfl⟩
  have d__law_roots : ∃ f fd, Gd K mg "_law_roots" s_law_roots ["_law_rooms", "_law_sizes_here", "_law_which", "_law_held"] f fd := by
    obtain ⟨fd, F⟩ := fun_of ce 27 (st := s_law_roots) rfl (He.keep_ok (x := "_law_roots") (ce.fact 55 rfl))
    exact ⟨_, fd, F, g "_law_roots" (ce.fact 54 rfl), F.binds (ps := ["_law_rooms", "_law_sizes_here", "_law_which", "_law_held"]) fun _ _ _ _ _ _ us hl => match us, hl with | [_, _, _, _], _ => rfl⟩
  have d__law_minor : ∃ f fd, Gd K mg "_law_minor" s_law_minor ["_law_rooms", "_law_sizes_here", "_law_held"] f fd := by
    obtain ⟨fd, F⟩ := fun_of ce 28 (st := s_law_minor) rfl (He.keep_ok (x := "_law_minor") (ce.fact 57 rfl))
    exact ⟨_, fd, F, g "_law_minor" (ce.fact 56 rfl), F.binds (ps := ["_law_rooms", "_law_sizes_here", "_law_held"]) fun _ _ _ _ _ _ us hl => match us, hl with | [_, _, _], _ => rfl⟩
  have d__law_made : ∃ f fd, Gd K mg "_law_made" s_law_made ["_law_feed_here", "_law_heap", "_law_state", "_law_sizes_here"] f fd := by
    obtain ⟨fd, F⟩ := fun_of ce 29 (st := s_law_made) rfl (He.keep_ok (x := "_law_made") (ce.fact 59 rfl))
    exact ⟨_, fd, F, g "_law_made" (ce.fact 58 rfl), F.binds (ps := ["_law_feed_here", "_law_heap", "_law_state", "_law_sizes_here"]) fun _ _ _ _ _ _ us hl => match us, hl with | [_, _, _, _], _ => rfl⟩
  have d__law_deed : ∃ f fd, Gd K mg "_law_deed" s_law_deed ["_law_feed_here", "_law_heap", "_law_state", "_law_sizes_here"] f fd := by
    obtain ⟨fd, F⟩ := fun_of ce 30 (st := s_law_deed) rfl (He.keep_ok (x := "_law_deed") (ce.fact 61 rfl))
    exact ⟨_, fd, F, g "_law_deed" (ce.fact 60 rfl), F.binds (ps := ["_law_feed_here", "_law_heap", "_law_state", "_law_sizes_here"]) fun _ _ _ _ _ _ us hl => match us, hl with | [_, _, _, _], _ => rfl⟩
  have d__law_picture : ∃ f fd, Gd K mg "_law_picture" s_law_picture ["_law_state"] f fd := by
    obtain ⟨fd, F⟩ := fun_of ce 31 (st := s_law_picture) rfl (He.keep_ok (x := "_law_picture") (ce.fact 63 rfl))
    exact ⟨_, fd, F, g "_law_picture" (ce.fact 62 rfl), F.binds (ps := ["_law_state"]) fun _ _ _ _ _ _ us hl => match us, hl with | [_], _ => rfl⟩
  have d_law : ∃ f fd, Gd K mg "law" s_law ["_law_script"] f fd := by
    obtain ⟨fd, F⟩ := fun_of ce 32 (st := s_law) rfl (He.keep_ok (x := "law") (ce.fact 65 rfl))
    exact ⟨_, fd, F, g "law" (ce.fact 64 rfl), F.binds (ps := ["_law_script"]) fun _ _ _ _ _ _ us hl => match us, hl with | [_], _ => rfl⟩
  have c_Moving : Cls K (ga K "Moving") := He.cls_ok (ce.fact 98 rfl)
  have k_Moving : Mk K (ga K "Moving") (ma K (ga K "Moving") "__init__") := He.mkr_ok (ce.fact 99 rfl)
  have n_Moving_memory : NoAttr K (ga K "Moving") "memory" := He.noat_ok (ce.fact 104 rfl)
  have n_Moving_is_settling : NoAttr K (ga K "Moving") "is_settling" := He.noat_ok (ce.fact 105 rfl)
  have n_Moving_half : NoAttr K (ga K "Moving") "half" := He.noat_ok (ce.fact 106 rfl)
  have n_Moving_moved : NoAttr K (ga K "Moving") "moved" := He.noat_ok (ce.fact 107 rfl)
  have n_Moving_to_half : NoAttr K (ga K "Moving") "to_half" := He.noat_ok (ce.fact 108 rfl)
  have n_Moving_to_old : NoAttr K (ga K "Moving") "to_old" := He.noat_ok (ce.fact 109 rfl)
  have c_Memory : Cls K (ga K "Memory") := He.cls_ok (ce.fact 100 rfl)
  have k_Memory : Mk K (ga K "Memory") (ma K (ga K "Memory") "__init__") := He.mkr_ok (ce.fact 101 rfl)
  have n_Memory_shapes : NoAttr K (ga K "Memory") "shapes" := He.noat_ok (ce.fact 110 rfl)
  have n_Memory_sizes : NoAttr K (ga K "Memory") "sizes" := He.noat_ok (ce.fact 111 rfl)
  have n_Memory_great : NoAttr K (ga K "Memory") "great" := He.noat_ok (ce.fact 112 rfl)
  have n_Memory_age : NoAttr K (ga K "Memory") "age" := He.noat_ok (ce.fact 113 rfl)
  have n_Memory_firsts : NoAttr K (ga K "Memory") "firsts" := He.noat_ok (ce.fact 114 rfl)
  have n_Memory_first_old : NoAttr K (ga K "Memory") "first_old" := He.noat_ok (ce.fact 115 rfl)
  have n_Memory_shapes_links : NoAttr K (ga K "Memory") "shapes_links" := He.noat_ok (ce.fact 116 rfl)
  have n_Memory_words : NoAttr K (ga K "Memory") "words" := He.noat_ok (ce.fact 117 rfl)
  have n_Memory_nexts : NoAttr K (ga K "Memory") "nexts" := He.noat_ok (ce.fact 118 rfl)
  have n_Memory_half : NoAttr K (ga K "Memory") "half" := He.noat_ok (ce.fact 119 rfl)
  have n_Memory_young : NoAttr K (ga K "Memory") "young" := He.noat_ok (ce.fact 120 rfl)
  have n_Memory_old : NoAttr K (ga K "Memory") "old" := He.noat_ok (ce.fact 121 rfl)
  have n_Memory_remembered : NoAttr K (ga K "Memory") "remembered" := He.noat_ok (ce.fact 122 rfl)
  have n_Memory_grey : NoAttr K (ga K "Memory") "grey" := He.noat_ok (ce.fact 123 rfl)
  have n_Memory_done : NoAttr K (ga K "Memory") "done" := He.noat_ok (ce.fact 124 rfl)
  have n_Memory_marks : NoAttr K (ga K "Memory") "marks" := He.noat_ok (ce.fact 125 rfl)
  have n_Memory_ended : NoAttr K (ga K "Memory") "ended" := He.noat_ok (ce.fact 126 rfl)
  have c_Heap : Cls K (ga K "Heap") := He.cls_ok (ce.fact 102 rfl)
  have k_Heap : Mk K (ga K "Heap") (ma K (ga K "Heap") "__init__") := He.mkr_ok (ce.fact 103 rfl)
  have n_Heap_memory : NoAttr K (ga K "Heap") "memory" := He.noat_ok (ce.fact 127 rfl)
  have h_m_Moving_init : Meth K (ga K "Moving") "__init__" (ma K (ga K "Moving") "__init__") := He.meth_ok (ce.fact 128 rfl)
  have m_Moving_init : ∃ f fd, Mk K (ga K "Moving") f ∧ L2.Fun K "__init__" "Moving.__init__" s_Moving_init f fd ∧ Binds K fd ["self", "memory", "is_settling"] [] := by
    obtain ⟨fd, F⟩ := fun_of ce 33 (st := s_Moving_init) rfl h_m_Moving_init.kp
    exact ⟨_, fd, k_Moving, F, F.binds (ps := ["self", "memory", "is_settling"]) fun _ _ _ _ _ _ us hl => match us, hl with | [_, _, _], _ => rfl⟩
  have h_m_Moving_led : Meth K (ga K "Moving") "led" (ma K (ga K "Moving") "led") := He.meth_ok (ce.fact 129 rfl)
  have m_Moving_led : ∃ f fd, Md K (ga K "Moving") "led" "Moving.led" s_Moving_led ["self", "reference"] f fd := by
    obtain ⟨fd, F⟩ := fun_of ce 34 (st := s_Moving_led) rfl h_m_Moving_led.kp
    exact ⟨_, fd, F, h_m_Moving_led, F.binds (ps := ["self", "reference"]) fun _ _ _ _ _ _ us hl => match us, hl with | [_, _], _ => rfl⟩
  have h_m_Moving_move : Meth K (ga K "Moving") "move" (ma K (ga K "Moving") "move") := He.meth_ok (ce.fact 130 rfl)
  have m_Moving_move : ∃ f fd, Md K (ga K "Moving") "move" "Moving.move" s_Moving_move ["self", "address"] f fd := by
    obtain ⟨fd, F⟩ := fun_of ce 35 (st := s_Moving_move) rfl h_m_Moving_move.kp
    exact ⟨_, fd, F, h_m_Moving_move, F.binds (ps := ["self", "address"]) fun _ _ _ _ _ _ us hl => match us, hl with | [_, _], _ => rfl⟩
  have h_m_Moving_lead_moved : Meth K (ga K "Moving") "lead_moved" (ma K (ga K "Moving") "lead_moved") := He.meth_ok (ce.fact 131 rfl)
  have m_Moving_lead_moved : ∃ f fd, Md K (ga K "Moving") "lead_moved" "Moving.lead_moved" s_Moving_lead_moved ["self"] f fd := by
    obtain ⟨fd, F⟩ := fun_of ce 36 (st := s_Moving_lead_moved) rfl h_m_Moving_lead_moved.kp
    exact ⟨_, fd, F, h_m_Moving_lead_moved, F.binds (ps := ["self"]) fun _ _ _ _ _ _ us hl => match us, hl with | [_], _ => rfl⟩
  have h_m_Moving_lead_slots : Meth K (ga K "Moving") "lead_slots" (ma K (ga K "Moving") "lead_slots") := He.meth_ok (ce.fact 132 rfl)
  have m_Moving_lead_slots : ∃ f fd, Md K (ga K "Moving") "lead_slots" "Moving.lead_slots" s_Moving_lead_slots ["self", "address"] f fd := by
    obtain ⟨fd, F⟩ := fun_of ce 37 (st := s_Moving_lead_slots) rfl h_m_Moving_lead_slots.kp
    exact ⟨_, fd, F, h_m_Moving_lead_slots, F.binds (ps := ["self", "address"]) fun _ _ _ _ _ _ us hl => match us, hl with | [_, _], _ => rfl⟩
  have h_m_Moving_finish : Meth K (ga K "Moving") "finish" (ma K (ga K "Moving") "finish") := He.meth_ok (ce.fact 133 rfl)
  have m_Moving_finish : ∃ f fd, Md K (ga K "Moving") "finish" "Moving.finish" s_Moving_finish ["self"] f fd := by
    obtain ⟨fd, F⟩ := fun_of ce 38 (st := s_Moving_finish) rfl h_m_Moving_finish.kp
    exact ⟨_, fd, F, h_m_Moving_finish, F.binds (ps := ["self"]) fun _ _ _ _ _ _ us hl => match us, hl with | [_], _ => rfl⟩
  have h_m_Memory_init : Meth K (ga K "Memory") "__init__" (ma K (ga K "Memory") "__init__") := He.meth_ok (ce.fact 134 rfl)
  have m_Memory_init : ∃ f fd, Mk K (ga K "Memory") f ∧ L2.Fun K "__init__" "Memory.__init__" s_Memory_init f fd ∧ Binds K fd ["self", "shapes", "sizes"] [] := by
    obtain ⟨fd, F⟩ := fun_of ce 39 (st := s_Memory_init) rfl h_m_Memory_init.kp
    exact ⟨_, fd, k_Memory, F, F.binds (ps := ["self", "shapes", "sizes"]) fun _ _ _ _ _ _ us hl => match us, hl with | [_, _, _], _ => rfl⟩
  have h_m_Memory_is_object : Meth K (ga K "Memory") "is_object" (ma K (ga K "Memory") "is_object") := He.meth_ok (ce.fact 135 rfl)
  have m_Memory_is_object : ∃ f fd, Md K (ga K "Memory") "is_object" "Memory.is_object" s_Memory_is_object ["self", "address"] f fd := by
    obtain ⟨fd, F⟩ := fun_of ce 40 (st := s_Memory_is_object) rfl h_m_Memory_is_object.kp
    exact ⟨_, fd, F, h_m_Memory_is_object, F.binds (ps := ["self", "address"]) fun _ _ _ _ _ _ us hl => match us, hl with | [_, _], _ => rfl⟩
  have h_m_Memory_is_young : Meth K (ga K "Memory") "is_young" (ma K (ga K "Memory") "is_young") := He.meth_ok (ce.fact 136 rfl)
  have m_Memory_is_young : ∃ f fd, Md K (ga K "Memory") "is_young" "Memory.is_young" s_Memory_is_young ["self", "reference"] f fd := by
    obtain ⟨fd, F⟩ := fun_of ce 41 (st := s_Memory_is_young) rfl h_m_Memory_is_young.kp
    exact ⟨_, fd, F, h_m_Memory_is_young, F.binds (ps := ["self", "reference"]) fun _ _ _ _ _ _ us hl => match us, hl with | [_, _], _ => rfl⟩
  have h_m_Memory_kind : Meth K (ga K "Memory") "kind" (ma K (ga K "Memory") "kind") := He.meth_ok (ce.fact 137 rfl)
  have m_Memory_kind : ∃ f fd, Md K (ga K "Memory") "kind" "Memory.kind" s_Memory_kind ["self", "address"] f fd := by
    obtain ⟨fd, F⟩ := fun_of ce 42 (st := s_Memory_kind) rfl h_m_Memory_kind.kp
    exact ⟨_, fd, F, h_m_Memory_kind, F.binds (ps := ["self", "address"]) fun _ _ _ _ _ _ us hl => match us, hl with | [_, _], _ => rfl⟩
  have h_m_Memory_slots : Meth K (ga K "Memory") "slots" (ma K (ga K "Memory") "slots") := He.meth_ok (ce.fact 138 rfl)
  have m_Memory_slots : ∃ f fd, Md K (ga K "Memory") "slots" "Memory.slots" s_Memory_slots ["self", "address"] f fd := by
    obtain ⟨fd, F⟩ := fun_of ce 43 (st := s_Memory_slots) rfl h_m_Memory_slots.kp
    exact ⟨_, fd, F, h_m_Memory_slots, F.binds (ps := ["self", "address"]) fun _ _ _ _ _ _ us hl => match us, hl with | [_, _], _ => rfl⟩
  have h_m_Memory_age_of : Meth K (ga K "Memory") "age_of" (ma K (ga K "Memory") "age_of") := He.meth_ok (ce.fact 139 rfl)
  have m_Memory_age_of : ∃ f fd, Md K (ga K "Memory") "age_of" "Memory.age_of" s_Memory_age_of ["self", "address"] f fd := by
    obtain ⟨fd, F⟩ := fun_of ce 44 (st := s_Memory_age_of) rfl h_m_Memory_age_of.kp
    exact ⟨_, fd, F, h_m_Memory_age_of, F.binds (ps := ["self", "address"]) fun _ _ _ _ _ _ us hl => match us, hl with | [_, _], _ => rfl⟩
  have h_m_Memory_size : Meth K (ga K "Memory") "size" (ma K (ga K "Memory") "size") := He.meth_ok (ce.fact 140 rfl)
  have m_Memory_size : ∃ f fd, Md K (ga K "Memory") "size" "Memory.size" s_Memory_size ["self", "address"] f fd := by
    obtain ⟨fd, F⟩ := fun_of ce 45 (st := s_Memory_size) rfl h_m_Memory_size.kp
    exact ⟨_, fd, F, h_m_Memory_size, F.binds (ps := ["self", "address"]) fun _ _ _ _ _ _ us hl => match us, hl with | [_, _], _ => rfl⟩
  have h_m_Memory_link_places : Meth K (ga K "Memory") "link_places" (ma K (ga K "Memory") "link_places") := He.meth_ok (ce.fact 141 rfl)
  have m_Memory_link_places : ∃ f fd, Md K (ga K "Memory") "link_places" "Memory.link_places" s_Memory_link_places ["self", "address"] f fd := by
    obtain ⟨fd, F⟩ := fun_of ce 46 (st := s_Memory_link_places) rfl h_m_Memory_link_places.kp
    exact ⟨_, fd, F, h_m_Memory_link_places, F.binds (ps := ["self", "address"]) fun _ _ _ _ _ _ us hl => match us, hl with | [_, _], _ => rfl⟩
  have h_m_Memory_is_great : Meth K (ga K "Memory") "is_great" (ma K (ga K "Memory") "is_great") := He.meth_ok (ce.fact 142 rfl)
  have m_Memory_is_great : ∃ f fd, Md K (ga K "Memory") "is_great" "Memory.is_great" s_Memory_is_great ["self", "slots"] f fd := by
    obtain ⟨fd, F⟩ := fun_of ce 47 (st := s_Memory_is_great) rfl h_m_Memory_is_great.kp
    exact ⟨_, fd, F, h_m_Memory_is_great, F.binds (ps := ["self", "slots"]) fun _ _ _ _ _ _ us hl => match us, hl with | [_, _], _ => rfl⟩
  have h_m_Memory_fits : Meth K (ga K "Memory") "fits" (ma K (ga K "Memory") "fits") := He.meth_ok (ce.fact 143 rfl)
  have m_Memory_fits : ∃ f fd, Md K (ga K "Memory") "fits" "Memory.fits" s_Memory_fits ["self", "room", "many"] f fd := by
    obtain ⟨fd, F⟩ := fun_of ce 48 (st := s_Memory_fits) rfl h_m_Memory_fits.kp
    exact ⟨_, fd, F, h_m_Memory_fits, F.binds (ps := ["self", "room", "many"]) fun _ _ _ _ _ _ us hl => match us, hl with | [_, _, _], _ => rfl⟩
  have h_m_Memory_lay_young : Meth K (ga K "Memory") "lay_young" (ma K (ga K "Memory") "lay_young") := He.meth_ok (ce.fact 144 rfl)
  have m_Memory_lay_young : ∃ f fd, Md K (ga K "Memory") "lay_young" "Memory.lay_young" s_Memory_lay_young ["self", "room", "words"] f fd := by
    obtain ⟨fd, F⟩ := fun_of ce 49 (st := s_Memory_lay_young) rfl h_m_Memory_lay_young.kp
    exact ⟨_, fd, F, h_m_Memory_lay_young, F.binds (ps := ["self", "room", "words"]) fun _ _ _ _ _ _ us hl => match us, hl with | [_, _, _], _ => rfl⟩
  have h_m_Memory_lay_old : Meth K (ga K "Memory") "lay_old" (ma K (ga K "Memory") "lay_old") := He.meth_ok (ce.fact 145 rfl)
  have m_Memory_lay_old : ∃ f fd, Md K (ga K "Memory") "lay_old" "Memory.lay_old" s_Memory_lay_old ["self", "words"] f fd := by
    obtain ⟨fd, F⟩ := fun_of ce 50 (st := s_Memory_lay_old) rfl h_m_Memory_lay_old.kp
    exact ⟨_, fd, F, h_m_Memory_lay_old, F.binds (ps := ["self", "words"]) fun _ _ _ _ _ _ us hl => match us, hl with | [_, _], _ => rfl⟩
  have h_m_Memory_make : Meth K (ga K "Memory") "make" (ma K (ga K "Memory") "make") := He.meth_ok (ce.fact 146 rfl)
  have m_Memory_make : ∃ f fd, Md K (ga K "Memory") "make" "Memory.make" s_Memory_make ["self", "kind", "slots"] f fd := by
    obtain ⟨fd, F⟩ := fun_of ce 51 (st := s_Memory_make) rfl h_m_Memory_make.kp
    exact ⟨_, fd, F, h_m_Memory_make, F.binds (ps := ["self", "kind", "slots"]) fun _ _ _ _ _ _ us hl => match us, hl with | [_, _, _], _ => rfl⟩
  have h_m_Memory_set_link : Meth K (ga K "Memory") "set_link" (ma K (ga K "Memory") "set_link") := He.meth_ok (ce.fact 147 rfl)
  have m_Memory_set_link : ∃ f fd, Md K (ga K "Memory") "set_link" "Memory.set_link" s_Memory_set_link ["self", "address", "place", "reference"] f fd := by
    obtain ⟨fd, F⟩ := fun_of ce 52 (st := s_Memory_set_link) rfl h_m_Memory_set_link.kp
    exact ⟨_, fd, F, h_m_Memory_set_link, F.binds (ps := ["self", "address", "place", "reference"]) fun _ _ _ _ _ _ us hl => match us, hl with | [_, _, _, _], _ => rfl⟩
  have h_m_Memory_is_white : Meth K (ga K "Memory") "is_white" (ma K (ga K "Memory") "is_white") := He.meth_ok (ce.fact 148 rfl)
  have m_Memory_is_white : ∃ f fd, Md K (ga K "Memory") "is_white" "Memory.is_white" s_Memory_is_white ["self", "reference"] f fd := by
    obtain ⟨fd, F⟩ := fun_of ce 53 (st := s_Memory_is_white) rfl h_m_Memory_is_white.kp
    exact ⟨_, fd, F, h_m_Memory_is_white, F.binds (ps := ["self", "reference"]) fun _ _ _ _ _ _ us hl => match us, hl with | [_, _], _ => rfl⟩
  have h_m_Memory_shade : Meth K (ga K "Memory") "shade" (ma K (ga K "Memory") "shade") := He.meth_ok (ce.fact 149 rfl)
  have m_Memory_shade : ∃ f fd, Md K (ga K "Memory") "shade" "Memory.shade" s_Memory_shade ["self", "reference"] f fd := by
    obtain ⟨fd, F⟩ := fun_of ce 54 (st := s_Memory_shade) rfl h_m_Memory_shade.kp
    exact ⟨_, fd, F, h_m_Memory_shade, F.binds (ps := ["self", "reference"]) fun _ _ _ _ _ _ us hl => match us, hl with | [_, _], _ => rfl⟩
  have h_m_Memory_grey_row : Meth K (ga K "Memory") "grey_row" (ma K (ga K "Memory") "grey_row") := He.meth_ok (ce.fact 150 rfl)
  have m_Memory_grey_row : ∃ f fd, Md K (ga K "Memory") "grey_row" "Memory.grey_row" s_Memory_grey_row ["self"] f fd := by
    obtain ⟨fd, F⟩ := fun_of ce 55 (st := s_Memory_grey_row) rfl h_m_Memory_grey_row.kp
    exact ⟨_, fd, F, h_m_Memory_grey_row, F.binds (ps := ["self"]) fun _ _ _ _ _ _ us hl => match us, hl with | [_], _ => rfl⟩
  have h_m_Memory_room : Meth K (ga K "Memory") "room" (ma K (ga K "Memory") "room") := He.meth_ok (ce.fact 151 rfl)
  have m_Memory_room : ∃ f fd, Md K (ga K "Memory") "room" "Memory.room" s_Memory_room ["self", "room"] f fd := by
    obtain ⟨fd, F⟩ := fun_of ce 56 (st := s_Memory_room) rfl h_m_Memory_room.kp
    exact ⟨_, fd, F, h_m_Memory_room, F.binds (ps := ["self", "room"]) fun _ _ _ _ _ _ us hl => match us, hl with | [_, _], _ => rfl⟩
  have h_m_Memory_old_room : Meth K (ga K "Memory") "old_room" (ma K (ga K "Memory") "old_room") := He.meth_ok (ce.fact 152 rfl)
  have m_Memory_old_room : ∃ f fd, Md K (ga K "Memory") "old_room" "Memory.old_room" s_Memory_old_room ["self"] f fd := by
    obtain ⟨fd, F⟩ := fun_of ce 57 (st := s_Memory_old_room) rfl h_m_Memory_old_room.kp
    exact ⟨_, fd, F, h_m_Memory_old_room, F.binds (ps := ["self"]) fun _ _ _ _ _ _ us hl => match us, hl with | [_], _ => rfl⟩
  have h_m_Heap_init : Meth K (ga K "Heap") "__init__" (ma K (ga K "Heap") "__init__") := He.meth_ok (ce.fact 153 rfl)
  have m_Heap_init : ∃ f fd, Mk K (ga K "Heap") f ∧ L2.Fun K "__init__" "Heap.__init__" s_Heap_init f fd ∧ Binds K fd ["self", "shapes", "sizes"] [] := by
    obtain ⟨fd, F⟩ := fun_of ce 58 (st := s_Heap_init) rfl h_m_Heap_init.kp
    exact ⟨_, fd, k_Heap, F, F.binds (ps := ["self", "shapes", "sizes"]) fun _ _ _ _ _ _ us hl => match us, hl with | [_, _, _], _ => rfl⟩
  have h_m_Heap_make : Meth K (ga K "Heap") "make" (ma K (ga K "Heap") "make") := He.meth_ok (ce.fact 154 rfl)
  have m_Heap_make : ∃ f fd, Md K (ga K "Heap") "make" "Heap.make" s_Heap_make ["self", "kind", "slots", "roots"] f fd := by
    obtain ⟨fd, F⟩ := fun_of ce 59 (st := s_Heap_make) rfl h_m_Heap_make.kp
    exact ⟨_, fd, F, h_m_Heap_make, F.binds (ps := ["self", "kind", "slots", "roots"]) fun _ _ _ _ _ _ us hl => match us, hl with | [_, _, _, _], _ => rfl⟩
  have h_m_Heap_has_room : Meth K (ga K "Heap") "has_room" (ma K (ga K "Heap") "has_room") := He.meth_ok (ce.fact 155 rfl)
  have m_Heap_has_room : ∃ f fd, Md K (ga K "Heap") "has_room" "Heap.has_room" s_Heap_has_room ["self", "slots"] f fd := by
    obtain ⟨fd, F⟩ := fun_of ce 60 (st := s_Heap_has_room) rfl h_m_Heap_has_room.kp
    exact ⟨_, fd, F, h_m_Heap_has_room, F.binds (ps := ["self", "slots"]) fun _ _ _ _ _ _ us hl => match us, hl with | [_, _], _ => rfl⟩
  have h_m_Heap_moved_young : Meth K (ga K "Heap") "moved_young" (ma K (ga K "Heap") "moved_young") := He.meth_ok (ce.fact 156 rfl)
  have m_Heap_moved_young : ∃ f fd, Md K (ga K "Heap") "moved_young" "Heap.moved_young" s_Heap_moved_young ["self", "roots"] f fd := by
    obtain ⟨fd, F⟩ := fun_of ce 61 (st := s_Heap_moved_young) rfl h_m_Heap_moved_young.kp
    exact ⟨_, fd, F, h_m_Heap_moved_young, F.binds (ps := ["self", "roots"]) fun _ _ _ _ _ _ us hl => match us, hl with | [_, _], _ => rfl⟩
  have h_m_Heap_look_at : Meth K (ga K "Heap") "look_at" (ma K (ga K "Heap") "look_at") := He.meth_ok (ce.fact 157 rfl)
  have m_Heap_look_at : ∃ f fd, Md K (ga K "Heap") "look_at" "Heap.look_at" s_Heap_look_at ["self", "roots"] f fd := by
    obtain ⟨fd, F⟩ := fun_of ce 62 (st := s_Heap_look_at) rfl h_m_Heap_look_at.kp
    exact ⟨_, fd, F, h_m_Heap_look_at, F.binds (ps := ["self", "roots"]) fun _ _ _ _ _ _ us hl => match us, hl with | [_, _], _ => rfl⟩
  have h_m_Heap_look_at_address : Meth K (ga K "Heap") "look_at_address" (ma K (ga K "Heap") "look_at_address") := He.meth_ok (ce.fact 158 rfl)
  have m_Heap_look_at_address : ∃ f fd, Md K (ga K "Heap") "look_at_address" "Heap.look_at_address" s_Heap_look_at_address ["self", "address"] f fd := by
    obtain ⟨fd, F⟩ := fun_of ce 63 (st := s_Heap_look_at_address) rfl h_m_Heap_look_at_address.kp
    exact ⟨_, fd, F, h_m_Heap_look_at_address, F.binds (ps := ["self", "address"]) fun _ _ _ _ _ _ us hl => match us, hl with | [_, _], _ => rfl⟩
  have h_m_Heap_look_at_slot : Meth K (ga K "Heap") "look_at_slot" (ma K (ga K "Heap") "look_at_slot") := He.meth_ok (ce.fact 159 rfl)
  have m_Heap_look_at_slot : ∃ f fd, Md K (ga K "Heap") "look_at_slot" "Heap.look_at_slot" s_Heap_look_at_slot ["self", "address", "slot"] f fd := by
    obtain ⟨fd, F⟩ := fun_of ce 64 (st := s_Heap_look_at_slot) rfl h_m_Heap_look_at_slot.kp
    exact ⟨_, fd, F, h_m_Heap_look_at_slot, F.binds (ps := ["self", "address", "slot"]) fun _ _ _ _ _ _ us hl => match us, hl with | [_, _, _], _ => rfl⟩
  have h_m_Heap_kind : Meth K (ga K "Heap") "kind" (ma K (ga K "Heap") "kind") := He.meth_ok (ce.fact 160 rfl)
  have m_Heap_kind : ∃ f fd, Md K (ga K "Heap") "kind" "Heap.kind" s_Heap_kind ["self", "address"] f fd := by
    obtain ⟨fd, F⟩ := fun_of ce 65 (st := s_Heap_kind) rfl h_m_Heap_kind.kp
    exact ⟨_, fd, F, h_m_Heap_kind, F.binds (ps := ["self", "address"]) fun _ _ _ _ _ _ us hl => match us, hl with | [_, _], _ => rfl⟩
  have h_m_Heap_slots : Meth K (ga K "Heap") "slots" (ma K (ga K "Heap") "slots") := He.meth_ok (ce.fact 161 rfl)
  have m_Heap_slots : ∃ f fd, Md K (ga K "Heap") "slots" "Heap.slots" s_Heap_slots ["self", "address"] f fd := by
    obtain ⟨fd, F⟩ := fun_of ce 66 (st := s_Heap_slots) rfl h_m_Heap_slots.kp
    exact ⟨_, fd, F, h_m_Heap_slots, F.binds (ps := ["self", "address"]) fun _ _ _ _ _ _ us hl => match us, hl with | [_, _], _ => rfl⟩
  have h_m_Heap_get : Meth K (ga K "Heap") "get" (ma K (ga K "Heap") "get") := He.meth_ok (ce.fact 162 rfl)
  have m_Heap_get : ∃ f fd, Md K (ga K "Heap") "get" "Heap.get" s_Heap_get ["self", "address", "slot"] f fd := by
    obtain ⟨fd, F⟩ := fun_of ce 67 (st := s_Heap_get) rfl h_m_Heap_get.kp
    exact ⟨_, fd, F, h_m_Heap_get, F.binds (ps := ["self", "address", "slot"]) fun _ _ _ _ _ _ us hl => match us, hl with | [_, _, _], _ => rfl⟩
  have h_m_Heap_put : Meth K (ga K "Heap") "put" (ma K (ga K "Heap") "put") := He.meth_ok (ce.fact 163 rfl)
  have m_Heap_put : ∃ f fd, Md K (ga K "Heap") "put" "Heap.put" s_Heap_put ["self", "address", "slot", "value"] f fd := by
    obtain ⟨fd, F⟩ := fun_of ce 68 (st := s_Heap_put) rfl h_m_Heap_put.kp
    exact ⟨_, fd, F, h_m_Heap_put, F.binds (ps := ["self", "address", "slot", "value"]) fun _ _ _ _ _ _ us hl => match us, hl with | [_, _, _, _], _ => rfl⟩
  have h_m_Heap_where : Meth K (ga K "Heap") "where" (ma K (ga K "Heap") "where") := He.meth_ok (ce.fact 164 rfl)
  have m_Heap_where : ∃ f fd, Md K (ga K "Heap") "where" "Heap.where" s_Heap_where ["self", "address"] f fd := by
    obtain ⟨fd, F⟩ := fun_of ce 69 (st := s_Heap_where) rfl h_m_Heap_where.kp
    exact ⟨_, fd, F, h_m_Heap_where, F.binds (ps := ["self", "address"]) fun _ _ _ _ _ _ us hl => match us, hl with | [_, _], _ => rfl⟩
  have h_m_Heap_remembered : Meth K (ga K "Heap") "remembered" (ma K (ga K "Heap") "remembered") := He.meth_ok (ce.fact 165 rfl)
  have m_Heap_remembered : ∃ f fd, Md K (ga K "Heap") "remembered" "Heap.remembered" s_Heap_remembered ["self"] f fd := by
    obtain ⟨fd, F⟩ := fun_of ce 70 (st := s_Heap_remembered) rfl h_m_Heap_remembered.kp
    exact ⟨_, fd, F, h_m_Heap_remembered, F.binds (ps := ["self"]) fun _ _ _ _ _ _ us hl => match us, hl with | [_], _ => rfl⟩
  have h_m_Heap_graph : Meth K (ga K "Heap") "graph" (ma K (ga K "Heap") "graph") := He.meth_ok (ce.fact 166 rfl)
  have m_Heap_graph : ∃ f fd, Md K (ga K "Heap") "graph" "Heap.graph" s_Heap_graph ["self", "roots"] f fd := by
    obtain ⟨fd, F⟩ := fun_of ce 71 (st := s_Heap_graph) rfl h_m_Heap_graph.kp
    exact ⟨_, fd, F, h_m_Heap_graph, F.binds (ps := ["self", "roots"]) fun _ _ _ _ _ _ us hl => match us, hl with | [_, _], _ => rfl⟩
  have h_m_Heap_traced : Meth K (ga K "Heap") "traced" (ma K (ga K "Heap") "traced") := He.meth_ok (ce.fact 167 rfl)
  have m_Heap_traced : ∃ f fd, Md K (ga K "Heap") "traced" "Heap.traced" s_Heap_traced ["self", "roots"] f fd := by
    obtain ⟨fd, F⟩ := fun_of ce 72 (st := s_Heap_traced) rfl h_m_Heap_traced.kp
    exact ⟨_, fd, F, h_m_Heap_traced, F.binds (ps := ["self", "roots"]) fun _ _ _ _ _ _ us hl => match us, hl with | [_, _], _ => rfl⟩
  have h_m_Heap_unreached : Meth K (ga K "Heap") "unreached" (ma K (ga K "Heap") "unreached") := He.meth_ok (ce.fact 168 rfl)
  have m_Heap_unreached : ∃ f fd, Md K (ga K "Heap") "unreached" "Heap.unreached" s_Heap_unreached ["self", "roots"] f fd := by
    obtain ⟨fd, F⟩ := fun_of ce 73 (st := s_Heap_unreached) rfl h_m_Heap_unreached.kp
    exact ⟨_, fd, F, h_m_Heap_unreached, F.binds (ps := ["self", "roots"]) fun _ _ _ _ _ _ us hl => match us, hl with | [_, _], _ => rfl⟩
  have h_m_Heap_counts : Meth K (ga K "Heap") "counts" (ma K (ga K "Heap") "counts") := He.meth_ok (ce.fact 169 rfl)
  have m_Heap_counts : ∃ f fd, Md K (ga K "Heap") "counts" "Heap.counts" s_Heap_counts ["self"] f fd := by
    obtain ⟨fd, F⟩ := fun_of ce 74 (st := s_Heap_counts) rfl h_m_Heap_counts.kp
    exact ⟨_, fd, F, h_m_Heap_counts, F.binds (ps := ["self"]) fun _ _ _ _ _ _ us hl => match us, hl with | [_], _ => rfl⟩
  have h_m_Heap_minor : Meth K (ga K "Heap") "minor" (ma K (ga K "Heap") "minor") := He.meth_ok (ce.fact 170 rfl)
  have m_Heap_minor : ∃ f fd, Md K (ga K "Heap") "minor" "Heap.minor" s_Heap_minor ["self", "roots"] f fd := by
    obtain ⟨fd, F⟩ := fun_of ce 75 (st := s_Heap_minor) rfl h_m_Heap_minor.kp
    exact ⟨_, fd, F, h_m_Heap_minor, F.binds (ps := ["self", "roots"]) fun _ _ _ _ _ _ us hl => match us, hl with | [_, _], _ => rfl⟩
  have h_m_Heap_settle : Meth K (ga K "Heap") "settle" (ma K (ga K "Heap") "settle") := He.meth_ok (ce.fact 171 rfl)
  have m_Heap_settle : ∃ f fd, Md K (ga K "Heap") "settle" "Heap.settle" s_Heap_settle ["self", "roots"] f fd := by
    obtain ⟨fd, F⟩ := fun_of ce 76 (st := s_Heap_settle) rfl h_m_Heap_settle.kp
    exact ⟨_, fd, F, h_m_Heap_settle, F.binds (ps := ["self", "roots"]) fun _ _ _ _ _ _ us hl => match us, hl with | [_, _], _ => rfl⟩
  have h_m_Heap_begin : Meth K (ga K "Heap") "begin" (ma K (ga K "Heap") "begin") := He.meth_ok (ce.fact 172 rfl)
  have m_Heap_begin : ∃ f fd, Md K (ga K "Heap") "begin" "Heap.begin" s_Heap_begin ["self", "roots"] f fd := by
    obtain ⟨fd, F⟩ := fun_of ce 77 (st := s_Heap_begin) rfl h_m_Heap_begin.kp
    exact ⟨_, fd, F, h_m_Heap_begin, F.binds (ps := ["self", "roots"]) fun _ _ _ _ _ _ us hl => match us, hl with | [_, _], _ => rfl⟩
  have h_m_Heap_slice : Meth K (ga K "Heap") "slice" (ma K (ga K "Heap") "slice") := He.meth_ok (ce.fact 173 rfl)
  have m_Heap_slice : ∃ f fd, Md K (ga K "Heap") "slice" "Heap.slice" s_Heap_slice ["self", "count", "roots"] f fd := by
    obtain ⟨fd, F⟩ := fun_of ce 78 (st := s_Heap_slice) rfl h_m_Heap_slice.kp
    exact ⟨_, fd, F, h_m_Heap_slice, F.binds (ps := ["self", "count", "roots"]) fun _ _ _ _ _ _ us hl => match us, hl with | [_, _, _], _ => rfl⟩
  have h_m_Heap_whole : Meth K (ga K "Heap") "whole" (ma K (ga K "Heap") "whole") := He.meth_ok (ce.fact 174 rfl)
  have m_Heap_whole : ∃ f fd, Md K (ga K "Heap") "whole" "Heap.whole" s_Heap_whole ["self", "roots"] f fd := by
    obtain ⟨fd, F⟩ := fun_of ce 79 (st := s_Heap_whole) rfl h_m_Heap_whole.kp
    exact ⟨_, fd, F, h_m_Heap_whole, F.binds (ps := ["self", "roots"]) fun _ _ _ _ _ _ us hl => match us, hl with | [_, _], _ => rfl⟩
  have h_m_Heap_is_marking : Meth K (ga K "Heap") "is_marking" (ma K (ga K "Heap") "is_marking") := He.meth_ok (ce.fact 175 rfl)
  have m_Heap_is_marking : ∃ f fd, Md K (ga K "Heap") "is_marking" "Heap.is_marking" s_Heap_is_marking ["self"] f fd := by
    obtain ⟨fd, F⟩ := fun_of ce 80 (st := s_Heap_is_marking) rfl h_m_Heap_is_marking.kp
    exact ⟨_, fd, F, h_m_Heap_is_marking, F.binds (ps := ["self"]) fun _ _ _ _ _ _ us hl => match us, hl with | [_], _ => rfl⟩
  have h_m_Heap_picture : Meth K (ga K "Heap") "picture" (ma K (ga K "Heap") "picture") := He.meth_ok (ce.fact 176 rfl)
  have m_Heap_picture : ∃ f fd, Md K (ga K "Heap") "picture" "Heap.picture" s_Heap_picture ["self"] f fd := by
    obtain ⟨fd, F⟩ := fun_of ce 81 (st := s_Heap_picture) rfl h_m_Heap_picture.kp
    exact ⟨_, fd, F, h_m_Heap_picture, F.binds (ps := ["self"]) fun _ _ _ _ _ _ us hl => match us, hl with | [_], _ => rfl⟩
  exact { b_bool := z_bool, b_enumerate := z_enumerate, b_int := z_int, b_isinstance := z_isinstance, b_len := z_len, b_list := z_list, b_max := z_max, b_min := z_min, b_range := z_range, b_sorted := z_sorted, b_str := z_str, b_sum := z_sum, b_tuple := z_tuple, c_LEAST_INT := i_LEAST_INT, c_GREATEST_INT := i_GREATEST_INT, c_MOST_ENTRIES := i_MOST_ENTRIES, c_LINK_ROW := i_LINK_ROW, c_SIGNS := i_SIGNS, c_WHITE := i_WHITE, c_GREY := i_GREY, c_BLACK := i_BLACK, c_HEAD_WORDS := i_HEAD_WORDS, c_MOST_SHAPES := i_MOST_SHAPES, c_MOST_SHAPE_FIELDS := i_MOST_SHAPE_FIELDS, c_LEAST_NURSERY := i_LEAST_NURSERY, c_MOST_ROOM := i_MOST_ROOM, c_LEAST_GREAT := i_LEAST_GREAT, c_MOST_AGE := i_MOST_AGE, c_MOST_ROOTS := i_MOST_ROOTS, g_Moving := g_Moving, g_Memory := g_Memory, g_Heap := g_Heap, f__wall := d__wall, f_is_integer := d_is_integer, f_is_between := d_is_between, f_is_tuple_to := d_is_tuple_to, f_is_tuple_of := d_is_tuple_of, f_look_at_shapes := d_look_at_shapes, f_look_at_sizes := d_look_at_sizes, f_look_at_kind := d_look_at_kind, f_look_at_size := d_look_at_size, f_is_size := d_is_size, f_look_at_roots := d_look_at_roots, f_are_roots := d_are_roots, f_shape_links := d_shape_links, f_is_link := d_is_link, f_head_word := d_head_word, f_kind_told := d_kind_told, f_age_told := d_age_told, f_colour_told := d_colour_told, f_move_young := d_move_young, f__law_feed := d__law_feed, f__law_draw := d__law_draw, f__law_one := d__law_one, f__law_shapes := d__law_shapes, f__law_sizes := d__law_sizes, f__law_same := d__law_same, f__law_address := d__law_address, f__law_words := d__law_words, f__law_roots := d__law_roots, f__law_minor := d__law_minor, f__law_made := d__law_made, f__law_deed := d__law_deed, f__law_picture := d__law_picture, f_law := d_law, cl_Moving := c_Moving, n_Moving_memory := n_Moving_memory, n_Moving_is_settling := n_Moving_is_settling, n_Moving_half := n_Moving_half, n_Moving_moved := n_Moving_moved, n_Moving_to_half := n_Moving_to_half, n_Moving_to_old := n_Moving_to_old, cl_Memory := c_Memory, n_Memory_shapes := n_Memory_shapes, n_Memory_sizes := n_Memory_sizes, n_Memory_great := n_Memory_great, n_Memory_age := n_Memory_age, n_Memory_firsts := n_Memory_firsts, n_Memory_first_old := n_Memory_first_old, n_Memory_shapes_links := n_Memory_shapes_links, n_Memory_words := n_Memory_words, n_Memory_nexts := n_Memory_nexts, n_Memory_half := n_Memory_half, n_Memory_young := n_Memory_young, n_Memory_old := n_Memory_old, n_Memory_remembered := n_Memory_remembered, n_Memory_grey := n_Memory_grey, n_Memory_done := n_Memory_done, n_Memory_marks := n_Memory_marks, n_Memory_ended := n_Memory_ended, cl_Heap := c_Heap, n_Heap_memory := n_Heap_memory, i_Moving := m_Moving_init, m_Moving_led := m_Moving_led, m_Moving_move := m_Moving_move, m_Moving_lead_moved := m_Moving_lead_moved, m_Moving_lead_slots := m_Moving_lead_slots, m_Moving_finish := m_Moving_finish, i_Memory := m_Memory_init, m_Memory_is_object := m_Memory_is_object, m_Memory_is_young := m_Memory_is_young, m_Memory_kind := m_Memory_kind, m_Memory_slots := m_Memory_slots, m_Memory_age_of := m_Memory_age_of, m_Memory_size := m_Memory_size, m_Memory_link_places := m_Memory_link_places, m_Memory_is_great := m_Memory_is_great, m_Memory_fits := m_Memory_fits, m_Memory_lay_young := m_Memory_lay_young, m_Memory_lay_old := m_Memory_lay_old, m_Memory_make := m_Memory_make, m_Memory_set_link := m_Memory_set_link, m_Memory_is_white := m_Memory_is_white, m_Memory_shade := m_Memory_shade, m_Memory_grey_row := m_Memory_grey_row, m_Memory_room := m_Memory_room, m_Memory_old_room := m_Memory_old_room, i_Heap := m_Heap_init, m_Heap_make := m_Heap_make, m_Heap_has_room := m_Heap_has_room, m_Heap_moved_young := m_Heap_moved_young, m_Heap_look_at := m_Heap_look_at, m_Heap_look_at_address := m_Heap_look_at_address, m_Heap_look_at_slot := m_Heap_look_at_slot, m_Heap_kind := m_Heap_kind, m_Heap_slots := m_Heap_slots, m_Heap_get := m_Heap_get, m_Heap_put := m_Heap_put, m_Heap_where := m_Heap_where, m_Heap_remembered := m_Heap_remembered, m_Heap_graph := m_Heap_graph, m_Heap_traced := m_Heap_traced, m_Heap_unreached := m_Heap_unreached, m_Heap_counts := m_Heap_counts, m_Heap_minor := m_Heap_minor, m_Heap_settle := m_Heap_settle, m_Heap_begin := m_Heap_begin, m_Heap_slice := m_Heap_slice, m_Heap_whole := m_Heap_whole, m_Heap_is_marking := m_Heap_is_marking, m_Heap_picture := m_Heap_picture }
end HX

namespace HX
open PySem PySem.Spec PyProof.Rows L2 T KA KK PH
theorem law_binds {K : PySem.W.Frag} {f : Addr} {fd : FuncData} (F : L2.Fun K "law" "law" s_law f fd) : ∀ (s : Shared) (v : Value), BindsTo s fd ⟨[v], []⟩ [("_law_script", v)] := by
  obtain ⟨oc, od, kV, doc, pm, an, cdv, ct, osl, rfl, lk, hcd⟩ := F.ex
  exact fun s v => .of_eq rfl
theorem walked {w : World} {mg : Str → Option Value} {fa : Addr} {h : Heap} (Y : hook.says w h) (G : h.Ns mainGlobals mg) (hmg : mg ("law" : PySem.Str) = some (.ref fa)) :
    ∃ (K : PySem.W.Frag) (fd : FuncData) (sp : Sp), K.In h ∧ (∀ (s : Shared) (u : Value), BindsTo s fd ⟨[u], []⟩ [("_law_script", u)]) ∧
      (∀ (H : Hp) (a : Addr) (ns : List Int), ns.length ≤ 63 → Only H → SqL K H a (ns.map V.int) → sp [.ref a] H (fun v _ => v = .bl true) fun _ _ _ => False) ∧
      ∀ base : Heap, K.In base → base.Ns mainGlobals mg → FnOk R.prog w K mg base CX0 12 fa fd ["_law_script"] sp := by
  obtain ⟨K, KX, c⟩ := Y
  have L := lw KX G c
  obtain ⟨f, fd, gl⟩ := L.f_law
  have e := hmg.symm.trans gl.g
  cases e
  exact ⟨K, fd, PH.spLaw K, KX, law_binds gl.F, fun H a ns hl _ hS => ⟨a, ns, rfl, hS, hl, fun _ => rfl⟩, fun base _ _ => PH.ok_law gl L⟩
theorem room : Room 12 callerA := ⟨rfl, by decide, by decide⟩
end HX

open PySem PySem.W PyProof.Rows
set_option maxRecDepth 100000 in
set_option maxHeartbeats 0 in
theorem PySem.Challenge.cw_movedrun_k42_ages_and_halves_holds : PySem.Challenge.rw_movedrun_k42_ages_and_halves.Holds := by
  w_on; o_law
  refine HandSHeadRun.head_any (r := OpenLaw.row PySem.Challenge.rw_movedrun_k42_ages_and_halves) (q := HX.qv) (H := HX.hook) (ob := HX.ob) (M := 15000) (loose := HX.names) (d := HandSHeadRun.topDef (OpenLaw.row PySem.Challenge.rw_movedrun_k42_ages_and_halves).prog 67) (kwd := []) HX.ob_eq
    (by kernel_rfl) (fun s => by kernel_rfl) HX.run (by kernel_rfl) (by kernel_rfl) (by kernel_rfl) (by rfl) (by first | assumption | decide +kernel) (by decide +kernel) ⟨rfl, rfl, rfl, rfl, rfl, by decide +kernel⟩ ?hw ?hc
  case hw => w_witness2
  case hc =>
    refine L2.walk_ofE (l := PySem.Challenge.rw_movedrun_k42_ages_and_halves) (n := 63) (k := 12) (x := "_law_script") (CX := L2.CX0) rfl (by decide) (by kernel_rfl) HX.room ?F (fun _ _ _ _ z => z)
    intro w mg fa h Y G hmg0
    have hmg : mg ("law" : PySem.Str) = some (.ref fa) := by
      have e : (HandSHeadRun.topDef (OpenLaw.row PySem.Challenge.rw_movedrun_k42_ages_and_halves).prog 67).name = ("law" : PySem.Str) := by kernel_rfl
      rw [← e]
      exact hmg0
    exact HX.walked Y G hmg
