import PyProof.Rows.All
import Wide.All
import OpenK.AllK
import Wide.FinOn
import HandS.ForExc
import HandS.Wide
import HandS.IsInst
import HandS.ExcInit
import HandS.CallLocal
import HandS.IterVal
import HandS.Codes
import HandS.Flow
import KE.KStateDown
import Lean
import HandS.Base
import HandS.Call
import HandS.Ends
import HandS.More
import HandS.Words
import HandS.WordsExc
import HandS.Defaults
import HandS.Head0
import HandS.Head1
import HandS.Head2
import HandS.HeadEnd
import HandS.HeadHook1
import HandS.HeadHook2
import HandS.HeadHook3
import HandS.HeadHook4
import HandS.ForMost
import HandS.MakeKwOnly
import HandS.Conv
import KE.GoesMore
import HandS.Walk
import HandS.Style
import PySem.Challenge.RW_movedrun_k59_plain_heaps
set_option Elab.async false
set_option linter.all false
set_option maxRecDepth 100000
set_option maxHeartbeats 16000000
namespace T
open PySem L2
def top (i : Nat) : Stmt := PySem.Challenge.pw_movedrun_k59_plain_heaps.main.body.getD i (.Pass ⟨0, 0, 0, 0⟩)
abbrev s_is_integer : Stmt := top 13
theorem sc_is_integer : FnScope ["thing"] ["thing"] (defScope s_is_integer) := ⟨rfl, rfl, rfl, by decide +kernel, rfl, by decide +kernel, by decide +kernel⟩
abbrev s_is_between : Stmt := top 14
theorem sc_is_between : FnScope ["thing", "least", "greatest"] ["thing", "least", "greatest"] (defScope s_is_between) := ⟨rfl, rfl, rfl, by decide +kernel, rfl, by decide +kernel, by decide +kernel⟩
abbrev s_is_tuple_to : Stmt := top 15
theorem sc_is_tuple_to : FnScope ["thing", "most"] ["thing", "most"] (defScope s_is_tuple_to) := ⟨rfl, rfl, rfl, by decide +kernel, rfl, by decide +kernel, by decide +kernel⟩
abbrev s_look_at_shapes : Stmt := top 24
theorem sc_look_at_shapes : FnScope ["shapes", "shape", "truth"] ["shapes"] (defScope s_look_at_shapes) := ⟨rfl, rfl, rfl, by decide +kernel, rfl, by decide +kernel, by decide +kernel⟩
abbrev s_look_at_kind : Stmt := top 25
theorem sc_look_at_kind : FnScope ["shapes", "kind"] ["shapes", "kind"] (defScope s_look_at_kind) := ⟨rfl, rfl, rfl, by decide +kernel, rfl, by decide +kernel, by decide +kernel⟩
abbrev s_look_at_size : Stmt := top 26
theorem sc_look_at_size : FnScope ["shapes", "kind", "slots"] ["shapes", "kind", "slots"] (defScope s_look_at_size) := ⟨rfl, rfl, rfl, by decide +kernel, rfl, by decide +kernel, by decide +kernel⟩
abbrev s_is_size : Stmt := top 27
theorem sc_is_size : FnScope ["shapes", "kind", "slots"] ["shapes", "kind", "slots"] (defScope s_is_size) := ⟨rfl, rfl, rfl, by decide +kernel, rfl, by decide +kernel, by decide +kernel⟩
abbrev s_look_at_roots : Stmt := top 28
theorem sc_look_at_roots : FnScope ["roots", "holder"] ["roots", "holder"] (defScope s_look_at_roots) := ⟨rfl, rfl, rfl, by decide +kernel, rfl, by decide +kernel, by decide +kernel⟩
abbrev s_are_roots : Stmt := top 29
theorem sc_are_roots : FnScope ["roots", "holder", "root"] ["roots", "holder"] (defScope s_are_roots) := ⟨rfl, rfl, rfl, by decide +kernel, rfl, by decide +kernel, by decide +kernel⟩
abbrev s_shape_links : Stmt := top 30
theorem sc_shape_links : FnScope ["shape", "index", "truth"] ["shape"] (defScope s_shape_links) := ⟨rfl, rfl, rfl, by decide +kernel, rfl, by decide +kernel, by decide +kernel⟩
abbrev s_is_link : Stmt := top 31
theorem sc_is_link : FnScope ["shapes", "kind", "slot"] ["shapes", "kind", "slot"] (defScope s_is_link) := ⟨rfl, rfl, rfl, by decide +kernel, rfl, by decide +kernel, by decide +kernel⟩
abbrev s_Tracing_init : Stmt := inClass (top 33) 0
theorem sc_Tracing_init : FnScope ["self", "shapes", "roots", "shape", "root"] ["self", "shapes", "roots"] (defScope s_Tracing_init) := ⟨rfl, rfl, rfl, by decide +kernel, rfl, by decide +kernel, by decide +kernel⟩
abbrev s_Tracing_number : Stmt := inClass (top 33) 1
theorem sc_Tracing_number : FnScope ["self", "name"] ["self", "name"] (defScope s_Tracing_number) := ⟨rfl, rfl, rfl, by decide +kernel, rfl, by decide +kernel, by decide +kernel⟩
abbrev s_Tracing_waits : Stmt := inClass (top 33) 2
theorem sc_Tracing_waits : FnScope ["self"] ["self"] (defScope s_Tracing_waits) := ⟨rfl, rfl, rfl, by decide +kernel, rfl, by decide +kernel, by decide +kernel⟩
abbrev s_Tracing_first_untold : Stmt := inClass (top 33) 3
theorem sc_Tracing_first_untold : FnScope ["self"] ["self"] (defScope s_Tracing_first_untold) := ⟨rfl, rfl, rfl, by decide +kernel, rfl, by decide +kernel, by decide +kernel⟩
abbrev s_Tracing_tell : Stmt := inClass (top 33) 4
theorem sc_Tracing_tell : FnScope ["self", "kind", "body", "slot"] ["self", "kind", "body"] (defScope s_Tracing_tell) := ⟨rfl, rfl, rfl, by decide +kernel, rfl, by decide +kernel, by decide +kernel⟩
abbrev s_Tracing_links : Stmt := inClass (top 33) 5
theorem sc_Tracing_links : FnScope ["self", "kind", "many"] ["self", "kind", "many"] (defScope s_Tracing_links) := ⟨rfl, rfl, rfl, by decide +kernel, rfl, by decide +kernel, by decide +kernel⟩
abbrev s_Tracing_many : Stmt := inClass (top 33) 6
theorem sc_Tracing_many : FnScope ["self"] ["self"] (defScope s_Tracing_many) := ⟨rfl, rfl, rfl, by decide +kernel, rfl, by decide +kernel, by decide +kernel⟩
abbrev s_Tracing_graph : Stmt := inClass (top 33) 7
theorem sc_Tracing_graph : FnScope ["self"] ["self"] (defScope s_Tracing_graph) := ⟨rfl, rfl, rfl, by decide +kernel, rfl, by decide +kernel, by decide +kernel⟩
abbrev s_PlainHeap_init : Stmt := inClass (top 35) 0
theorem sc_PlainHeap_init : FnScope ["self", "shapes"] ["self", "shapes"] (defScope s_PlainHeap_init) := ⟨rfl, rfl, rfl, by decide +kernel, rfl, by decide +kernel, by decide +kernel⟩
abbrev s_PlainHeap_is_object : Stmt := inClass (top 35) 1
theorem sc_PlainHeap_is_object : FnScope ["self", "address"] ["self", "address"] (defScope s_PlainHeap_is_object) := ⟨rfl, rfl, rfl, by decide +kernel, rfl, by decide +kernel, by decide +kernel⟩
abbrev s_PlainHeap_look_at : Stmt := inClass (top 35) 2
theorem sc_PlainHeap_look_at : FnScope ["self", "roots"] ["self", "roots"] (defScope s_PlainHeap_look_at) := ⟨rfl, rfl, rfl, by decide +kernel, rfl, by decide +kernel, by decide +kernel⟩
abbrev s_PlainHeap_look_at_address : Stmt := inClass (top 35) 3
theorem sc_PlainHeap_look_at_address : FnScope ["self", "address"] ["self", "address"] (defScope s_PlainHeap_look_at_address) := ⟨rfl, rfl, rfl, by decide +kernel, rfl, by decide +kernel, by decide +kernel⟩
abbrev s_PlainHeap_look_at_slot : Stmt := inClass (top 35) 4
theorem sc_PlainHeap_look_at_slot : FnScope ["self", "address", "slot"] ["self", "address", "slot"] (defScope s_PlainHeap_look_at_slot) := ⟨rfl, rfl, rfl, by decide +kernel, rfl, by decide +kernel, by decide +kernel⟩
abbrev s_PlainHeap_make : Stmt := inClass (top 35) 5
theorem sc_PlainHeap_make : FnScope ["self", "kind", "slots", "roots"] ["self", "kind", "slots", "roots"] (defScope s_PlainHeap_make) := ⟨rfl, rfl, rfl, by decide +kernel, rfl, by decide +kernel, by decide +kernel⟩
abbrev s_PlainHeap_kind : Stmt := inClass (top 35) 6
theorem sc_PlainHeap_kind : FnScope ["self", "address"] ["self", "address"] (defScope s_PlainHeap_kind) := ⟨rfl, rfl, rfl, by decide +kernel, rfl, by decide +kernel, by decide +kernel⟩
abbrev s_PlainHeap_slots : Stmt := inClass (top 35) 7
theorem sc_PlainHeap_slots : FnScope ["self", "address"] ["self", "address"] (defScope s_PlainHeap_slots) := ⟨rfl, rfl, rfl, by decide +kernel, rfl, by decide +kernel, by decide +kernel⟩
abbrev s_PlainHeap_get : Stmt := inClass (top 35) 8
theorem sc_PlainHeap_get : FnScope ["self", "address", "slot"] ["self", "address", "slot"] (defScope s_PlainHeap_get) := ⟨rfl, rfl, rfl, by decide +kernel, rfl, by decide +kernel, by decide +kernel⟩
abbrev s_PlainHeap_put : Stmt := inClass (top 35) 9
theorem sc_PlainHeap_put : FnScope ["self", "address", "slot", "value"] ["self", "address", "slot", "value"] (defScope s_PlainHeap_put) := ⟨rfl, rfl, rfl, by decide +kernel, rfl, by decide +kernel, by decide +kernel⟩
abbrev s_PlainHeap_graph : Stmt := inClass (top 35) 10
theorem sc_PlainHeap_graph : FnScope ["self", "roots"] ["self", "roots"] (defScope s_PlainHeap_graph) := ⟨rfl, rfl, rfl, by decide +kernel, rfl, by decide +kernel, by decide +kernel⟩
abbrev s_PlainHeap_traced : Stmt := inClass (top 35) 11
theorem sc_PlainHeap_traced : FnScope ["self", "roots", "tracing", "address"] ["self", "roots"] (defScope s_PlainHeap_traced) := ⟨rfl, rfl, rfl, by decide +kernel, rfl, by decide +kernel, by decide +kernel⟩
abbrev s_PlainHeap_unreached : Stmt := inClass (top 35) 12
theorem sc_PlainHeap_unreached : FnScope ["self", "roots"] ["self", "roots"] (defScope s_PlainHeap_unreached) := ⟨rfl, rfl, rfl, by decide +kernel, rfl, by decide +kernel, by decide +kernel⟩
abbrev s_PlainHeap_minor : Stmt := inClass (top 35) 13
theorem sc_PlainHeap_minor : FnScope ["self", "roots"] ["self", "roots"] (defScope s_PlainHeap_minor) := ⟨rfl, rfl, rfl, by decide +kernel, rfl, by decide +kernel, by decide +kernel⟩
abbrev s_PlainHeap_settle : Stmt := inClass (top 35) 14
theorem sc_PlainHeap_settle : FnScope ["self", "roots"] ["self", "roots"] (defScope s_PlainHeap_settle) := ⟨rfl, rfl, rfl, by decide +kernel, rfl, by decide +kernel, by decide +kernel⟩
abbrev s_PlainHeap_begin : Stmt := inClass (top 35) 15
theorem sc_PlainHeap_begin : FnScope ["self", "roots"] ["self", "roots"] (defScope s_PlainHeap_begin) := ⟨rfl, rfl, rfl, by decide +kernel, rfl, by decide +kernel, by decide +kernel⟩
abbrev s_PlainHeap_slice : Stmt := inClass (top 35) 16
theorem sc_PlainHeap_slice : FnScope ["self", "count", "roots"] ["self", "count", "roots"] (defScope s_PlainHeap_slice) := ⟨rfl, rfl, rfl, by decide +kernel, rfl, by decide +kernel, by decide +kernel⟩
abbrev s_PlainHeap_whole : Stmt := inClass (top 35) 17
theorem sc_PlainHeap_whole : FnScope ["self", "roots"] ["self", "roots"] (defScope s_PlainHeap_whole) := ⟨rfl, rfl, rfl, by decide +kernel, rfl, by decide +kernel, by decide +kernel⟩
abbrev s_law_feed : Stmt := top 37
theorem sc_law_feed : FnScope ["_law_script", "_law_k", "_law_cell"] ["_law_script", "_law_k"] (defScope s_law_feed) := ⟨rfl, rfl, rfl, by decide +kernel, rfl, by decide +kernel, by decide +kernel⟩
abbrev s_law_draw : Stmt := top 38
theorem sc_law_draw : FnScope ["_law_feed_here", "_law_many", "_law_rest", "_law_got", "_law_stir"] ["_law_feed_here", "_law_many"] (defScope s_law_draw) := ⟨rfl, rfl, rfl, by decide +kernel, rfl, by decide +kernel, by decide +kernel⟩
abbrev s_law_one : Stmt := top 39
theorem sc_law_one : FnScope ["_law_feed_here", "_law_things"] ["_law_feed_here", "_law_things"] (defScope s_law_one) := ⟨rfl, rfl, rfl, by decide +kernel, rfl, by decide +kernel, by decide +kernel⟩
abbrev s_law_shapes : Stmt := top 40
theorem sc_law_shapes : FnScope ["_law_feed_here", "_law_way", "_law_wide", "_law_shapes_here", "_law_turn", "_law_many", "_law_field"] ["_law_feed_here"] (defScope s_law_shapes) := ⟨rfl, rfl, rfl, by decide +kernel, rfl, by decide +kernel, by decide +kernel⟩
abbrev s_law_kinds_of : Stmt := top 41
theorem sc_law_kinds_of : FnScope ["_law_shapes_here"] ["_law_shapes_here"] (defScope s_law_kinds_of) := ⟨rfl, rfl, rfl, by decide +kernel, rfl, by decide +kernel, by decide +kernel⟩
abbrev s_law_equal : Stmt := top 42
theorem sc_law_equal : FnScope ["_law_found", "_law_due", "_law_k"] ["_law_found", "_law_due"] (defScope s_law_equal) := ⟨rfl, rfl, rfl, by decide +kernel, rfl, by decide +kernel, by decide +kernel⟩
abbrev s_law_flags : Stmt := top 43
theorem sc_law_flags : FnScope ["_law_own", "_law_number", "_law_kind", "_law_many"] ["_law_own", "_law_number"] (defScope s_law_flags) := ⟨rfl, rfl, rfl, by decide +kernel, rfl, by decide +kernel, by decide +kernel⟩
abbrev s_law_held : Stmt := top 44
theorem sc_law_held : FnScope ["_law_own", "_law_number", "_law_flags_here", "_law_body", "_law_slot"] ["_law_own", "_law_number"] (defScope s_law_held) := ⟨rfl, rfl, rfl, by decide +kernel, rfl, by decide +kernel, by decide +kernel⟩
abbrev s_law_reach : Stmt := top 45
theorem sc_law_reach : FnScope ["_law_own", "_law_hands", "_law_names", "_law_order", "_law_number", "_law_k"] ["_law_own", "_law_hands"] (defScope s_law_reach) := ⟨rfl, rfl, rfl, by decide +kernel, rfl, by decide +kernel, by decide +kernel⟩
abbrev s_law_graph : Stmt := top 46
theorem sc_law_graph : FnScope ["_law_own", "_law_hands", "_law_order", "_law_names", "_law_things", "_law_number", "_law_kind", "_law_body", "_law_flags_here", "_law_slot"] ["_law_own", "_law_hands"] (defScope s_law_graph) := ⟨rfl, rfl, rfl, by decide +kernel, rfl, by decide +kernel, by decide +kernel⟩
abbrev s_law_worth : Stmt := top 47
theorem sc_law_worth : FnScope ["_law_feed_here"] ["_law_feed_here"] (defScope s_law_worth) := ⟨rfl, rfl, rfl, by decide +kernel, rfl, by decide +kernel, by decide +kernel⟩
abbrev s_law_new_kind : Stmt := top 48
theorem sc_law_new_kind : FnScope ["_law_feed_here", "_law_shapes_here", "_law_budget", "_law_kind", "_law_many"] ["_law_feed_here", "_law_shapes_here", "_law_budget"] (defScope s_law_new_kind) := ⟨rfl, rfl, rfl, by decide +kernel, rfl, by decide +kernel, by decide +kernel⟩
abbrev s_law_roots : Stmt := top 49
theorem sc_law_roots : FnScope ["_law_feed_here", "_law_many", "_law_turn"] ["_law_feed_here", "_law_many"] (defScope s_law_roots) := ⟨rfl, rfl, rfl, by decide +kernel, rfl, by decide +kernel, by decide +kernel⟩
abbrev s_law_collection : Stmt := top 50
theorem sc_law_collection : FnScope ["_law_heap", "_law_feed_here", "_law_roots_here", "_law_way", "_law_named", "_law_count"] ["_law_heap", "_law_feed_here", "_law_roots_here"] (defScope s_law_collection) := ⟨rfl, rfl, rfl, by decide +kernel, rfl, by decide +kernel, by decide +kernel⟩
abbrev s_law_plain : Stmt := top 51
theorem sc_law_plain : FnScope ["_law_heap", "_law_own", "_law_feed_here", "_law_budget", "_law_many", "_law_word", "_law_roots_here", "_law_made", "_law_number", "_law_kind", "_law_body", "_law_slot"] ["_law_heap", "_law_own", "_law_feed_here", "_law_budget"] (defScope s_law_plain) := ⟨rfl, rfl, rfl, by decide +kernel, rfl, by decide +kernel, by decide +kernel⟩
abbrev s_law : Stmt := top 52
theorem sc_law : FnScope ["_law_script", "_law_shapes_here", "_law_own", "_law_heap", "_law_budget", "_law_held_here", "_law_k", "_law_feed_here", "_law_turn", "_law_many", "_law_roots_here", "_law_due", "_law_found"] ["_law_script"] (defScope s_law) := ⟨rfl, rfl, rfl, by decide +kernel, rfl, by decide +kernel, by decide +kernel⟩
end T

/-! What the head tells. -/
namespace HX
open PySem PySem.Spec PyProof.Rows L2 T
open He (Fa FnD ga ma)
def fn0 : List FnD := [⟨("is_integer", none), "is_integer", "is_integer", defArgs s_is_integer, defBody s_is_integer, defScope s_is_integer⟩, ⟨("is_between", none), "is_between", "is_between", defArgs s_is_between, defBody s_is_between, defScope s_is_between⟩, ⟨("is_tuple_to", none), "is_tuple_to", "is_tuple_to", defArgs s_is_tuple_to, defBody s_is_tuple_to, defScope s_is_tuple_to⟩, ⟨("look_at_shapes", none), "look_at_shapes", "look_at_shapes", defArgs s_look_at_shapes, defBody s_look_at_shapes, defScope s_look_at_shapes⟩, ⟨("look_at_kind", none), "look_at_kind", "look_at_kind", defArgs s_look_at_kind, defBody s_look_at_kind, defScope s_look_at_kind⟩, ⟨("look_at_size", none), "look_at_size", "look_at_size", defArgs s_look_at_size, defBody s_look_at_size, defScope s_look_at_size⟩, ⟨("is_size", none), "is_size", "is_size", defArgs s_is_size, defBody s_is_size, defScope s_is_size⟩, ⟨("look_at_roots", none), "look_at_roots", "look_at_roots", defArgs s_look_at_roots, defBody s_look_at_roots, defScope s_look_at_roots⟩, ⟨("are_roots", none), "are_roots", "are_roots", defArgs s_are_roots, defBody s_are_roots, defScope s_are_roots⟩, ⟨("shape_links", none), "shape_links", "shape_links", defArgs s_shape_links, defBody s_shape_links, defScope s_shape_links⟩, ⟨("is_link", none), "is_link", "is_link", defArgs s_is_link, defBody s_is_link, defScope s_is_link⟩, ⟨("_law_feed", none), "_law_feed", "_law_feed", defArgs s_law_feed, defBody s_law_feed, defScope s_law_feed⟩]
def fn1 : List FnD := [⟨("_law_draw", none), "_law_draw", "_law_draw", defArgs s_law_draw, defBody s_law_draw, defScope s_law_draw⟩, ⟨("_law_one", none), "_law_one", "_law_one", defArgs s_law_one, defBody s_law_one, defScope s_law_one⟩, ⟨("_law_shapes", none), "_law_shapes", "_law_shapes", defArgs s_law_shapes, defBody s_law_shapes, defScope s_law_shapes⟩, ⟨("_law_kinds_of", none), "_law_kinds_of", "_law_kinds_of", defArgs s_law_kinds_of, defBody s_law_kinds_of, defScope s_law_kinds_of⟩, ⟨("_law_equal", none), "_law_equal", "_law_equal", defArgs s_law_equal, defBody s_law_equal, defScope s_law_equal⟩, ⟨("_law_flags", none), "_law_flags", "_law_flags", defArgs s_law_flags, defBody s_law_flags, defScope s_law_flags⟩, ⟨("_law_held", none), "_law_held", "_law_held", defArgs s_law_held, defBody s_law_held, defScope s_law_held⟩, ⟨("_law_reach", none), "_law_reach", "_law_reach", defArgs s_law_reach, defBody s_law_reach, defScope s_law_reach⟩, ⟨("_law_graph", none), "_law_graph", "_law_graph", defArgs s_law_graph, defBody s_law_graph, defScope s_law_graph⟩, ⟨("_law_worth", none), "_law_worth", "_law_worth", defArgs s_law_worth, defBody s_law_worth, defScope s_law_worth⟩, ⟨("_law_new_kind", none), "_law_new_kind", "_law_new_kind", defArgs s_law_new_kind, defBody s_law_new_kind, defScope s_law_new_kind⟩, ⟨("_law_roots", none), "_law_roots", "_law_roots", defArgs s_law_roots, defBody s_law_roots, defScope s_law_roots⟩]
def fn2 : List FnD := [⟨("_law_collection", none), "_law_collection", "_law_collection", defArgs s_law_collection, defBody s_law_collection, defScope s_law_collection⟩, ⟨("_law_plain", none), "_law_plain", "_law_plain", defArgs s_law_plain, defBody s_law_plain, defScope s_law_plain⟩, ⟨("law", none), "law", "law", defArgs s_law, defBody s_law, defScope s_law⟩, ⟨("Tracing", some "__init__"), "__init__", "Tracing.__init__", defArgs s_Tracing_init, defBody s_Tracing_init, defScope s_Tracing_init⟩, ⟨("Tracing", some "number"), "number", "Tracing.number", defArgs s_Tracing_number, defBody s_Tracing_number, defScope s_Tracing_number⟩, ⟨("Tracing", some "waits"), "waits", "Tracing.waits", defArgs s_Tracing_waits, defBody s_Tracing_waits, defScope s_Tracing_waits⟩, ⟨("Tracing", some "first_untold"), "first_untold", "Tracing.first_untold", defArgs s_Tracing_first_untold, defBody s_Tracing_first_untold, defScope s_Tracing_first_untold⟩, ⟨("Tracing", some "tell"), "tell", "Tracing.tell", defArgs s_Tracing_tell, defBody s_Tracing_tell, defScope s_Tracing_tell⟩, ⟨("Tracing", some "links"), "links", "Tracing.links", defArgs s_Tracing_links, defBody s_Tracing_links, defScope s_Tracing_links⟩, ⟨("Tracing", some "many"), "many", "Tracing.many", defArgs s_Tracing_many, defBody s_Tracing_many, defScope s_Tracing_many⟩, ⟨("Tracing", some "graph"), "graph", "Tracing.graph", defArgs s_Tracing_graph, defBody s_Tracing_graph, defScope s_Tracing_graph⟩, ⟨("PlainHeap", some "__init__"), "__init__", "PlainHeap.__init__", defArgs s_PlainHeap_init, defBody s_PlainHeap_init, defScope s_PlainHeap_init⟩]
def fn3 : List FnD := [⟨("PlainHeap", some "is_object"), "is_object", "PlainHeap.is_object", defArgs s_PlainHeap_is_object, defBody s_PlainHeap_is_object, defScope s_PlainHeap_is_object⟩, ⟨("PlainHeap", some "look_at"), "look_at", "PlainHeap.look_at", defArgs s_PlainHeap_look_at, defBody s_PlainHeap_look_at, defScope s_PlainHeap_look_at⟩, ⟨("PlainHeap", some "look_at_address"), "look_at_address", "PlainHeap.look_at_address", defArgs s_PlainHeap_look_at_address, defBody s_PlainHeap_look_at_address, defScope s_PlainHeap_look_at_address⟩, ⟨("PlainHeap", some "look_at_slot"), "look_at_slot", "PlainHeap.look_at_slot", defArgs s_PlainHeap_look_at_slot, defBody s_PlainHeap_look_at_slot, defScope s_PlainHeap_look_at_slot⟩, ⟨("PlainHeap", some "make"), "make", "PlainHeap.make", defArgs s_PlainHeap_make, defBody s_PlainHeap_make, defScope s_PlainHeap_make⟩, ⟨("PlainHeap", some "kind"), "kind", "PlainHeap.kind", defArgs s_PlainHeap_kind, defBody s_PlainHeap_kind, defScope s_PlainHeap_kind⟩, ⟨("PlainHeap", some "slots"), "slots", "PlainHeap.slots", defArgs s_PlainHeap_slots, defBody s_PlainHeap_slots, defScope s_PlainHeap_slots⟩, ⟨("PlainHeap", some "get"), "get", "PlainHeap.get", defArgs s_PlainHeap_get, defBody s_PlainHeap_get, defScope s_PlainHeap_get⟩, ⟨("PlainHeap", some "put"), "put", "PlainHeap.put", defArgs s_PlainHeap_put, defBody s_PlainHeap_put, defScope s_PlainHeap_put⟩, ⟨("PlainHeap", some "graph"), "graph", "PlainHeap.graph", defArgs s_PlainHeap_graph, defBody s_PlainHeap_graph, defScope s_PlainHeap_graph⟩, ⟨("PlainHeap", some "traced"), "traced", "PlainHeap.traced", defArgs s_PlainHeap_traced, defBody s_PlainHeap_traced, defScope s_PlainHeap_traced⟩, ⟨("PlainHeap", some "unreached"), "unreached", "PlainHeap.unreached", defArgs s_PlainHeap_unreached, defBody s_PlainHeap_unreached, defScope s_PlainHeap_unreached⟩]
def fn4 : List FnD := [⟨("PlainHeap", some "minor"), "minor", "PlainHeap.minor", defArgs s_PlainHeap_minor, defBody s_PlainHeap_minor, defScope s_PlainHeap_minor⟩, ⟨("PlainHeap", some "settle"), "settle", "PlainHeap.settle", defArgs s_PlainHeap_settle, defBody s_PlainHeap_settle, defScope s_PlainHeap_settle⟩, ⟨("PlainHeap", some "begin"), "begin", "PlainHeap.begin", defArgs s_PlainHeap_begin, defBody s_PlainHeap_begin, defScope s_PlainHeap_begin⟩, ⟨("PlainHeap", some "slice"), "slice", "PlainHeap.slice", defArgs s_PlainHeap_slice, defBody s_PlainHeap_slice, defScope s_PlainHeap_slice⟩, ⟨("PlainHeap", some "whole"), "whole", "PlainHeap.whole", defArgs s_PlainHeap_whole, defBody s_PlainHeap_whole, defScope s_PlainHeap_whole⟩]
def fn : List FnD := fn0 ++ (fn1 ++ (fn2 ++ (fn3 ++ (fn4))))
def fa0 : List Fa := [.glo "is_integer", .keep "is_integer", .glo "is_between", .keep "is_between", .glo "is_tuple_to", .keep "is_tuple_to", .glo "look_at_shapes", .keep "look_at_shapes", .glo "look_at_kind", .keep "look_at_kind", .glo "look_at_size", .keep "look_at_size", .glo "is_size", .keep "is_size", .glo "look_at_roots", .keep "look_at_roots", .glo "are_roots", .keep "are_roots", .glo "shape_links", .keep "shape_links"]
def fa1 : List Fa := [.glo "is_link", .keep "is_link", .glo "_law_feed", .keep "_law_feed", .glo "_law_draw", .keep "_law_draw", .glo "_law_one", .keep "_law_one", .glo "_law_shapes", .keep "_law_shapes", .glo "_law_kinds_of", .keep "_law_kinds_of", .glo "_law_equal", .keep "_law_equal", .glo "_law_flags", .keep "_law_flags", .glo "_law_held", .keep "_law_held", .glo "_law_reach", .keep "_law_reach"]
def fa2 : List Fa := [.glo "_law_graph", .keep "_law_graph", .glo "_law_worth", .keep "_law_worth", .glo "_law_new_kind", .keep "_law_new_kind", .glo "_law_roots", .keep "_law_roots", .glo "_law_collection", .keep "_law_collection", .glo "_law_plain", .keep "_law_plain", .glo "law", .keep "law", .glo "Tracing", .glo "PlainHeap", .free "all", .free "bool", .free "enumerate", .free "int"]
def fa3 : List Fa := [.free "isinstance", .free "len", .free "list", .free "max", .free "min", .free "range", .free "str", .free "sum", .free "tuple", .int "LEAST_INT" (-2147483648), .int "GREATEST_INT" (2147483647), .int "MOST_ENTRIES" (1000), .int "LINK_ROW" (-2), .int "SIGNS" (-3), .int "MOST_SHAPES" (60), .int "MOST_SHAPE_FIELDS" (100), .int "MOST_ROOTS" (40000), .int "MOST_SLICE" (1000000), .cls "Tracing", .mkr "Tracing"]
def fa4 : List Fa := [.cls "PlainHeap", .mkr "PlainHeap", .noat "Tracing" "shapes_links", .noat "Tracing" "numbers_by_name", .noat "Tracing" "found", .noat "Tracing" "things", .noat "Tracing" "numbers", .noat "PlainHeap" "shapes", .noat "PlainHeap" "kinds", .noat "PlainHeap" "bodies", .meth "Tracing" "__init__", .meth "Tracing" "number", .meth "Tracing" "waits", .meth "Tracing" "first_untold", .meth "Tracing" "tell", .meth "Tracing" "links", .meth "Tracing" "many", .meth "Tracing" "graph", .meth "PlainHeap" "__init__", .meth "PlainHeap" "is_object"]
def fa5 : List Fa := [.meth "PlainHeap" "look_at", .meth "PlainHeap" "look_at_address", .meth "PlainHeap" "look_at_slot", .meth "PlainHeap" "make", .meth "PlainHeap" "kind", .meth "PlainHeap" "slots", .meth "PlainHeap" "get", .meth "PlainHeap" "put", .meth "PlainHeap" "graph", .meth "PlainHeap" "traced", .meth "PlainHeap" "unreached", .meth "PlainHeap" "minor", .meth "PlainHeap" "settle", .meth "PlainHeap" "begin", .meth "PlainHeap" "slice", .meth "PlainHeap" "whole"]
def fa : List Fa := fa0 ++ (fa1 ++ (fa2 ++ (fa3 ++ (fa4 ++ (fa5)))))
abbrev R : PySem.W.OpenRow := PySem.W.OpenLaw.row PySem.Challenge.rw_movedrun_k59_plain_heaps
abbrev Ob : Type := He.Al
def obs (K : PySem.W.Frag) : Ob := He.obsE fa fn K
def val (w : World) : Ob := He.valE fn
/-- what an object leads to -/
def leads (o : Obj) : List Addr := match o.data with
  | .dict es _ => es.toList.flatMap fun e => He.refV e.val
  | .func fd => He.refV fd.code ++ fd.closure.map (·.2)
  | .cls cd => cd.ns :: cd.mro.flatMap He.refV
  | _ => []
def onFrom (g : Addr → Option Obj) (as : List Addr) : List Addr := as.flatMap fun a => match g a with
  | some o => leads o
  | none => []
def layers (g : Addr → Option Obj) : Nat → List Addr → List Addr
  | 0, as => as
  | n + 1, as => as ++ layers g n (onFrom g as)
def at_ (g : Addr → Option Obj) : List Addr := cStatics :: layers g 4 [mainGlobals]
def obsG (g : Addr → Option Obj) : Ob := obs (He.frG g (at_ g))
def Says (w : World) (K : PySem.W.Frag) : Prop := obs K = val w
def hook : PySem.W.Hook where
  α := Ob
  obs := fun s => obsG s.heap.get?
  val := fun w => val w
  says := fun w h => ∃ K : PySem.W.Frag, K.In h ∧ Says w K
  of := fun _ _ e => ⟨_, He.frG_in, e⟩
  keeps := fun _ _ _ ⟨K, hK, c⟩ k => ⟨K, PySem.W.Frag.In.keeps hK k, c⟩
def ob (s : PySem.W.SharedT) : Ob := obsG (HandSHeadRun.getT s)
theorem ob_eq (s : PySem.W.SharedT) : ob s = hook.obs s.abs := by
  have e : HandSHeadRun.getT s = s.abs.heap.get? := funext (HandSHeadRun.getT_eq s)
  unfold ob
  rw [e]
  rfl
def names0 : List PySem.Str := ["__name__", "MachineError", "BadCount", "BadShapes", "BadKind", "BadSize", "BadValue", "BadRoots", "BadAddress", "BadSlot", "__name__", "LEAST_INT"]
def names1 : List PySem.Str := ["GREATEST_INT", "is_integer", "is_between", "is_tuple_to", "MOST_ENTRIES", "__name__", "LINK_ROW", "SIGNS", "MOST_SHAPES", "MOST_SHAPE_FIELDS", "MOST_ROOTS", "MOST_SLICE"]
def names2 : List PySem.Str := ["look_at_shapes", "look_at_kind", "look_at_size", "is_size", "look_at_roots", "are_roots", "shape_links", "is_link", "__name__", "Tracing", "__name__", "PlainHeap"]
def names3 : List PySem.Str := ["__name__", "_law_feed", "_law_draw", "_law_one", "_law_shapes", "_law_kinds_of", "_law_equal", "_law_flags", "_law_held", "_law_reach", "_law_graph", "_law_worth"]
def names4 : List PySem.Str := ["_law_new_kind", "_law_roots", "_law_collection", "_law_plain"]
def names : List PySem.Str := names0 ++ (names1 ++ (names2 ++ (names3 ++ (names4))))
abbrev qv : Program := PySem.W.view R.prog [52]
end HX

namespace HX
open PySem PySem.W PySem.Calls PyProof.Rows HandSHeadRun
set_option maxHeartbeats 0 in
theorem run (w : World) : RunEq R qv hook ob 15000 names w := by
  intro os
  kernel_rfl
end HX

/-! Data, draws, what is kept. -/
namespace PV
open PySem PySem.Spec PyProof.Rows L2
mutual
inductive Dv (H : Hp) : V → PyData → Prop
  | non : Dv H .non .none
  | bl (b : Bool) : Dv H (.bl b) (.bool b)
  | int (i : Int) : Dv H (.int i) (.int i)
  | str (z : Str) (hz : z.length ≤ 1000) : Dv H (.str z) (.str z)
  | tup {a : Addr} {xs : List V} {ds : List PyData} (h : H a = some (.tup xs)) (hl : xs.length ≤ 1000) (r : DvAll H xs ds) : Dv H (.ref a) (.tuple ds)
inductive DvAll (H : Hp) : List V → List PyData → Prop
  | nil : DvAll H [] []
  | cons {v : V} {vs : List V} {d : PyData} {ds : List PyData} (h : Dv H v d) (r : DvAll H vs ds) : DvAll H (v :: vs) (d :: ds)
end
mutual
theorem Dv.dp (K : PySem.W.Frag) {H : Hp} : ∀ {v : V} {d : PyData}, Dv H v d → Dp K H v d
  | _, _, .non => .non
  | _, _, .bl b => .bl b
  | _, _, .int i => .int i
  | _, _, .str z _ => .str z
  | _, _, .tup h _ r => .tup (SqT.of h) (DvAll.dp K r)
theorem DvAll.dp (K : PySem.W.Frag) {H : Hp} : ∀ {vs : List V} {ds : List PyData}, DvAll H vs ds → DpAll K H vs ds
  | _, _, .nil => .nil
  | _, _, .cons h r => .cons (Dv.dp K h) (DvAll.dp K r)
end
def TupSame (H H' : Hp) : Prop := ∀ a xs, H a = some (.tup xs) → H' a = some (.tup xs)
theorem TupSame.refl (H : Hp) : TupSame H H := fun _ _ e => e
theorem TupSame.trans {H H1 H2 : Hp} (a : TupSame H H1) (b : TupSame H1 H2) : TupSame H H2 := fun x xs e => b x xs (a x xs e)
theorem TupSame.of {H H' : Hp} (s : Same H H') : TupSame H H' := fun _ _ e => s _ _ e
mutual
theorem Dv.same {H H' : Hp} (s : TupSame H H') : ∀ {v : V} {d : PyData}, Dv H v d → Dv H' v d
  | _, _, .non => .non
  | _, _, .bl b => .bl b
  | _, _, .int i => .int i
  | _, _, .str z h => .str z h
  | _, _, .tup h hl r => .tup (s _ _ h) hl (DvAll.same s r)
theorem DvAll.same {H H' : Hp} (s : TupSame H H') : ∀ {vs : List V} {ds : List PyData}, DvAll H vs ds → DvAll H' vs ds
  | _, _, .nil => .nil
  | _, _, .cons h r => .cons (Dv.same s h) (DvAll.same s r)
end
theorem DvAll.len {H : Hp} : ∀ {vs : List V} {ds : List PyData}, DvAll H vs ds → vs.length = ds.length
  | _, _, .nil => rfl
  | _, _, .cons h r => congrArg (· + 1) r.len
theorem DvAll.get {H : Hp} : ∀ {vs : List V} {ds : List PyData} {i : Nat} {d : PyData}, DvAll H vs ds → ds[i]? = some d → ∃ v, vs[i]? = some v ∧ Dv H v d
  | _, _, _, _, .nil, e => by simp at e
  | _, _, 0, _, .cons h r, e => by
    simp at e
    rw [← e]
    exact ⟨_, rfl, h⟩
  | _, _, i + 1, _, .cons h r, e => by
    obtain ⟨v, e1, h1⟩ := r.get (i := i) (by simpa using e)
    exact ⟨v, by simpa using e1, h1⟩
/-- the words of a tuple -/
theorem Dv.tupE {H : Hp} {v : V} {ds : List PyData} (h : Dv H v (.tuple ds)) : ∃ a xs, v = .ref a ∧ H a = some (.tup xs) ∧ xs.length ≤ 1000 ∧ DvAll H xs ds := by
  cases h with
  | tup h hl r => exact ⟨_, _, rfl, h, hl, r⟩
theorem Dv.strE {H : Hp} {v : V} {z : Str} (h : Dv H v (.str z)) : v = .str z ∧ z.length ≤ 1000 := by
  cases h with
  | str _ hz => exact ⟨rfl, hz⟩
theorem DvAll.consE {H : Hp} {vs : List V} {d : PyData} {ds : List PyData} (h : DvAll H vs (d :: ds)) : ∃ u us, vs = u :: us ∧ Dv H u d ∧ DvAll H us ds := by
  cases h with
  | cons h r => exact ⟨_, _, rfl, h, r⟩
theorem DvAll.nilE {H : Hp} {vs : List V} (h : DvAll H vs []) : vs = [] := by cases h; rfl
end PV
namespace KI
open PySem PySem.Spec PyProof.Rows L2 PV
def isT : PyData → Bool
  | .tuple _ => true
  | _ => false
def isB : PyData → Bool
  | .bool _ => true
  | _ => false
/-- its type, as isinstance asks -/
theorem _root_.PV.Dv.ty {K : PySem.W.Frag} {H : Hp} {v : V} {d : PyData} (h : Dv H v d) : ∃ t : String, TyX K H v (.type t) ∧ PySem.W.kitOne K (.type t) (.type "bool") = some (isB d) ∧ PySem.W.kitOne K (.type t) (.type "tuple") = some (isT d) := by
  cases h with
  | non => exact ⟨"NoneType", .base .non, kit_ty (show kitB "NoneType" "bool" = some false by decide +kernel), kit_ty (show kitB "NoneType" "tuple" = some false by decide +kernel)⟩
  | bl b => exact ⟨"bool", .base (.bl b), kit_ty (show kitB "bool" "bool" = some true by decide +kernel), kit_ty (show kitB "bool" "tuple" = some false by decide +kernel)⟩
  | int i => exact ⟨"int", .base (.int i), kit_ty (show kitB "int" "bool" = some false by decide +kernel), kit_ty (show kitB "int" "tuple" = some false by decide +kernel)⟩
  | str z _ => exact ⟨"str", .base (.str z), kit_ty (show kitB "str" "bool" = some false by decide +kernel), kit_ty (show kitB "str" "tuple" = some false by decide +kernel)⟩
  | tup h _ r => exact ⟨"tuple", .base (.tup h), kit_ty (show kitB "tuple" "bool" = some false by decide +kernel), kit_ty (show kitB "tuple" "tuple" = some true by decide +kernel)⟩
theorem get2 {H : Hp} {vs : List V} {ds : List PyData} {i : Nat} {v : V} {d : PyData} (r : DvAll H vs ds) (e1 : vs[i]? = some v) (e2 : ds[i]? = some d) : Dv H v d := by
  obtain ⟨u, h1, h2⟩ := r.get e2
  rw [e1] at h1
  cases h1
  exact h2
theorem _root_.PV.DvAll.app {H : Hp} : ∀ {vs us : List V} {ds es : List PyData}, DvAll H vs ds → DvAll H us es → DvAll H (vs ++ us) (ds ++ es)
  | _, _, _, _, .nil, b => b
  | _, _, _, _, .cons h r, b => .cons h (r.app b)
theorem _root_.PV.DvAll.split {H : Hp} : ∀ {ds : List PyData} {e : PyData} {vs : List V}, DvAll H vs (ds ++ [e]) → ∃ us v, vs = us ++ [v] ∧ DvAll H us ds ∧ Dv H v e
  | [], e, _, .cons h .nil => ⟨[], _, rfl, .nil, h⟩
  | d :: ds, e, _, .cons h r => by
    obtain ⟨us, v, e1, r1, h1⟩ := r.split (ds := ds)
    exact ⟨_ :: us, v, by rw [e1]; rfl, .cons h r1, h1⟩
end KI
namespace KA
open T
open PySem L2
structure Gd (K : PySem.W.Frag) (mg : Str → Option Value) (x : Str) (st : Stmt) (ps : List Str) (f : Addr) (fd : FuncData) : Prop where
  F : Fun K x x st f fd
  g : mg x = some (.ref f)
  b : Binds K fd ps []
structure Md (K : PySem.W.Frag) (C : Addr) (x q : Str) (st : Stmt) (ps : List Str) (f : Addr) (fd : FuncData) : Prop where
  F : Fun K x q st f fd
  m : Meth K C x f
  b : Binds K fd ps []
/-- the feed at p, drawn from at most n times -/
def FeedAt (H : Hp) (p : Addr) (n : Nat) : Prop := ∃ a b c : Int, H p = some (.lst [.int a, .int b, .int c]) ∧ 0 ≤ a ∧ 0 ≤ b ∧ b < 10 ^ 40 ∧ 0 ≤ c ∧ c ≤ n
/-- all but p stands as it stood -/
def But (p : Addr) (H H' : Hp) : Prop := ∀ b, b ≠ p → H' b = H b
theorem But.refl (p : Addr) (H : Hp) : But p H H := fun _ _ => rfl
theorem But.trans {p : Addr} {H H1 H2 : Hp} (a : But p H H1) (b : But p H1 H2) : But p H H2 := fun c h => (b c h).trans (a c h)
theorem But.upd {p : Addr} {H : Hp} {o : HO} : But p H (upd H p o) := fun _ h => upd_ne h
theorem But.none {p q : Addr} {H H' : Hp} (a : But p H H') {o : HO} (hp : H p = some o) (h : H q = none) : H' q = none := by
  rw [a q (fun e => by rw [e, hp] at h; cases h)]
  exact h
theorem But.seq {K : PySem.W.Frag} {p q : Addr} {H H' : Hp} {xs : List V} (e : But p H H') (hq : q ≠ p) (h : SqL K H q xs) : SqL K H' q xs := by
  rcases h with (h | ⟨o, h⟩) | h
  · exact .inl (.inl ((e q hq).trans h))
  · exact .inl (.inr ⟨o, (e q hq).trans h⟩)
  · exact .inr h
theorem cut_ints (ns : List Int) (lo hi : Option Int) : ∃ ms : List Int, cutV (ns.map V.int) lo hi = ms.map V.int :=
  ⟨_, by unfold cutV; rw [← List.map_drop, ← List.map_take]⟩
def spFeed (K : PySem.W.Frag) : Sp := fun vs H Q _ => ∃ (a : Addr) (ns : List Int) (k : Nat), vs = [.ref a, .int k] ∧ SqL K H a (ns.map V.int) ∧ k ≤ 1000 ∧
  ∀ (p : Addr) (H' : Hp), H p = none → Same H H' → FeedAt H' p 0 → Q (.ref p) H'
def spDraw : Sp := fun vs H Q _ => ∃ (p : Addr) (m : Int) (n : Nat), vs = [.ref p, .int m] ∧ FeedAt H p n ∧ n ≤ 2 ^ 60 ∧ 0 < m ∧ m < 2 ^ 40 ∧
  ∀ (r : Int) (H' : Hp), 0 ≤ r → r < m → But p H H' → FeedAt H' p (n + 1) → Q (.int r) H'
/-- one of the things -/
def spOne (K : PySem.W.Frag) : Sp := fun vs H Q _ => ∃ (p : Addr) (n : Nat), FeedAt H p n ∧ n ≤ 2 ^ 60 ∧
  ((∃ (t : Addr) (xs : List V), vs = [.ref p, .ref t] ∧ t ≠ p ∧ SqL K H t xs ∧ 0 < xs.length ∧ xs.length < 2 ^ 30 ∧
    ∀ (x : V) (H' : Hp), x ∈ xs → But p H H' → FeedAt H' p (n + 1) → Q x H') ∨
   (∃ z : Str, vs = [.ref p, .str z] ∧ 0 < z.length ∧ z.length < 1000 ∧ ∀ (c : Nat) (H' : Hp), c ∈ z.cps.toList → But p H H' → FeedAt H' p (n + 1) → Q (.str ⟨#[c]⟩) H'))
section
variable {P : Program} {w : World} {K : PySem.W.Frag} {mg : Str → Option Value} {base : Heap}
theorem ok_feed {f : Addr} {fd : FuncData} (F : Fun K "_law_feed" "_law_feed" s_law_feed f fd) (mSum : mg "sum" = none) (mLen : mg "len" = none) (mMax : mg "max" = none) (mInt : mg "int" = none) : FnOk P w K mg base CX0 1 f fd ["_law_script", "_law_k"] (spFeed K) := by
  refine F.ok sc_law_feed (fun vs H Q E h => ?_) (fun cdv A outer s H vs Q E hr h => ?_)
  · obtain ⟨a, ns, k, rfl, _⟩ := h
    rfl
  · obtain ⟨a, ns, k, rfl, hS, hk, q⟩ := h
    refine ⟨_, pss_cons (ps_set (i := 2) sc_law_feed.nd rfl (Or.inl rfl) (pe_op op_add (pe_op op_mul pe_int (pv 1)) (pe_callB (cr_sum rfl) (by rfl) mSum (by decide +kernel) (pa_cons (pe_slice sl_list (pv 0) po_none (po_some pe_int)) pa_nil))))
      (pss_cons (ps_if (pt_cmpR op_lt (pv 1) (pe_callB call_len_seq (by rfl) mLen PySem.boot_len (pa_cons (pv 0) pa_nil)) (nomark _))
        (pss_one (ps_set (i := 2) sc_law_feed.nd rfl (Or.inl rfl) (pe_ix ix_list (pv 0) (pv 1) (fun _ _ => rfl)))) pss_nil)
      (pss_one (ps_ret (pe_lst (pa_cons (pe_callB (call_max2 rfl) (by rfl) mMax (by decide +kernel) (pa_cons pe_int (pa_cons (pe_op op_sub (pv 2) (pe_op op_pow pe_int pe_int)) pa_nil)))
        (pa_cons (pe_op op_mod (pe_callTy call_int1 (by rfl) mInt (by decide +kernel) (pa_cons (pe_op op_add (pe_op op_mul (pv 2) pe_int) (pe_op op_mul pe_int (pv 1))) pa_nil)) (pe_op op_add (pe_op op_pow pe_int pe_int) pe_int))
        (pa_cons pe_int pa_nil))))))), ?_⟩
    obtain ⟨ms, em⟩ := cut_ints ns none (some 1)
    refine ⟨_, rfl, _, _, rfl, rfl, .inl ⟨by decide, by decide⟩, .ref a, rfl, 1, rfl, a, _, rfl, hS, fun c nc => ?_⟩
    rw [em]
    refine ⟨c, ms, rfl, SqL.of upd_same, _, _, rfl, rfl, ?_⟩
    have s1 : Same H (upd H c (.lst (ms.map V.int))) := fun b o e => by rw [upd_ne (ne_of_none e nc)]; exact e
    have hS1 := s1.seq hS
    refine ⟨_, rfl, .ref a, rfl, a, _, rfl, .inl hS1, _, _, rfl, rfl, _, rfl, ?_⟩
    have fin : ∀ z : Int, tRet (tLst (tCons (tCB (fun xs H Q => ∃ i j, xs = [.int i, .int j] ∧ Q (.int (if j > i then j else i)) H) (tCons (tC (.int 0)) (tCons (tOp (rI0 fun i j => .int (i - j)) (tVar 2) (tOp (rI CPow fun i j => .int (i ^ j.toNat)) (tC (.int 10)) (tC (.int 18)))) tNil)))
        (tCons (tOp (rI (fun _ j => 0 < j) fun i j => .int (i % j)) (tCB (fun xs H Q => (∃ i, xs = [.int i] ∧ Q (.int i) H) ∨ ∃ k, xs = [.bl k] ∧ Q (.int (if k then 1 else 0)) H) (tCons (tOp (rI0 fun i j => .int (i + j)) (tOp (rI CMul fun i j => .int (i * j)) (tVar 2) (tC (.int 19))) (tOp (rI CMul fun i j => .int (i * j)) (tC (.int 7)) (tVar 1))) tNil))
          (tOp (rI0 fun i j => .int (i + j)) (tOp (rI CPow fun i j => .int (i ^ j.toNat)) (tC (.int 10)) (tC (.int 39))) (tC (.int 23))))
        (tCons (tC (.int 0)) tNil)))) { nx := fun _ H' => Q .non H', rt := Q } [some (.ref a), some (.int k), some (.int z)] (upd H c (.lst (ms.map V.int))) := by
      intro z
      refine ⟨_, rfl, _, _, rfl, rfl, ⟨by decide, by decide, by decide⟩, _, _, rfl, rfl, _, _, rfl, ?_⟩
      refine ⟨_, rfl, _, _, rfl, rfl, .inr ⟨by decide, by decide⟩, _, rfl, _, _, rfl, rfl, .inl ⟨by decide, by decide⟩, _, _, rfl, rfl, .inl ⟨_, rfl, ?_⟩⟩
      refine ⟨_, _, rfl, rfl, ⟨by decide, by decide, by decide⟩, _, _, rfl, rfl, _, _, rfl, rfl, (by show (0 : Int) < 10 ^ Int.toNat 39 + 23; decide +kernel), (by show 3 ≤ sizeLine; decide), fun p np => ?_⟩
      have pc : p ≠ c := fun e => by rw [e, upd_same] at np; cases np
      refine q p _ (by rw [upd_ne pc] at np; exact np) (fun b o e => ?_) ⟨_, _, 0, upd_same, ?_, ?_, ?_, Int.le_refl _, Int.le_refl _⟩
      · rw [upd_ne (ne_of_none (s1 b o e) np)]
        exact s1 b o e
      · show (0 : Int) ≤ if _ > (0 : Int) then _ else 0
        split <;> omega
      · exact Int.emod_nonneg _ (by decide +kernel)
      · refine Int.lt_trans (Int.emod_lt_of_pos _ (by decide +kernel)) (by decide +kernel)
    refine ite2 (fun e => ?_) (fun e => ?_)
    · have hlt : k < ns.length := by
        have := of_decide_eq_true e
        rw [List.length_map] at this
        omega
      refine ⟨.ref a, rfl, .int k, rfl, a, _, _, V.int ns[k], rfl, rfl, hS1, atI_nat ?_, fin _⟩
      rw [List.getElem?_map, List.getElem?_eq_getElem hlt]
      rfl
    · exact fin _
theorem ok_draw {f : Addr} {fd : FuncData} (F : Fun K "_law_draw" "_law_draw" s_law_draw f fd) (mInt : mg "int" = none) : FnOk P w K mg base CX0 1 f fd ["_law_feed_here", "_law_many"] spDraw := by
  refine F.ok sc_law_draw (fun vs H Q E h => ?_) (fun cdv A outer s H vs Q E hr h => ?_)
  · obtain ⟨p, m, n, rfl, _⟩ := h
    rfl
  · obtain ⟨p, m, n, rfl, ⟨a, b, c, hp, ha, hb, hb2, hc, hc2⟩, hn, hm, hm2, q⟩ := h
    refine ⟨_, pss_cons (ps_if (pt_cmpR op_gt (pe_ix ix_list (pv 0) pe_int (fun _ _ => rfl)) pe_int (nomark _))
        (pss_cons (ps_set (i := 2) sc_law_draw.nd rfl (Or.inl rfl) (pe_op op_fdivW (pe_ix ix_list (pv 0) pe_int (fun _ _ => rfl)) (pv 1)))
        (pss_cons (ps_set (i := 3) sc_law_draw.nd rfl (Or.inl rfl) (pe_op op_sub (pe_ix ix_list (pv 0) pe_int (fun _ _ => rfl)) (pe_op op_mul (pv 2) (pv 1))))
        (pss_cons (ps_asg (pv 2) (pg_sub (pv 0) pe_int set_list))
        (pss_one (ps_ret (pv 3)))))) pss_nil)
      (pss_cons (ps_asg (pe_op op_add (pe_ix ix_list (pv 0) pe_int (fun _ _ => rfl)) pe_int) (pg_sub (pv 0) pe_int set_list))
      (pss_cons (ps_set (i := 4) sc_law_draw.nd rfl (Or.inl rfl) (pe_op op_add (pe_ix ix_list (pv 0) pe_int (fun _ _ => rfl)) (pe_op op_mul pe_int (pe_ix ix_list (pv 0) pe_int (fun _ _ => rfl)))))
      (pss_cons (ps_set (i := 4) sc_law_draw.nd rfl (Or.inl rfl) (pe_op op_mod (pe_callTy call_int1 (by rfl) mInt (by decide +kernel) (pa_cons (pe_op op_add (pe_op op_mulW (pe_op op_mulW (pv 4) (pv 4)) (pv 4)) (pe_op op_mul pe_int (pe_ix ix_list (pv 0) pe_int (fun _ _ => rfl)))) pa_nil)) (pe_op op_add (pe_op op_pow pe_int pe_int) pe_int)))
      (pss_cons (ps_set (i := 4) sc_law_draw.nd rfl (Or.inl rfl) (pe_op op_mod (pe_callTy call_int1 (by rfl) mInt (by decide +kernel) (pa_cons (pe_op op_add (pe_op op_mulW (pv 4) (pv 4)) pe_int) pa_nil)) (pe_op op_add (pe_op op_pow pe_int pe_int) pe_int)))
      (pss_one (ps_ret (pe_op op_mod (pe_callTy call_int1 (by rfl) mInt (by decide +kernel) (pa_cons (pe_op op_fdiv (pv 4) (pe_op op_pow pe_int pe_int)) pa_nil)) (pv 1)))))))), ?_⟩
    refine ⟨_, rfl, p, _, 0, .int a, rfl, rfl, SqL.of hp, rfl, _, _, rfl, rfl, _, rfl, ?_⟩
    refine ite2 (fun e => ?_) (fun e => ?_)
    · refine ⟨_, rfl, p, _, 0, .int a, rfl, rfl, SqL.of hp, rfl, _, rfl, _, _, rfl, rfl, wide_div (b := 40) hm (by omega) (by decide) (by decide), ?_⟩
      refine ⟨_, rfl, p, _, 0, .int a, rfl, rfl, SqL.of hp, rfl, _, rfl, _, rfl, _, _, rfl, rfl, .inr ⟨by omega, by omega⟩, _, _, rfl, rfl, ?_⟩
      refine ⟨_, rfl, _, rfl, p, _, 0, 0, rfl, rfl, hp, rfl, ?_⟩
      have h1 := Int.emod_add_mul_ediv a m
      have h2 := Int.emod_nonneg a (b := m) (by omega)
      have h3 := Int.emod_lt_of_pos a hm
      have h4 : a / m * m = m * (a / m) := Int.mul_comm _ _
      refine ⟨_, rfl, q _ _ (by omega) (by omega) But.upd ⟨a / m, b, c, upd_same, Int.ediv_nonneg ha (by omega), hb, hb2, hc, by omega⟩⟩
    · refine ⟨_, rfl, p, _, 2, .int c, rfl, rfl, SqL.of hp, rfl, _, _, rfl, rfl, _, rfl, p, _, 2, 2, rfl, rfl, hp, rfl, ?_⟩
      refine ⟨_, rfl, p, _, 1, .int b, rfl, rfl, SqL.of upd_same, rfl, _, rfl, p, _, 2, .int (c + 1), rfl, rfl, SqL.of upd_same, rfl, _, _, rfl, rfl, .inl ⟨by decide, by decide⟩, _, _, rfl, rfl, ?_⟩
      have z1 : (b + 6700417 * (c + 1)).natAbs < 2 ^ 140 := by
        have : (10 : Int) ^ 40 < 2 ^ 139 := by decide +kernel
        have : (2 : Int) ^ 139 + 2 ^ 90 < 2 ^ 140 := by decide +kernel
        have : (2 : Int) ^ 60 * 6700417 + 6700417 < 2 ^ 90 := by decide +kernel
        have : ((2 ^ 140 : Nat) : Int) = 2 ^ 140 := by decide +kernel
        omega
      refine ⟨_, rfl, _, rfl, _, _, rfl, rfl, wide_mul (a := 140) (b := 140) z1 z1 (by decide) (by decide) (by decide), _, rfl, _, _, rfl, rfl,
        wide_mul (a := 280) (b := 140) (by rw [Int.natAbs_mul]; exact Nat.lt_of_lt_of_le (Nat.mul_lt_mul'' z1 z1) (by decide +kernel)) z1 (by decide) (by decide) (by decide), ?_⟩
      refine ⟨_, rfl, p, _, 2, .int (c + 1), rfl, rfl, SqL.of upd_same, rfl, _, _, rfl, rfl, .inl ⟨by decide, by decide⟩, _, _, rfl, rfl, .inl ⟨_, rfl, ?_⟩⟩
      refine ⟨_, _, rfl, rfl, ⟨by decide, by decide, by decide⟩, _, _, rfl, rfl, _, _, rfl, rfl, (by show (0 : Int) < 10 ^ Int.toNat 43 + 57; decide +kernel), ?_⟩
      have z2 : ∀ x : Int, (x % (10 ^ Int.toNat 43 + 57)).natAbs < 2 ^ 150 := fun x => by
        have e1 := Int.emod_nonneg x (b := 10 ^ Int.toNat 43 + 57) (by decide +kernel)
        have e2 := Int.emod_lt_of_pos x (b := 10 ^ Int.toNat 43 + 57) (by decide +kernel)
        have e3 : (10 : Int) ^ Int.toNat 43 + 57 < 2 ^ 150 := by decide +kernel
        have e4 : ((2 ^ 150 : Nat) : Int) = 2 ^ 150 := by decide +kernel
        omega
      refine ⟨_, rfl, _, rfl, _, _, rfl, rfl, wide_mul (a := 150) (b := 150) (z2 _) (z2 _) (by decide) (by decide) (by decide), _, _, rfl, rfl, .inl ⟨_, rfl, ?_⟩⟩
      refine ⟨_, _, rfl, rfl, ⟨by decide, by decide, by decide⟩, _, _, rfl, rfl, _, _, rfl, rfl, (by show (0 : Int) < 10 ^ Int.toNat 38 + 133; decide +kernel), ?_⟩
      refine ⟨_, rfl, _, _, rfl, rfl, ⟨by decide, by decide, by decide⟩, _, _, rfl, rfl, ⟨by decide +kernel, by decide +kernel⟩, .inl ⟨_, rfl, ?_⟩⟩
      refine ⟨_, rfl, _, _, rfl, rfl, hm, q _ _ (Int.emod_nonneg _ (by omega)) (Int.emod_lt_of_pos _ hm) But.upd ⟨a, b, c + 1, upd_same, ha, hb, hb2, by omega, by omega⟩⟩
theorem ok_one {f fD : Addr} {fd fdD : FuncData} (F : Fun K "_law_one" "_law_one" s_law_one f fd) (FD : Fun K "_law_draw" "_law_draw" s_law_draw fD fdD) (bD : Binds K fdD ["_law_feed_here", "_law_many"] []) (gD : mg "_law_draw" = some (.ref fD)) (mInt : mg "int" = none) (mLen : mg "len" = none) :
    FnOk P w K mg base CX0 2 f fd ["_law_feed_here", "_law_things"] (spOne K) := by
  have GD : FnOk P w K mg base CX0 1 fD fdD ["_law_feed_here", "_law_many"] spDraw := ok_draw FD mInt
  refine F.ok sc_law_one (fun vs H Q E h => ?_) (fun cdv A outer s H vs Q E hr h => ?_)
  · obtain ⟨p, n, _, _, ⟨t, xs, rfl, _⟩ | ⟨z, rfl, _⟩⟩ := h <;> rfl
  · obtain ⟨p, n, hF, hn, h⟩ := h
    refine ⟨_, pss_one (ps_ret (pe_ix ix_seq (pv 1) (pe_call GD hr (by rfl) gD FD.kp bD .nil pass0 (pa_cons (pv 0) (pa_cons (pe_callB call_len (by rfl) mLen PySem.boot_len (pa_cons (pv 1) pa_nil)) pa_nil))) (fun _ _ => rfl))), ?_⟩
    rcases h with ⟨t, xs, rfl, ht, hs, h0, h1, q⟩ | ⟨z, rfl, h0, h1, q⟩
    · refine ⟨.ref t, rfl, .ref p, rfl, .ref t, rfl, .ref t, xs.length, rfl, .inl ⟨_, hs, rfl⟩, ?_⟩
      refine ⟨p, xs.length, n, rfl, hF, hn, by omega, by omega, fun r H' r0 r1 bt hF' => ?_⟩
      obtain ⟨j, rfl⟩ : ∃ j : Nat, r = j := ⟨r.toNat, by omega⟩
      have hj : j < xs.length := by omega
      exact .inl ⟨t, xs, j, _, rfl, rfl, bt.seq ht hs, atI_nat (List.getElem?_eq_getElem hj), q xs[j] H' (List.getElem_mem _) bt hF'⟩
    · refine ⟨.str z, rfl, .ref p, rfl, .str z, rfl, .str z, z.length, rfl, ⟨Nat.le_of_lt (small1000 (by omega)), rfl⟩, ?_⟩
      refine ⟨p, z.length, n, rfl, hF, hn, by omega, by omega, fun r H' r0 r1 bt hF' => ?_⟩
      obtain ⟨j, rfl⟩ : ∃ j : Nat, r = j := ⟨r.toNat, by omega⟩
      have hj : j < z.cps.toList.length := by
        have : z.cps.toList.length = z.length := rfl
        omega
      exact .inr (.inr ⟨z, j, z.cps.toList[j], rfl, rfl, Nat.le_of_lt (small1000 (by omega)), atI_nat (List.getElem?_eq_getElem hj), q _ H' (List.getElem_mem _) bt hF'⟩)
end
end KA
namespace KK
open PySem PySem.Spec PyProof.Rows L2 KA KI PV T
/-- all but p is kept -/
def Kept (p : Addr) (H H' : Hp) : Prop := ∀ b o, b ≠ p → H b = some o → H' b = some o
theorem Kept.trans {p : Addr} {H H1 H2 : Hp} (a : Kept p H H1) (b : Kept p H1 H2) : Kept p H H2 := fun c o n h => b c o n (a c o n h)
theorem Kept.of_but {p : Addr} {H H' : Hp} (b : But p H H') : Kept p H H' := fun c o n h => (b c n).trans h
theorem Kept.of_same {p : Addr} {H H' : Hp} (b : Same H H') : Kept p H H' := fun c o n h => b c o h
theorem Kept.new {p q : Addr} {H : Hp} {o : HO} (h : H q = none) : Kept p H (upd H q o) := fun b u n e => by rw [upd_ne (ne_of_none e h)]; exact e
theorem Kept.tups {p : Addr} {H H' : Hp} {n : Nat} (k : Kept p H H') (hF : FeedAt H p n) : TupSame H H' := fun a xs e => by
  obtain ⟨x, y, z, h, _⟩ := hF
  exact k a _ (ne_of e h (by intro z; cases z)) e
theorem feed_new {H : Hp} {p q : Addr} {n : Nat} {o : HO} (hF : FeedAt H p n) (h : H q = none) : FeedAt (upd H q o) p n := by
  obtain ⟨x, y, z, e, r⟩ := hF
  exact ⟨x, y, z, by rw [upd_ne (ne_of_none e h)]; exact e, r⟩
theorem feed_ne {H : Hp} {p q : Addr} {n : Nat} (hF : FeedAt H p n) (h : H q = none) : q ≠ p := by
  obtain ⟨x, y, z, e, r⟩ := hF
  exact (ne_of_none e h).symm
theorem draw_k {H : Hp} {p : Addr} {m : Int} {n : Nat} {Q : VK} {E : XK} (hF : FeedAt H p n) (hn : n ≤ 2 ^ 60) (h0 : 0 < m) (h1 : m < 2 ^ 30) (k : ∀ (r : Int) (H' : Hp), 0 ≤ r → r < m → Kept p H H' → FeedAt H' p (n + 1) → Q (.int r) H') :
    spDraw [.ref p, .int m] H Q E := ⟨p, m, n, rfl, hF, hn, h0, by omega, fun r H' a b c d => k r H' a b (.of_but c) d⟩
theorem one_lst {K : PySem.W.Frag} {H : Hp} {p L : Addr} {n : Nat} {xs : List V} {Q : VK} {E : XK} (hF : FeedAt H p n) (hn : n ≤ 2 ^ 60) (nL : H L = none) (h0 : 0 < xs.length) (h1 : xs.length < 2 ^ 30)
    (k : ∀ (x : V) (H' : Hp), x ∈ xs → Kept p H H' → FeedAt H' p (n + 1) → Q x H') : spOne K [.ref p, .ref L] (upd H L (.lst xs)) Q E :=
  ⟨p, n, feed_new hF nL, hn, .inl ⟨L, xs, rfl, feed_ne hF nL, SqL.of upd_same, h0, h1, fun x H' hx bt hF' => k x H' hx ((Kept.new nL).trans (.of_but bt)) hF'⟩⟩
theorem kept_free {H H' : Hp} {p a : Addr} {m : Nat} (k : Kept p H H') (hF : FeedAt H' p m) (h : H' a = none) : H a = none := by
  cases e : H a with
  | none => rfl
  | some o =>
    rw [k a o (feed_ne hF h) e] at h
    cases h
structure Lw (K : PySem.W.Frag) (mg : Str → Option Value) (C_Tracing C_PlainHeap : Addr) : Prop where
  b_all : mg "all" = none
  b_bool : mg "bool" = none
  b_enumerate : mg "enumerate" = none
  b_int : mg "int" = none
  b_isinstance : mg "isinstance" = none
  b_len : mg "len" = none
  b_list : mg "list" = none
  b_max : mg "max" = none
  b_min : mg "min" = none
  b_range : mg "range" = none
  b_str : mg "str" = none
  b_sum : mg "sum" = none
  b_tuple : mg "tuple" = none
  c_LEAST_INT : ∃ t, mg "LEAST_INT" = some (.int (-2147483648) t)
  c_GREATEST_INT : ∃ t, mg "GREATEST_INT" = some (.int (2147483647) t)
  c_MOST_ENTRIES : ∃ t, mg "MOST_ENTRIES" = some (.int (1000) t)
  c_LINK_ROW : ∃ t, mg "LINK_ROW" = some (.int (-2) t)
  c_SIGNS : ∃ t, mg "SIGNS" = some (.int (-3) t)
  c_MOST_SHAPES : ∃ t, mg "MOST_SHAPES" = some (.int (60) t)
  c_MOST_SHAPE_FIELDS : ∃ t, mg "MOST_SHAPE_FIELDS" = some (.int (100) t)
  c_MOST_ROOTS : ∃ t, mg "MOST_ROOTS" = some (.int (40000) t)
  c_MOST_SLICE : ∃ t, mg "MOST_SLICE" = some (.int (1000000) t)
  f_is_integer : ∃ f d, Gd K mg "is_integer" s_is_integer ["thing"] f d
  f_is_between : ∃ f d, Gd K mg "is_between" s_is_between ["thing", "least", "greatest"] f d
  f_is_tuple_to : ∃ f d, Gd K mg "is_tuple_to" s_is_tuple_to ["thing", "most"] f d
  f_look_at_shapes : ∃ f d, Gd K mg "look_at_shapes" s_look_at_shapes ["shapes"] f d
  f_look_at_kind : ∃ f d, Gd K mg "look_at_kind" s_look_at_kind ["shapes", "kind"] f d
  f_look_at_size : ∃ f d, Gd K mg "look_at_size" s_look_at_size ["shapes", "kind", "slots"] f d
  f_is_size : ∃ f d, Gd K mg "is_size" s_is_size ["shapes", "kind", "slots"] f d
  f_look_at_roots : ∃ f d, Gd K mg "look_at_roots" s_look_at_roots ["roots", "holder"] f d
  f_are_roots : ∃ f d, Gd K mg "are_roots" s_are_roots ["roots", "holder"] f d
  f_shape_links : ∃ f d, Gd K mg "shape_links" s_shape_links ["shape"] f d
  f_is_link : ∃ f d, Gd K mg "is_link" s_is_link ["shapes", "kind", "slot"] f d
  f__law_feed : ∃ f d, Gd K mg "_law_feed" s_law_feed ["_law_script", "_law_k"] f d
  f__law_draw : ∃ f d, Gd K mg "_law_draw" s_law_draw ["_law_feed_here", "_law_many"] f d
  f__law_one : ∃ f d, Gd K mg "_law_one" s_law_one ["_law_feed_here", "_law_things"] f d
  f__law_shapes : ∃ f d, Gd K mg "_law_shapes" s_law_shapes ["_law_feed_here"] f d
  f__law_kinds_of : ∃ f d, Gd K mg "_law_kinds_of" s_law_kinds_of ["_law_shapes_here"] f d
  f__law_equal : ∃ f d, Gd K mg "_law_equal" s_law_equal ["_law_found", "_law_due"] f d
  f__law_flags : ∃ f d, Gd K mg "_law_flags" s_law_flags ["_law_own", "_law_number"] f d
  f__law_held : ∃ f d, Gd K mg "_law_held" s_law_held ["_law_own", "_law_number"] f d
  f__law_reach : ∃ f d, Gd K mg "_law_reach" s_law_reach ["_law_own", "_law_hands"] f d
  f__law_graph : ∃ f d, Gd K mg "_law_graph" s_law_graph ["_law_own", "_law_hands"] f d
  f__law_worth : ∃ f d, Gd K mg "_law_worth" s_law_worth ["_law_feed_here"] f d
  f__law_new_kind : ∃ f d, Gd K mg "_law_new_kind" s_law_new_kind ["_law_feed_here", "_law_shapes_here", "_law_budget"] f d
  f__law_roots : ∃ f d, Gd K mg "_law_roots" s_law_roots ["_law_feed_here", "_law_many"] f d
  f__law_collection : ∃ f d, Gd K mg "_law_collection" s_law_collection ["_law_heap", "_law_feed_here", "_law_roots_here"] f d
  f__law_plain : ∃ f d, Gd K mg "_law_plain" s_law_plain ["_law_heap", "_law_own", "_law_feed_here", "_law_budget"] f d
  f_law : ∃ f d, Gd K mg "law" s_law ["_law_script"] f d
  cl_Tracing : Cls K C_Tracing
  g_Tracing : mg "Tracing" = some (.ref C_Tracing)
  n_Tracing_shapes_links : NoAttr K C_Tracing "shapes_links"
  n_Tracing_numbers_by_name : NoAttr K C_Tracing "numbers_by_name"
  n_Tracing_found : NoAttr K C_Tracing "found"
  n_Tracing_things : NoAttr K C_Tracing "things"
  n_Tracing_numbers : NoAttr K C_Tracing "numbers"
  i_Tracing : ∃ f d, Mk K C_Tracing f ∧ Fun K "__init__" "Tracing.__init__" s_Tracing_init f d ∧ Binds K d ["self", "shapes", "roots"] []
  m_Tracing_number : ∃ f d, Md K C_Tracing "number" "Tracing.number" s_Tracing_number ["self", "name"] f d
  m_Tracing_waits : ∃ f d, Md K C_Tracing "waits" "Tracing.waits" s_Tracing_waits ["self"] f d
  m_Tracing_first_untold : ∃ f d, Md K C_Tracing "first_untold" "Tracing.first_untold" s_Tracing_first_untold ["self"] f d
  m_Tracing_tell : ∃ f d, Md K C_Tracing "tell" "Tracing.tell" s_Tracing_tell ["self", "kind", "body"] f d
  m_Tracing_links : ∃ f d, Md K C_Tracing "links" "Tracing.links" s_Tracing_links ["self", "kind", "many"] f d
  m_Tracing_many : ∃ f d, Md K C_Tracing "many" "Tracing.many" s_Tracing_many ["self"] f d
  m_Tracing_graph : ∃ f d, Md K C_Tracing "graph" "Tracing.graph" s_Tracing_graph ["self"] f d
  cl_PlainHeap : Cls K C_PlainHeap
  g_PlainHeap : mg "PlainHeap" = some (.ref C_PlainHeap)
  n_PlainHeap_shapes : NoAttr K C_PlainHeap "shapes"
  n_PlainHeap_kinds : NoAttr K C_PlainHeap "kinds"
  n_PlainHeap_bodies : NoAttr K C_PlainHeap "bodies"
  i_PlainHeap : ∃ f d, Mk K C_PlainHeap f ∧ Fun K "__init__" "PlainHeap.__init__" s_PlainHeap_init f d ∧ Binds K d ["self", "shapes"] []
  m_PlainHeap_is_object : ∃ f d, Md K C_PlainHeap "is_object" "PlainHeap.is_object" s_PlainHeap_is_object ["self", "address"] f d
  m_PlainHeap_look_at : ∃ f d, Md K C_PlainHeap "look_at" "PlainHeap.look_at" s_PlainHeap_look_at ["self", "roots"] f d
  m_PlainHeap_look_at_address : ∃ f d, Md K C_PlainHeap "look_at_address" "PlainHeap.look_at_address" s_PlainHeap_look_at_address ["self", "address"] f d
  m_PlainHeap_look_at_slot : ∃ f d, Md K C_PlainHeap "look_at_slot" "PlainHeap.look_at_slot" s_PlainHeap_look_at_slot ["self", "address", "slot"] f d
  m_PlainHeap_make : ∃ f d, Md K C_PlainHeap "make" "PlainHeap.make" s_PlainHeap_make ["self", "kind", "slots", "roots"] f d
  m_PlainHeap_kind : ∃ f d, Md K C_PlainHeap "kind" "PlainHeap.kind" s_PlainHeap_kind ["self", "address"] f d
  m_PlainHeap_slots : ∃ f d, Md K C_PlainHeap "slots" "PlainHeap.slots" s_PlainHeap_slots ["self", "address"] f d
  m_PlainHeap_get : ∃ f d, Md K C_PlainHeap "get" "PlainHeap.get" s_PlainHeap_get ["self", "address", "slot"] f d
  m_PlainHeap_put : ∃ f d, Md K C_PlainHeap "put" "PlainHeap.put" s_PlainHeap_put ["self", "address", "slot", "value"] f d
  m_PlainHeap_graph : ∃ f d, Md K C_PlainHeap "graph" "PlainHeap.graph" s_PlainHeap_graph ["self", "roots"] f d
  m_PlainHeap_traced : ∃ f d, Md K C_PlainHeap "traced" "PlainHeap.traced" s_PlainHeap_traced ["self", "roots"] f d
  m_PlainHeap_unreached : ∃ f d, Md K C_PlainHeap "unreached" "PlainHeap.unreached" s_PlainHeap_unreached ["self", "roots"] f d
  m_PlainHeap_minor : ∃ f d, Md K C_PlainHeap "minor" "PlainHeap.minor" s_PlainHeap_minor ["self", "roots"] f d
  m_PlainHeap_settle : ∃ f d, Md K C_PlainHeap "settle" "PlainHeap.settle" s_PlainHeap_settle ["self", "roots"] f d
  m_PlainHeap_begin : ∃ f d, Md K C_PlainHeap "begin" "PlainHeap.begin" s_PlainHeap_begin ["self", "roots"] f d
  m_PlainHeap_slice : ∃ f d, Md K C_PlainHeap "slice" "PlainHeap.slice" s_PlainHeap_slice ["self", "count", "roots"] f d
  m_PlainHeap_whole : ∃ f d, Md K C_PlainHeap "whole" "PlainHeap.whole" s_PlainHeap_whole ["self", "roots"] f d
end KK

/-! enumerate over a tuple: its making, its turns, the walk. -/
namespace ET
open PySem
open Sem (wp)
theorem meets_new1 {v : Value} {ob : Obj} {Hh : Heap → Prop} (bg : Begins v ob Hh) :
    Meets (Builtin.«enumerate.__new__» ⟨[.type "enumerate", v], []⟩) (fun _ R z => Hh z.heap ∧
      R (.ok (.ret (.ref (z.heap.push ob).objs.size))) { z with heap := (z.heap.push ob).push { cls := .type "enumerate", data := .fields #[.none, .bool false, .ref z.heap.objs.size, rawInt 0, .none, .none] } }) :=
  .of_wp fun prog w A R z both => by
    obtain ⟨hp, g, d, tk, os⟩ := z
    obtain ⟨b1, fin⟩ := both
    have hsub := sub_enumerate
    have its : ∀ {A' : Around} {E : Value → Shared → Prop} {Q : Value → Shared → Prop}, Q (.ref hp.objs.size) ⟨hp.push ob, g, d, tk, os⟩ → wpAny (model prog w) A' (pyIter v) Q E ⟨hp, g, d, tk, os⟩ := fun q => bg.iter prog w _ _ ⟨hp, g, d, tk, os⟩ _ b1 q
    wp_walk using its
    refine wpAny_stack_any fun _ => wpAny_pure ?_
    split
    · rename_i c _ _ _ _ _
      cases (c == Value.type "enumerate") <;> (wp_walk using its; exact ⟨_, rfl, fin⟩)
    · (wp_walk using its; exact ⟨_, rfl, fin⟩)
section
variable {prog : Program} {w : World} {A : Around} {E : Value → Shared → Prop} {s : Shared}
theorem call_enum1 {v : Value} {ob : Obj} {Hh : Heap → Prop} {Q : Value → Shared → Prop} (bg : Begins v ob Hh) (h1 : Hh s.heap)
    (fin : ∀ h', IsEnum h' (s.heap.objs.size + 1) s.heap.objs.size 0 .none → h'.get? s.heap.objs.size = some ob →
      (∀ b o, s.heap.get? b = some o → h'.get? b = some o) → Q (.ref (s.heap.objs.size + 1)) { s with heap := h' }) :
    wpAny (model prog w) A (call (.type "enumerate") [v]) Q E s := by
  refine callType_new F.called_enumerate (by decide) (F.typeCall_enumerate_1 _) (F.newCall_enumerate_1 _) (fun obj => F.args_object_init_2 obj _) F.entry_enumerate_new (meets_new1 bg) ⟨h1, ?_⟩
  have hz : (s.heap.push ob).objs.size = s.heap.objs.size + 1 := Heap.size_push ..
  show _ ∧ _
  rw [hz]
  have he : IsEnum ((s.heap.push ob).push { cls := .type "enumerate", data := .fields #[.none, .bool false, .ref s.heap.objs.size, rawInt 0, .none, .none] }) (s.heap.objs.size + 1) s.heap.objs.size 0 .none := by
    have q := Heap.get?_push_size (s.heap.push ob) (o := { cls := .type "enumerate", data := .fields #[.none, .bool false, .ref s.heap.objs.size, rawInt 0, .none, .none] }) rfl
    rw [hz] at q
    exact q
  exact ⟨⟨_, he, rfl⟩, fin _ he (Heap.get?_push_of_some _ (Heap.get?_push_size _ bg.free)) fun b o x => Heap.get?_push_of_some _ (Heap.get?_push_of_some _ x)⟩
end
end ET
namespace ET
open PySem PySem.Spec PyProof.Rows L2
/-- the tuple at a, each item in a new pair -/
def Itet (K : PySem.W.Frag) (a : Addr) : It :=
  ⟨fun i H => ∃ (xs : List V) (x : V), SqT K H a xs ∧ xs[i]? = some x,
   fun i H v H' => ∃ T x, v = .ref T ∧ H T = none ∧ H' = upd H T (.tup [.int (i : Nat), x]) ∧ ∀ xs, SqT K H a xs → xs[i]? = some x,
   fun i H => ∃ xs : List V, SqT K H a xs ∧ xs.length = i⟩
theorem turn_enumT {P : Program} {w : World} {K : PySem.W.Frag} {elts : List Expr} {kk : Nat} {tpos : Pos} (a e it : Addr) :
    Turn P w K (.Tuple elts kk tpos) (Itet K a) [e, it] e (fun i h => (∃ old, IsEnum h e it ((i : Nat) : Int) old) ∧ h.IsTupleIter it a i ∧ e ≠ it ∧ a ≠ it ∧ a ≠ e) where
  mem := by simp
  obj := fun i h st b hb => by
    obtain ⟨⟨old, he⟩, ⟨o, ho, hc, hd⟩, _⟩ := st
    rcases (by simpa using hb : b = e ∨ b = it) with z | z
    · exact z ▸ ⟨_, he, fun v q => nomatch q⟩
    · exact z ▸ ⟨o, ho, fun v q => by rw [hd] at q; cases q⟩
  keep := fun i h h' st k => by
    obtain ⟨⟨old, he⟩, hi, hne⟩ := st
    exact ⟨⟨old, k e (by simp) _ he⟩, hi.at fun o q => k it (by simp) o q, hne⟩
  item := by
    intro X hP hw hK hc i pins s σ H E I hf st hg
    subst hP hw hK
    obtain ⟨⟨old, he⟩, hit, hne, hai, hae⟩ := st
    obtain ⟨xs, x, hq, hx⟩ := hg
    obtain ⟨its, rv, p, hz⟩ := I.tuple hq
    obtain ⟨u, hu, ru⟩ := rv.get hx
    have hel : e < s.heap.objs.size := Heap.lt_size he
    have hil : it < s.heap.objs.size := by obtain ⟨_, q, _⟩ := hit; exact Heap.lt_size q
    have hh := I.ok.hd hc
    have hi : i < its.toArray.size := by
      have h1 := (List.getElem?_eq_some_iff.mp hu).1
      simpa using h1
    refine wpAny_pyNext_enum_itemD (PySem.Draws.tuple (A := X.A.in1) hh it a hai its.toArray) he ⟨hit, p⟩ hi hne (by simp [hne, Ne.symm hae]) fun u' h' tk hP' ho hit' hT hsz hk => ?_
    have eu : u' = u := by
      have h1 : its.toArray[i]? = some u' := hP'
      rw [show its.toArray[i]? = its[i]? by simp, hu] at h1
      exact (Option.some.inj h1).symm
    subst eu
    refine ⟨_, rfl, wpAny_letOwnedTupleGo_enum (s := { s with heap := h', toks := tk + 1 }) ho fun h'' he' sb => ?_⟩
    have hT2 : h''.get? s.heap.objs.size = some { cls := .type "tuple", data := .seq #[.int i tk, u'] } := (sb.2 _ (Nat.ne_of_gt hel)).trans hT
    have new : ObjOk X.prog X.w (upd H s.heap.objs.size (.tup [.int (i : Nat), x])) h'' s.heap.objs.size (.tup [.int (i : Nat), x]) := ⟨by show 2 ≤ sizeLine; decide, [.int i tk, u'], .cons ⟨_, rfl⟩ (.cons ru .nil), ⟨_, hT2, rfl, _, rfl⟩⟩
    have kept : ∀ b ob, b ∉ [e, it] → s.heap.get? b = some ob → h''.get? b = some ob := fun b ob hb q => (sb.2 b (fun z => hb (by simp [z]))).trans (hk b ob (fun z => hb (by simp [z])) (fun z => hb (by simp [z])) q)
    have I1 : Inv X pins σ (upd H s.heap.objs.size (.tup [.int (i : Nat), x])) { s with heap := h'', toks := tk + 1 } := I.turnedNew (ch := [e, it]) kept hf (Nat.le_refl _) new
    have e1 : ((i + 1 : Nat) : Int) = (i : Int) + 1 := by omega
    refine ⟨.ref s.heap.objs.size, _, I1, rfl, ⟨_, x, rfl, I.hok.fresh (Nat.le_refl _), rfl, fun ys hy => by rw [I.tuple_inj hy hq]; exact hx⟩, ⟨⟨u', by rw [e1]; exact he'⟩, hit'.1.at fun o q => (sb.2 it (Ne.symm hne)).trans q, hne, hai, hae⟩, fun b hb => ?_⟩
    have hb' : b < s.heap.objs.size := by
      rcases (by simpa using hb : b = e ∨ b = it) with z | z
      · exact z ▸ hel
      · exact z ▸ hil
    rw [upd_ne (Nat.ne_of_lt hb')]
    exact (hf b hb).1
  done := by
    intro X hP hw hK hc i pins s σ H E I hf st hg
    subst hP hw hK
    obtain ⟨⟨old, he⟩, hit, hne, hai, hae⟩ := st
    obtain ⟨xs, hq, hx⟩ := hg
    obtain ⟨its, rv, p, hz⟩ := I.tuple hq
    obtain ⟨f0, f1, f2, f3, f4, f5⟩ := hf it (by simp)
    have hl := rv.length
    have hn : i = its.toArray.size := by simp; omega
    subst hn
    exact wpAny_pyNext_enum_endD (PySem.Draws.tuple (A := X.A.in1) (I.ok.hd hc) it a hai its.toArray) he ⟨hit, p⟩ fun h' eb => ⟨rfl, I.turned (t' := s.toks) (fun b o hb q => eb b o hb q) f0 f1 f3 f4 f5⟩
  self := fun A i s Q E st h => by
    obtain ⟨⟨_, he⟩, _⟩ := st
    exact wpAny_pyIter_enum he h
def iEnumT (K : PySem.W.Frag) (ta : TA) : TI := fun σ H R => ta σ H fun vs H1 => ∃ a xs, vs = [.ref a] ∧ SqT K H1 a xs ∧ R (Itet K a) H1
theorem pi_enumT {X : Cx} {e : Expr} {ta : TA} {p pos tpos : Pos} {elts : List Expr} {kk : Nat} (hg : Gl X "enumerate") (hm : X.mg "enumerate" = none) (ha : PA X [e] ta) (hs : starEach [e] X.env = [(false, eval e X.env)] := by rfl) :
    PI X (.Tuple elts kk tpos) (.Call (.Name "enumerate" p) [e] [] pos) (iEnumT X.K ta) := by
  refine ⟨fun pins s σ H R I h => ?_⟩
  refine Call_ (ld_blt I hg hm boot_enumerate (PyProof.Rows.callWith_type1 (thn (ha.run pos pins s σ H _ I h) fun us s1 ⟨vs, H1, I1, r1, q1⟩ => ?_) hs rfl))
  obtain ⟨a, xs, ex, hq, q⟩ := q1
  subst ex
  cases r1 with
  | cons r rr =>
    cases rr
    cases r
    obtain ⟨its, rv, p', hz⟩ := I1.tuple hq
    have hal : a < s1.heap.objs.size := by
      obtain ⟨o, ho, _⟩ := p'
      exact Heap.lt_size ho
    refine call_enum1 (PySem.begins_tuple a its.toArray) p' fun h' he hit hk => wpAny_pyIter_enum he ?_
    have I2 : Inv X pins σ H1 { s1 with heap := h' } := I1.kept (t' := s1.toks) hk
    have hti : h'.IsTupleIter s1.heap.objs.size a 0 := ⟨_, hit, rfl, rfl⟩
    refine ⟨s1.heap.objs.size + 1, [s1.heap.objs.size + 1, s1.heap.objs.size], _, _, H1, rfl, I2, turn_enumT a (s1.heap.objs.size + 1) s1.heap.objs.size, ⟨⟨.none, he⟩, hti, Nat.succ_ne_self _, Nat.ne_of_lt hal, Nat.ne_of_lt (Nat.lt_succ_of_lt hal)⟩, fun b hb => ?_, q⟩
    have hle : s1.heap.objs.size ≤ b := by
      rcases (by simpa using hb : b = s1.heap.objs.size + 1 ∨ b = s1.heap.objs.size) with z | z
      · rw [z]; exact Nat.le_succ _
      · rw [z]; exact Nat.le_refl _
    exact I1.fpOk hle (I1.hok.fresh hle)
theorem walk_enumT {K : PySem.W.Frag} {a : Addr} {xs : List V} : Walk (Itet K a) xs.length (fun H => SqT K H a xs) (YPair (fun i => some (.int (i : Nat))) (fun i => xs[i]?)) := by
  refine ⟨fun i _ hi q => ⟨xs, xs[i], q, by simp [hi]⟩, fun _ q => ⟨xs, q, rfl⟩, fun i H v H' _ q y => ?_⟩
  obtain ⟨T, x, h1, h2, h3, h4⟩ := y
  exact ⟨T, .int (i : Nat), x, h1, h2, h3, rfl, h4 xs q⟩
end ET

/-! Methods by keywords; forms. -/
namespace KK
open PySem PySem.Spec PyProof.Rows L2 KA KI PV T ET
/-! ### o.m(k = v, ..) -/
theorem kb_rev {K : PySem.W.Frag} {x qual : Str} {st : Stmt} {f : Addr} {fd : FuncData} {ps ks : List Str} (F : Fun K x qual st f fd)
    (h : ∀ (kV doc pm : Value) (an : Option Addr) (cdv ct : Value) (u : Value) (ws : List Value), ws.length = ks.length → bindArgs (PySem.W.fnOf x qual (defArgs st) (defBody st) (defScope st) .none kV doc pm an cdv ct) ⟨[u], ks.zip ws⟩ = pure (ps.zip (u :: ws.reverse))) :
    KBn K fd ps 1 ks (fun us ws => us ++ ws.reverse) (fun vs zs => vs ++ zs.reverse) := by
  obtain ⟨oc, od, kV, doc, pm, an, cdv, ct, osl, rfl, lk, hcd⟩ := F.ex
  refine ⟨fun s us ws X l1 l2 => ?_, fun r1 r2 => r1.append ?_⟩
  · obtain ⟨u, rfl⟩ := List.length_eq_one_iff.mp l1
    exact .of_eq (h kV doc pm an cdv ct u ws l2)
  · clear h
    induction r2 with
    | nil => exact .nil
    | cons a r ih =>
      rw [List.reverse_cons, List.reverse_cons]
      exact ih.append (.cons a .nil)
def tMethK (C : Addr) (m : Str) (n : Nat) (sp : Sp) (E : XK) (ta : TE) (tk : TA) : TE := fun σ H Q => ta σ H fun x H1 => ∃ a dx fs, x = .ref a ∧ H1 a = some (.ins C dx fs) ∧ fs.lookup m = none ∧
  tk σ H1 fun zs H2 => zs.length = n ∧ sp (x :: zs.reverse) H2 Q E
section
variable {X : Cx} {CX : CXT} {k : Nat} {f C : Addr} {fd : FuncData} {ps ks : List Str} {sp : Sp} {E : XK} {m : Str} {pos apos : Pos} {o : Expr} {kws : List Keyword} {ta : TE} {tk : TA}
theorem pe_methK0 {pl : Sem Bool} (he : PE X o ta) (c : Cls X.K C) (hm : Meth X.K C m f) (F : FnOk X.prog X.w X.K X.mg X.base CX k f fd ps sp) (hr : Room k X.A)
    (hb : KBn X.K fd ps 1 ks (fun us ws => us ++ ws.reverse) (fun vs zs => vs ++ zs.reverse)) (hk : PySem.W.keepIn X.K (.ref f) = true) (hx : Passes CX X E) (hkw : PK X kws tk)
    (hall : (backToKw pos (keywordEach kws X.env)).all (·.1.isSome) = true := by rfl) (hks : (backToKw pos (keywordEach kws X.env)).filterMap (·.1) = ks := by rfl)
    (hpl : ((backTo pos (starEach [] X.env)).any (·.1) || (backToKw pos (keywordEach kws X.env)).any (·.1.isNone)) = false := by rfl)
    (ht : eval (.Call (.Attribute o m apos) [] kws pos) X.env = (do
      let ov ← eval o X.env
      standAt apos.atName
      let (f, first) ← holding [ov] (getMethod ov m pl)
      callWith pos f first (backTo pos (starEach [] X.env)) (backToKw pos (keywordEach kws X.env))) := by rfl) :
    PE X (.Call (.Attribute o m apos) [] kws pos) (tMethK C m ks.length sp E ta tk) := by
  refine ⟨fun pins s σ H Q I h => ?_⟩
  refine PySem.W.methodCall_KW (pl := pl) (thn (he.run pins s σ H _ I h) fun u s1 ⟨x, H1, I1, rx, a, dx, fs, ex, ea, l, q⟩ => ?_) ht
  subst ex
  obtain rfl : u = Value.ref a := rx
  refine getmeth_ok I1 ea c hm l ?_
  refine PySem.W.callWith_KW0 (first := [.ref a]) (h₀ := X.base) I.ok.mod.kin hm.kp hall ?_ hpl
  refine thn (hkw.run pos pins s1 σ H1 _ I1 q) fun ws s2 ⟨zs, H2, I2, rz, l2, q2⟩ => ⟨I2.kIn, ?_⟩
  rw [hks]
  have r1 : Vals [V.ref a] [Value.ref a] := .cons rfl .nil
  have r2 := hb.rel r1 rz
  refine wpAny_call (codeAny_mono (F.run X.A X.stack s2 H2 ⟨[.ref a], ks.zip ws⟩ ([Value.ref a] ++ ws.reverse) (V.ref a :: zs.reverse) Q E hr I2.env0 (hb.to s2 [Value.ref a] ws I2.kIn rfl (rz.length.symm.trans l2)) r2 q2) fun r s' hq => ?_)
  cases r with
  | error e => exact hx pins σ H2 s2 e s' I2 hq
  | ok fl =>
    cases fl with
    | ret u => exact I2.after hq
    | next => exact False.elim hq
    | brk => exact False.elim hq
    | cont => exact False.elim hq
end
end KK
namespace PH
open PySem PySem.Spec PyProof.Rows L2 KA KI KK PV T ET
abbrev Thing : Type := Int × List Int
def shPy (sh : List (List Bool)) : PyData := .tuple (sh.map fun r => .tuple (r.map .bool))
def inPy (xs : List Int) : PyData := .tuple (xs.map .int)
theorem dv_ints {H : Hp} {vs : List V} : ∀ {xs : List Int}, DvAll H vs (xs.map .int) → vs = xs.map .int
  | [], r => r.nilE
  | x :: xs, r => by
    obtain ⟨u, us, rfl, h, r2⟩ := r.consE
    cases h
    rw [dv_ints r2]
    rfl
theorem dv_bools {H : Hp} {vs : List V} : ∀ {xs : List Bool}, DvAll H vs (xs.map .bool) → vs = xs.map .bl
  | [], r => r.nilE
  | x :: xs, r => by
    obtain ⟨u, us, rfl, h, r2⟩ := r.consE
    cases h
    rw [dv_bools r2]
    rfl
theorem ints_dv {H : Hp} : ∀ {xs : List Int}, DvAll H (xs.map .int) (xs.map .int)
  | [] => .nil
  | x :: xs => .cons (.int x) ints_dv
theorem bools_dv {H : Hp} : ∀ {xs : List Bool}, DvAll H (xs.map .bl) (xs.map .bool)
  | [] => .nil
  | x :: xs => .cons (.bl x) bools_dv
theorem inPy_at {H : Hp} {v : V} {xs : List Int} (h : Dv H v (inPy xs)) : ∃ a, v = .ref a ∧ H a = some (.tup (xs.map .int)) ∧ xs.length ≤ 1000 := by
  obtain ⟨a, ys, rfl, ha, hl, r⟩ := h.tupE
  obtain rfl := dv_ints r
  exact ⟨a, rfl, ha, by simpa using hl⟩
theorem boolsAt {H : Hp} {v : V} {r : List Bool} (h : Dv H v (.tuple (r.map .bool))) : ∃ a, v = .ref a ∧ H a = some (.tup (r.map .bl)) := by
  obtain ⟨a, ys, rfl, ha, hl, r2⟩ := h.tupE
  obtain rfl := dv_bools r2
  exact ⟨a, rfl, ha⟩
theorem shPy_at {H : Hp} {v : V} {sh : List (List Bool)} (h : Dv H v (shPy sh)) : ∃ (a : Addr) (vs : List V), v = .ref a ∧ H a = some (HO.tup vs) ∧ vs.length = sh.length ∧ ∀ (i : Nat) (r : List Bool), sh[i]? = some r → ∃ b : Addr, vs[i]? = some (V.ref b) ∧ H b = some (.tup (r.map V.bl)) := by
  obtain ⟨a, vs, rfl, ha, hl, r2⟩ := h.tupE
  refine ⟨a, vs, rfl, ha, by simpa using r2.len, fun i r e => ?_⟩
  obtain ⟨v, e1, h1⟩ := r2.get (i := i) (d := .tuple (r.map .bool)) (by simp [e])
  obtain ⟨b, rfl, hb⟩ := boolsAt h1
  exact ⟨b, e1, hb⟩
theorem intTy {K : PySem.W.Frag} {H : Hp} {i : Int} : ∃ t : String, TyX K H (.int i) (.type t) ∧ PySem.W.kitOne K (.type t) (.type "int") = some true ∧ PySem.W.kitOne K (.type t) (.type "bool") = some false ∧ PySem.W.kitOne K (.type t) (.type "str") = some false ∧ PySem.W.kitOne K (.type t) (.type "tuple") = some false :=
  ⟨"int", .base (.int i), kit_ty (by decide +kernel), kit_ty (by decide +kernel), kit_ty (by decide +kernel), kit_ty (by decide +kernel)⟩
theorem blTy {K : PySem.W.Frag} {H : Hp} {i : Bool} : ∃ t : String, TyX K H (.bl i) (.type t) ∧ PySem.W.kitOne K (.type t) (.type "bool") = some true :=
  ⟨"bool", .base (.bl i), kit_ty (by decide +kernel)⟩
theorem tpTy {K : PySem.W.Frag} {H : Hp} {a : Addr} {xs : List V} (h : H a = some (.tup xs)) : ∃ t : String, TyX K H (.ref a) (.type t) ∧ PySem.W.kitOne K (.type t) (.type "tuple") = some true := ⟨"tuple", .base (.tup h), kit_ty (by decide +kernel)⟩
section
variable {P : Program} {w : World} {K : PySem.W.Frag} {mg : Str → Option Value} {base : Heap} {C_Tracing C_PlainHeap : Addr}
def spInt : Sp := fun vs H Q _ => ∃ i : Int, vs = [.int i] ∧ Q (.bl true) H
theorem ok_int {f : Addr} {fd : FuncData} (G : Gd K mg "is_integer" s_is_integer ["thing"] f fd) (X : Lw K mg C_Tracing C_PlainHeap) : FnOk P w K mg base CX0 1 f fd ["thing"] (spInt) := by

  refine G.F.ok sc_is_integer (fun vs H Q E h => ?_) (fun cdv A outer s H vs Q E hr h => ?_)
  · obtain ⟨i, rfl, _⟩ := h; rfl
  · obtain ⟨i, rfl, q⟩ := h
    refine ⟨_, (pss_one (ps_ret (pe_and (pe_callB call_isi (by rfl) X.b_isinstance (by decide +kernel) (pa_cons (pv 0) (pa_cons (pe_bltn (by rfl) X.b_int (v := .ty "int") (by decide +kernel) rfl) pa_nil))) (pe_one (pe_not (pe_callB call_isi (by rfl) X.b_isinstance (by decide +kernel) (pa_cons (pv 0) (pa_cons (pe_bltn (by rfl) X.b_bool (v := .ty "bool") (by decide +kernel) rfl) pa_nil)))))))), ?_⟩
    obtain ⟨t, t1, t2, t3, _⟩ := intTy (K := K) (H := H) (i := i)
    exact ⟨_, rfl, _, _, _, _, _, rfl, .ty _, t1, t2, true, rfl, iteT ⟨_, rfl, _, _, _, _, _, rfl, .ty _, t1, t3, false, rfl, q⟩⟩
def spBtw : Sp := fun vs H Q _ => ∃ x a b : Int, vs = [.int x, .int a, .int b] ∧ Q (.bl (decide (a ≤ x ∧ x ≤ b))) H
theorem ok_btw {f : Addr} {fd : FuncData} (G : Gd K mg "is_between" s_is_between ["thing", "least", "greatest"] f fd) (X : Lw K mg C_Tracing C_PlainHeap) : FnOk P w K mg base CX0 2 f fd ["thing", "least", "greatest"] (spBtw) := by
  obtain ⟨f_is_integer, d_is_integer, G_is_integer⟩ := X.f_is_integer
  have H_is_integer : FnOk P w K mg base CX0 1 f_is_integer d_is_integer ["thing"] (spInt) := ok_int G_is_integer X
  refine G.F.ok sc_is_between (fun vs H Q E h => ?_) (fun cdv A outer s H vs Q E hr h => ?_)
  · obtain ⟨x, a, b, rfl, _⟩ := h; rfl
  · obtain ⟨x, a, b, rfl, q⟩ := h
    refine ⟨_, (pss_one (ps_ret (pe_and (pe_call H_is_integer hr (by rfl) G_is_integer.g G_is_integer.F.kp G_is_integer.b .nil pass0 (pa_cons (pv 0) pa_nil)) (pe_one (pe_chain op_le op_le (pv 1) (pv 0) (pv 2)))))), ?_⟩
    refine ⟨_, rfl, x, rfl, true, rfl, iteT ?_⟩
    refine ⟨_, rfl, _, rfl, a, x, rfl, rfl, _, rfl, ?_⟩
    refine ite2 (fun e => ?_) (fun e => ?_)
    · refine ⟨_, rfl, x, b, rfl, rfl, ?_⟩
      have e1 := of_decide_eq_true e
      have e2 : decide (a ≤ x ∧ x ≤ b) = decide (x ≤ b) := by simp [e1]
      rw [e2] at q
      exact q
    · have e1 : ¬ a ≤ x := fun z => e (decide_eq_true z)
      have e2 : decide (a ≤ x ∧ x ≤ b) = false := by simp [e1]
      rw [e2] at q
      exact q
def spTto : Sp := fun vs H Q _ => ∃ (a : Addr) (xs : List V) (n : Int), vs = [.ref a, .int n] ∧ H a = some (.tup xs) ∧ Q (.bl (decide ((xs.length : Int) ≤ n))) H
theorem ok_tto {f : Addr} {fd : FuncData} (G : Gd K mg "is_tuple_to" s_is_tuple_to ["thing", "most"] f fd) (X : Lw K mg C_Tracing C_PlainHeap) : FnOk P w K mg base CX0 1 f fd ["thing", "most"] (spTto) := by

  refine G.F.ok sc_is_tuple_to (fun vs H Q E h => ?_) (fun cdv A outer s H vs Q E hr h => ?_)
  · obtain ⟨a, xs, n, rfl, _⟩ := h; rfl
  · obtain ⟨a, xs, n, rfl, ha, q⟩ := h
    refine ⟨_, (pss_one (ps_ret (pe_and (pe_callB call_isi (by rfl) X.b_isinstance (by decide +kernel) (pa_cons (pv 0) (pa_cons (pe_bltn (by rfl) X.b_tuple (v := .ty "tuple") (by decide +kernel) rfl) pa_nil))) (pe_one (pe_cmpR op_le (pe_callB call_len (by rfl) X.b_len PySem.boot_len (pa_cons (pv 0) pa_nil)) (pv 1) (nomark _)))))), ?_⟩
    obtain ⟨t, t1, t2⟩ := tpTy (K := K) ha
    exact ⟨_, rfl, _, _, _, _, _, rfl, .ty _, t1, t2, true, rfl, iteT ⟨_, rfl, .ref a, xs.length, rfl, .inr ⟨_, SqT.of ha, rfl⟩, _, rfl, _, _, rfl, rfl, q⟩⟩
end
end PH

/-! Shapes, kinds, sizes, links. -/
namespace PH
open PySem PySem.Spec PyProof.Rows L2 KA KI KK PV T ET
/-- is this slot of an object of the kind a reference slot? -/
def flag (sh : List (List Bool)) (k : Int) (i : Nat) : Bool := if k < 0 then decide (k = -2) else ((sh[k.toNat]?.getD [])[i]?).getD false
def idxOf (n : Nat) (f : Nat → Bool) : List Nat := (List.range n).filter f
def natV (is : List Nat) : List V := is.map fun (i : Nat) => V.int (i : Int)
/-- a number of slots that an object of the kind may have -/
def sizeOk (sh : List (List Bool)) (k : Int) (n : Nat) : Prop := n ≤ 1000 ∧ (0 ≤ k → ∃ r, sh[k.toNat]? = some r ∧ r.length = n)
section
variable {P : Program} {w : World} {K : PySem.W.Frag} {mg : Str → Option Value} {base : Heap} {C_Tracing C_PlainHeap : Addr}
def spLas : Sp := fun vs H Q _ => ∃ (v : V) (sh : List (List Bool)), vs = [v] ∧ Dv H v (shPy sh) ∧ sh.length ≤ 60 ∧ (∀ r ∈ sh, r.length ≤ 100) ∧ Q .non H
theorem ok_las {f : Addr} {fd : FuncData} (G : Gd K mg "look_at_shapes" s_look_at_shapes ["shapes"] f fd) (X : Lw K mg C_Tracing C_PlainHeap) : FnOk P w K mg base CX0 2 f fd ["shapes"] (spLas) := by
  obtain ⟨f_is_tuple_to, d_is_tuple_to, G_is_tuple_to⟩ := X.f_is_tuple_to
  have H_is_tuple_to : FnOk P w K mg base CX0 1 f_is_tuple_to d_is_tuple_to ["thing", "most"] (spTto) := ok_tto G_is_tuple_to X
  obtain ⟨_, m_MOST_SHAPE_FIELDS⟩ := X.c_MOST_SHAPE_FIELDS
  obtain ⟨_, m_MOST_SHAPES⟩ := X.c_MOST_SHAPES
  refine G.F.ok sc_look_at_shapes (fun vs H Q E h => ?_) (fun cdv A outer s H vs Q E hr h => ?_)
  · obtain ⟨v, sh, rfl, _⟩ := h; rfl
  · obtain ⟨v, sh, rfl, hv, h1, h2, q⟩ := h
    obtain ⟨a, vs, rfl, ha, hl, he⟩ := shPy_at hv
    refine ⟨_, (pss_cons (ps_if (pt_not (pt_val (pe_call H_is_tuple_to hr (by rfl) G_is_tuple_to.g G_is_tuple_to.F.kp G_is_tuple_to.b .nil pass0 (pa_cons (pv 0) (pa_cons (pe_glob (v := .int (60)) (by rfl) m_MOST_SHAPES ⟨_, rfl⟩) pa_nil)))))
        pss_never pss_nil)
      (pss_one (ps_for PassesOwn.never rfl (pi_tup (pv 0)) (pg_name (i := 1) sc_look_at_shapes.nd rfl (Or.inl rfl))
        (pss_cons (ps_if (pt_not (pt_val (pe_call H_is_tuple_to hr (by rfl) G_is_tuple_to.g G_is_tuple_to.F.kp G_is_tuple_to.b .nil pass0 (pa_cons (pv 1) (pa_cons (pe_glob (v := .int (100)) (by rfl) m_MOST_SHAPE_FIELDS ⟨_, rfl⟩) pa_nil)))))
        pss_never pss_nil)
      (pss_one (ps_for PassesOwn.never rfl (pi_tup (pv 1)) (pg_name (i := 2) sc_look_at_shapes.nd rfl (Or.inl rfl))
        (pss_one (ps_if (pt_not (pt_val (pe_callB call_isi (by rfl) X.b_isinstance (by decide +kernel) (pa_cons (pv 2) (pa_cons (pe_bltn (by rfl) X.b_bool (v := .ty "bool") (by decide +kernel) rfl) pa_nil)))))
        pss_never pss_nil)))))))), ?_⟩
    refine ⟨_, rfl, a, vs, 60, rfl, ha, ⟨_, rfl, ?_⟩⟩
    rw [decide_eq_true (show (vs.length : Int) ≤ 60 by omega)]
    refine iteF ?_
    refine ⟨_, rfl, a, rfl, ⟨_, SqT.of ha⟩, for_tup (xs := vs) (fun i σ H' => H' = H ∧ ∃ o1 o2, σ = [some (.ref a), o1, o2]) ⟨rfl, _, _, rfl⟩ ?_ ?_ ?_⟩
    · rintro i σ H' _ ⟨rfl, _⟩
      exact SqT.of ha
    · rintro i x σ H' hx ⟨rfl, o1, o2, rfl⟩
      have hi : i < sh.length := by
        have := (List.getElem?_eq_some_iff.mp hx).1
        omega
      obtain ⟨b, e1, hb⟩ := he i sh[i] (List.getElem?_eq_getElem hi)
      rw [e1] at hx
      cases hx
      have hr := h2 sh[i] (List.getElem_mem hi)
      refine ⟨_, rfl, b, _, 100, rfl, hb, ⟨_, rfl, ?_⟩⟩
      rw [decide_eq_true (show ((sh[i].map V.bl).length : Int) ≤ 100 by rw [List.length_map]; omega)]
      refine iteF ?_
      refine ⟨_, rfl, b, rfl, ⟨_, SqT.of hb⟩, for_tup (xs := sh[i].map V.bl) (fun i σ H' => H' = _ ∧ ∃ o1 o2, σ = [some (.ref a), o1, o2]) ⟨rfl, _, _, rfl⟩ ?_ ?_ ?_⟩
      · rintro i σ H' _ ⟨rfl, _⟩
        exact SqT.of hb
      · rintro j x σ H' hx ⟨rfl, o1, o2, rfl⟩
        rw [List.getElem?_map] at hx
        obtain ⟨t, _, rfl⟩ := Option.map_eq_some_iff.mp hx
        obtain ⟨ty, t1, t2⟩ := blTy (K := K) (H := H') (i := t)
        exact ⟨_, rfl, _, _, _, _, _, rfl, .ty _, t1, t2, _, rfl, iteF ⟨rfl, _, _, rfl⟩⟩
      · rintro σ H' ⟨rfl, o1, o2, rfl⟩
        exact ⟨rfl, _, _, rfl⟩
    · rintro σ H' ⟨rfl, _⟩
      exact q
def spLak : Sp := fun vs H Q _ => ∃ (v : V) (k : Int) (sh : List (List Bool)), vs = [v, .int k] ∧ Dv H v (shPy sh) ∧ -3 ≤ k ∧ k < sh.length ∧ Q .non H
theorem ok_lak {f : Addr} {fd : FuncData} (G : Gd K mg "look_at_kind" s_look_at_kind ["shapes", "kind"] f fd) (X : Lw K mg C_Tracing C_PlainHeap) : FnOk P w K mg base CX0 3 f fd ["shapes", "kind"] (spLak) := by
  obtain ⟨f_is_between, d_is_between, G_is_between⟩ := X.f_is_between
  have H_is_between : FnOk P w K mg base CX0 2 f_is_between d_is_between ["thing", "least", "greatest"] (spBtw) := ok_btw G_is_between X
  obtain ⟨_, m_SIGNS⟩ := X.c_SIGNS
  refine G.F.ok sc_look_at_kind (fun vs H Q E h => ?_) (fun cdv A outer s H vs Q E hr h => ?_)
  · obtain ⟨v, k, sh, rfl, _⟩ := h; rfl
  · obtain ⟨v, k, sh, rfl, hv, h1, h2, q⟩ := h
    obtain ⟨a, vs, rfl, ha, hl, he⟩ := shPy_at hv
    refine ⟨_, (pss_one (ps_if (pt_not (pt_val (pe_call H_is_between hr (by rfl) G_is_between.g G_is_between.F.kp G_is_between.b .nil pass0 (pa_cons (pv 1) (pa_cons (pe_glob (v := .int (-3)) (by rfl) m_SIGNS ⟨_, rfl⟩) (pa_cons (pe_op op_sub (pe_callB call_len (by rfl) X.b_len PySem.boot_len (pa_cons (pv 0) pa_nil)) pe_int) pa_nil))))))
        pss_never pss_nil)), ?_⟩
    refine ⟨_, rfl, .ref a, rfl, .ref a, vs.length, rfl, .inr ⟨_, SqT.of ha, rfl⟩, _, _, rfl, rfl, k, -3, (vs.length : Int) - 1, rfl, _, rfl, ?_⟩
    rw [decide_eq_true (show -3 ≤ k ∧ k ≤ (vs.length : Int) - 1 by omega)]
    exact iteF q
def spIsz : Sp := fun vs H Q _ => ∃ (v : V) (k : Int) (n : Nat) (sh : List (List Bool)), vs = [v, .int k, .int n] ∧ Dv H v (shPy sh) ∧ sizeOk sh k n ∧ Q (.bl true) H
theorem ok_isz {f : Addr} {fd : FuncData} (G : Gd K mg "is_size" s_is_size ["shapes", "kind", "slots"] f fd) (X : Lw K mg C_Tracing C_PlainHeap) : FnOk P w K mg base CX0 1 f fd ["shapes", "kind", "slots"] (spIsz) := by
  obtain ⟨_, m_MOST_ENTRIES⟩ := X.c_MOST_ENTRIES
  refine G.F.ok sc_is_size (fun vs H Q E h => ?_) (fun cdv A outer s H vs Q E hr h => ?_)
  · obtain ⟨v, k, n, sh, rfl, _⟩ := h; rfl
  · obtain ⟨v, k, n, sh, rfl, hv, ⟨h1, h2⟩, q⟩ := h
    obtain ⟨a, vs, rfl, ha, hl, he⟩ := shPy_at hv
    refine ⟨_, (pss_cons (ps_if (pt_cmpR op_ge (pv 1) pe_int (nomark _))
        (pss_one (ps_ret (pe_cmpR op_eq (pv 2) (pe_callB call_len (by rfl) X.b_len PySem.boot_len (pa_cons (pe_ix ix_tup (pv 0) (pv 1) (fun _ _ => rfl)) pa_nil)) (nomark _)))) pss_nil)
      (pss_one (ps_ret (pe_chain op_le op_le pe_int (pv 2) (pe_glob (v := .int (1000)) (by rfl) m_MOST_ENTRIES ⟨_, rfl⟩))))), ?_⟩
    refine ⟨_, rfl, k, 0, rfl, rfl, _, rfl, ite2 (fun e => ?_) (fun e => ?_)⟩
    · have e1 : 0 ≤ k := of_decide_eq_true e
      obtain ⟨r, er, rfl⟩ := h2 e1
      obtain ⟨b, e2, hb⟩ := he _ r er
      refine ⟨_, rfl, .ref a, rfl, .int k, rfl, a, _, k, .ref b, rfl, rfl, SqT.of ha, ?_, .ref b, _, rfl, .inr ⟨_, SqT.of hb, rfl⟩, rfl, ?_⟩
      · obtain ⟨j, rfl⟩ : ∃ j : Nat, k = j := ⟨k.toNat, by omega⟩
        exact atI_nat e2
      · have : decide (V.int (r.length : Int) = V.int ((r.map V.bl).length : Int)) = true := by simp
        rw [this]
        exact q
    · refine ⟨_, rfl, 0, n, rfl, rfl, _, rfl, ?_⟩
      refine ite2 (fun e2 => ?_) (fun e2 => absurd (decide_eq_true (show (0 : Int) ≤ n by omega)) e2)
      refine ⟨n, 1000, rfl, rfl, ?_⟩
      have : decide ((n : Int) ≤ 1000) = true := decide_eq_true (by omega)
      show Q (V.bl (decide ((n : Int) ≤ 1000))) H
      rw [this]
      exact q
def spLaz : Sp := fun vs H Q _ => ∃ (v : V) (k : Int) (n : Nat) (sh : List (List Bool)), vs = [v, .int k, .int n] ∧ Dv H v (shPy sh) ∧ sizeOk sh k n ∧ Q .non H
theorem ok_laz {f : Addr} {fd : FuncData} (G : Gd K mg "look_at_size" s_look_at_size ["shapes", "kind", "slots"] f fd) (X : Lw K mg C_Tracing C_PlainHeap) : FnOk P w K mg base CX0 2 f fd ["shapes", "kind", "slots"] (spLaz) := by
  obtain ⟨f_is_size, d_is_size, G_is_size⟩ := X.f_is_size
  have H_is_size : FnOk P w K mg base CX0 1 f_is_size d_is_size ["shapes", "kind", "slots"] (spIsz) := ok_isz G_is_size X
  obtain ⟨f_is_integer, d_is_integer, G_is_integer⟩ := X.f_is_integer
  have H_is_integer : FnOk P w K mg base CX0 1 f_is_integer d_is_integer ["thing"] (spInt) := ok_int G_is_integer X
  refine G.F.ok sc_look_at_size (fun vs H Q E h => ?_) (fun cdv A outer s H vs Q E hr h => ?_)
  · obtain ⟨v, k, n, sh, rfl, _⟩ := h; rfl
  · obtain ⟨v, k, n, sh, rfl, hv, h1, q⟩ := h
    refine ⟨_, (pss_one (ps_if (PW.pt (pw_or (pt_not (pt_val (pe_call H_is_integer hr (by rfl) G_is_integer.g G_is_integer.F.kp G_is_integer.b .nil pass0 (pa_cons (pv 2) pa_nil)))) (pw_or1 (pt_not (pt_val (pe_call H_is_size hr (by rfl) G_is_size.g G_is_size.F.kp G_is_size.b .nil pass0 (pa_cons (pv 0) (pa_cons (pv 1) (pa_cons (pv 2) pa_nil)))))))))
        pss_never pss_nil)), ?_⟩
    refine ⟨_, rfl, n, rfl, true, rfl, iteF ?_⟩
    refine ⟨_, rfl, _, rfl, _, rfl, v, k, n, sh, rfl, hv, h1, true, rfl, iteF q⟩
def spIsl : Sp := fun vs H Q _ => ∃ (v : V) (k : Int) (i n : Nat) (sh : List (List Bool)), vs = [v, .int k, .int i] ∧ Dv H v (shPy sh) ∧ sizeOk sh k n ∧ i < n ∧ Q (.bl (flag sh k i)) H
theorem ok_isl {f : Addr} {fd : FuncData} (G : Gd K mg "is_link" s_is_link ["shapes", "kind", "slot"] f fd) (X : Lw K mg C_Tracing C_PlainHeap) : FnOk P w K mg base CX0 1 f fd ["shapes", "kind", "slot"] (spIsl) := by
  obtain ⟨_, m_LINK_ROW⟩ := X.c_LINK_ROW
  refine G.F.ok sc_is_link (fun vs H Q E h => ?_) (fun cdv A outer s H vs Q E hr h => ?_)
  · obtain ⟨v, k, i, n, sh, rfl, _⟩ := h; rfl
  · obtain ⟨v, k, i, n, sh, rfl, hv, ⟨h1, h2⟩, hi, q⟩ := h
    obtain ⟨a, vs, rfl, ha, hl, he⟩ := shPy_at hv
    refine ⟨_, (pss_one (ps_ret (pe_ifExp (pt_cmpR op_ge (pv 1) pe_int (nomark _)) (pe_ix ix_tup (pe_ix ix_tup (pv 0) (pv 1) (fun _ _ => rfl)) (pv 2) (fun _ _ => rfl)) (pe_cmpR op_eq (pv 1) (pe_glob (v := .int (-2)) (by rfl) m_LINK_ROW ⟨_, rfl⟩) (nomark _))))), ?_⟩
    refine ⟨_, rfl, k, 0, rfl, rfl, _, rfl, ite2 (fun e => ?_) (fun e => ?_)⟩
    · have e1 : 0 ≤ k := of_decide_eq_true e
      obtain ⟨r, er, rfl⟩ := h2 e1
      obtain ⟨b, e2, hb⟩ := he _ r er
      obtain ⟨j, rfl⟩ : ∃ j : Nat, k = j := ⟨k.toNat, by omega⟩
      refine ⟨_, rfl, .int j, rfl, a, _, j, .ref b, rfl, rfl, SqT.of ha, atI_nat e2, .int i, rfl, b, _, i, .bl r[i], rfl, rfl, SqT.of hb, atI_nat (by simp [hi]), ?_⟩
      have : flag sh (j : Int) i = r[i] := by
        unfold flag
        rw [if_neg (by omega), er]
        simp [hi]
      rw [← this]
      exact q
    · have e1 : ¬ 0 ≤ k := fun z => e (decide_eq_true z)
      refine ⟨_, rfl, rfl, ?_⟩
      have : flag sh k i = decide (V.int k = V.int (-2)) := by
        unfold flag
        rw [if_pos (by omega)]
        simp
      rw [this] at q
      exact q
def spShl : Sp := fun vs H Q _ => ∃ (v : V) (r : List Bool), vs = [v] ∧ Dv H v (.tuple (r.map .bool)) ∧ r.length ≤ 1000 ∧ ∀ (b : Addr) (H' : Hp), H b = none → Same H H' → H' b = some (.tup (natV (idxOf r.length fun i => r[i]?.getD false))) → Q (.ref b) H'
theorem ok_shl {f : Addr} {fd : FuncData} (G : Gd K mg "shape_links" s_shape_links ["shape"] f fd) (X : Lw K mg C_Tracing C_PlainHeap) : FnOk P w K mg base CX0 1 f fd ["shape"] (spShl) := by

  refine G.F.ok sc_shape_links (fun vs H Q E h => ?_) (fun cdv A outer s H vs Q E hr h => ?_)
  · obtain ⟨v, r, rfl, _⟩ := h; rfl
  · obtain ⟨v, r, rfl, hv, hl, q⟩ := h
    obtain ⟨a, rfl, ha⟩ := boolsAt hv
    refine ⟨_, (pss_one (ps_ret (pe_callTy call_tuple_of (by rfl) X.b_tuple (by decide +kernel) (pa_cons (pe_lc (own := [("index", 1), ("truth", 2)]) (g := (gTup K 2 (gCons (gName 1) (gCons (gName 2) gNil)))) rfl sc_shape_links.nd (pi_enumT (by rfl) X.b_enumerate (pa_cons (pv 0) pa_nil)) (blkOk_by (own := [("index", 1), ("truth", 2)]) (N := ["shape", "index", "truth"]) (sc := defScope s_shape_links) (by decide +kernel)) (fun _ _ _ _ _ => (pg_tup rfl (pgs_cons (pg_name (i := 1) sc_shape_links.nd rfl (Or.inl rfl)) (pgs_cons (pg_name (i := 2) sc_shape_links.nd rfl (Or.inl rfl)) pgs_nil)))) (fun _ _ _ _ _ => (pts_one (pt_val (pv 2)))) (fun _ _ _ _ _ => (pv 1))) pa_nil)))), ?_⟩
    refine ⟨_, rfl, a, _, rfl, SqT.of ha, fun D nD => ?_⟩
    have kp : ∀ {b : Addr} {o : HO}, H b = some o → b ≠ D := fun e => ne_of_none e nD
    refine lc_it (walk_enumT (xs := r.map V.bl)) (fun i H' => H' D = some (.lst (natV (idxOf i fun i => r[i]?.getD false))) ∧ Same H H') ⟨upd_same, fun b o e => by rw [upd_ne (kp e)]; exact e⟩ ?_ ?_ ?_
    · rintro i H' _ ⟨_, s1⟩
      exact SqT.of (s1 _ _ ha)
    · rintro i x H1 H2 hi ⟨hD, s1⟩ ⟨T, x1, y1, rfl, nT, rfl, e1, e2⟩
      cases e1
      have hi2 : i < r.length := by simpa using hi
      have e2 : (r.map V.bl)[i]? = some y1 := e2
      rw [List.getElem?_map, List.getElem?_eq_getElem hi2] at e2
      cases e2
      have TD : D ≠ T := ne_of_none hD nT
      have s2 : Same H (upd H1 T (.tup [.int (i : Nat), .bl r[i]])) := fun b o e => by rw [upd_ne (ne_of_none (s1 b o e) nT)]; exact s1 b o e
      have hD2 : (upd H1 T (.tup [.int (i : Nat), .bl r[i]])) D = some (.lst (natV (idxOf i fun i => r[i]?.getD false))) := by rw [upd_ne TD]; exact hD
      refine ⟨T, _, rfl, SqT.of upd_same, rfl, _, _, rfl, _, _, rfl, rfl, rfl, _, rfl, r[i], rfl, ?_⟩
      have ei : idxOf (i + 1) (fun i => r[i]?.getD false) = idxOf i (fun i => r[i]?.getD false) ++ if r[i] = true then [i] else [] := by
        unfold idxOf
        rw [List.range_succ, List.filter_append]
        congr 1
        cases e : r[i] <;> simp [hi2, e]
      cases e : r[i] with
      | true =>
        refine iteT ⟨_, rfl, _, by rw [e] at hD2; exact hD2, ?_, ?_⟩
        · have : (natV (idxOf i fun i => r[i]?.getD false)).length ≤ i := by
            unfold natV idxOf
            rw [List.length_map]
            exact Nat.le_trans (List.length_filter_le _ _) (by simp)
          exact small1000 (by omega)
        · refine ⟨?_, fun b o e2 => ?_⟩
          · rw [ei, e, upd_same]
            simp [natV]
          · rw [upd_ne (kp e2), ← e]
            exact s2 b o e2
      | false =>
        refine iteF ⟨?_, ?_⟩
        · rw [ei, e]
          rw [e] at hD2
          simpa using hD2
        · rw [e] at s2
          exact s2
    · rintro H1 ⟨hD, s1⟩
      refine ⟨D, _, rfl, .inl ⟨SqL.of hD, fun p np => ?_⟩⟩
      have e : (r.map V.bl).length = r.length := List.length_map ..
      rw [e]
      exact q p _ (s1.free np) (fun b o e => by rw [upd_ne (ne_of_none (s1 b o e) np)]; exact s1 b o e) upd_same
end
end PH

/-! The plain heap's methods but its graphs. -/
namespace PH
open PySem PySem.Spec PyProof.Rows L2 KA KI KK PV T ET
/-- all but these is kept -/
def KeptL (l : List Addr) (H H' : Hp) : Prop := ∀ b o, b ∉ l → H b = some o → H' b = some o
theorem KeptL.trans {l : List Addr} {H H1 H2 : Hp} (a : KeptL l H H1) (b : KeptL l H1 H2) : KeptL l H H2 := fun c o n h => b c o n (a c o n h)
theorem KeptL.of_same {l : List Addr} {H H' : Hp} (b : Same H H') : KeptL l H H' := fun c o _ h => b c o h
theorem KeptL.mono {l m : List Addr} {H H' : Hp} (k : KeptL l H H') (h : ∀ b ∈ l, b ∈ m) : KeptL m H H' := fun c o n e => k c o (fun z => n (h c z)) e
theorem KeptL.tups {l : List Addr} {H H' : Hp} (k : KeptL l H H') (h : ∀ b ∈ l, ∃ xs, H b = some (.lst xs)) : TupSame H H' := fun a xs e => k a _ (fun z => by
  obtain ⟨ys, hy⟩ := h a z
  rw [e] at hy
  cases hy) e
theorem same_new {H1 : Hp} {p : Addr} {o : HO} (h : H1 p = none) : Same H1 (upd H1 p o) := fun b u e => by rw [upd_ne (ne_of_none e h)]; exact e
theorem same_at {H H1 : Hp} {p : Addr} {o : HO} (h : H p = none) (s : Same H H1) : Same H (upd H1 p o) := fun b u e => by rw [upd_ne (ne_of_none e h)]; exact s b u e
structure Pa where
  dx : Addr
  aS : Addr
  aK : Addr
  aB : Addr
  bs : List Addr
def PhF (a : Pa) : List (Str × V) := [("shapes", .ref a.aS), ("kinds", .ref a.aK), ("bodies", .ref a.aB)]
theorem phF_no {a : Pa} {m : Str} (h1 : (m == "shapes") = false) (h2 : (m == "kinds") = false) (h3 : (m == "bodies") = false) : (PhF a).lookup m = none := by
  simp only [PhF, List.lookup, h1, h2, h3]
/-- a plain heap of these things stands at p -/
structure PhAt (C : Addr) (H : Hp) (p : Addr) (a : Pa) (sh : List (List Bool)) (T : List Thing) : Prop where
  at_ : H p = some (.ins C a.dx (PhF a))
  sh : Dv H (.ref a.aS) (shPy sh)
  kinds : H a.aK = some (.lst (T.map fun t => V.int t.1))
  bodies : H a.aB = some (.lst (a.bs.map V.ref))
  len : a.bs.length = T.length
  each : ∀ (i : Nat) (t : Thing) (b : Addr), T[i]? = some t → a.bs[i]? = some b → H b = some (.lst (t.2.map V.int))
  nd : (a.aK :: a.aB :: a.bs).Nodup
/-- things within their bounds -/
structure OkW (sh : List (List Bool)) (T : List Thing) : Prop where
  s1 : sh.length ≤ 6
  s2 : ∀ r ∈ sh, r.length ≤ 100
  t1 : T.length ≤ 500
  k : ∀ t ∈ T, -3 ≤ t.1 ∧ t.1 < sh.length
  z : ∀ t ∈ T, sizeOk sh t.1 t.2.length
  v : ∀ t ∈ T, ∀ (i : Nat) (x : Int), t.2[i]? = some x → if flag sh t.1 i = true then 0 ≤ x ∧ x ≤ T.length else -2147483648 ≤ x ∧ x ≤ 2147483647
theorem PhAt.same {C : Addr} {H H' : Hp} {p : Addr} {a : Pa} {sh : List (List Bool)} {T : List Thing} (h : PhAt C H p a sh T) (s : Same H H') : PhAt C H' p a sh T :=
  ⟨s _ _ h.at_, h.sh.same (TupSame.of s), s _ _ h.kinds, s _ _ h.bodies, h.len, fun i t b e1 e2 => s _ _ (h.each i t b e1 e2), h.nd⟩
theorem PhAt.bod {C : Addr} {H : Hp} {p : Addr} {a : Pa} {sh : List (List Bool)} {T : List Thing} (h : PhAt C H p a sh T) {i : Nat} {t : Thing} (e : T[i]? = some t) : ∃ b, a.bs[i]? = some b ∧ H b = some (.lst (t.2.map V.int)) := by
  have hi := (List.getElem?_eq_some_iff.mp e).1
  have hb : i < a.bs.length := by rw [h.len]; exact hi
  exact ⟨a.bs[i], List.getElem?_eq_getElem hb, h.each i t _ e (List.getElem?_eq_getElem hb)⟩
section
variable {P : Program} {w : World} {K : PySem.W.Frag} {mg : Str → Option Value} {base : Heap} {C_Tracing C_PlainHeap : Addr}
def spIso (C : Addr) : Sp := fun vs H Q _ => ∃ (p : Addr) (x : Int) (a : Pa) (sh : List (List Bool)) (T : List Thing), vs = [.ref p, .int x] ∧ PhAt C H p a sh T ∧ Q (.bl (decide (1 ≤ x ∧ x ≤ T.length))) H
theorem ok_iso {f : Addr} {fd : FuncData} (G : Md K C_PlainHeap "is_object" "PlainHeap.is_object" s_PlainHeap_is_object ["self", "address"] f fd) (X : Lw K mg C_Tracing C_PlainHeap) : FnOk P w K mg base CX0 1 f fd ["self", "address"] (spIso C_PlainHeap) := by

  refine G.F.ok sc_PlainHeap_is_object (fun vs H Q E h => ?_) (fun cdv A outer s H vs Q E hr h => ?_)
  · obtain ⟨p, x, a, sh, T, rfl, _⟩ := h; rfl
  · obtain ⟨p, x, a, sh, T, rfl, hp, q⟩ := h
    refine ⟨_, (pss_one (ps_ret (pe_chain op_le op_le pe_int (pv 1) (pe_callB call_len (by rfl) X.b_len PySem.boot_len (pa_cons (pe_fld (pv 0) rfl) pa_nil))))), ?_⟩
    refine ⟨_, rfl, 1, x, rfl, rfl, _, rfl, ite2 (fun e => ?_) (fun e => ?_)⟩
    · refine ⟨_, rfl, p, C_PlainHeap, a.dx, PhF a, .ref a.aB, rfl, hp.at_, X.cl_PlainHeap, X.n_PlainHeap_bodies, rfl, ?_⟩
      refine ⟨.ref a.aB, a.bs.length, rfl, .inl ⟨_, SqL.of hp.bodies, by simp⟩, x, _, rfl, rfl, ?_⟩
      have e1 : (1 : Int) ≤ x := of_decide_eq_true e
      have e2 : decide (1 ≤ x ∧ x ≤ (T.length : Int)) = decide (x ≤ (a.bs.length : Int)) := by rw [hp.len]; simp [e1]
      rw [e2] at q
      exact q
    · have e1 : ¬ (1 : Int) ≤ x := fun z => e (decide_eq_true z)
      have e2 : decide (1 ≤ x ∧ x ≤ (T.length : Int)) = false := by simp [e1]
      rw [e2] at q
      exact q
def rootsOk (n : Nat) (rs : List Int) : Prop := ∀ r ∈ rs, 0 ≤ r ∧ r ≤ n
def spArr (C : Addr) : Sp := fun vs H Q _ => ∃ (p : Addr) (v : V) (rs : List Int) (a : Pa) (sh : List (List Bool)) (T : List Thing), vs = [v, .ref p] ∧ Dv H v (inPy rs) ∧ rootsOk T.length rs ∧ PhAt C H p a sh T ∧ Q (.bl true) H
theorem ok_arr {f : Addr} {fd : FuncData} (G : Gd K mg "are_roots" s_are_roots ["roots", "holder"] f fd) (X : Lw K mg C_Tracing C_PlainHeap) : FnOk P w K mg base CX0 2 f fd ["roots", "holder"] (spArr C_PlainHeap) := by
  obtain ⟨f_PlainHeap_is_object, d_PlainHeap_is_object, M_PlainHeap_is_object⟩ := X.m_PlainHeap_is_object
  have H_PlainHeap_is_object : FnOk P w K mg base CX0 1 f_PlainHeap_is_object d_PlainHeap_is_object ["self", "address"] (spIso C_PlainHeap) := ok_iso M_PlainHeap_is_object X
  obtain ⟨f_is_integer, d_is_integer, G_is_integer⟩ := X.f_is_integer
  have H_is_integer : FnOk P w K mg base CX0 1 f_is_integer d_is_integer ["thing"] (spInt) := ok_int G_is_integer X
  obtain ⟨f_is_tuple_to, d_is_tuple_to, G_is_tuple_to⟩ := X.f_is_tuple_to
  have H_is_tuple_to : FnOk P w K mg base CX0 1 f_is_tuple_to d_is_tuple_to ["thing", "most"] (spTto) := ok_tto G_is_tuple_to X
  obtain ⟨_, m_MOST_ROOTS⟩ := X.c_MOST_ROOTS
  refine G.F.ok sc_are_roots (fun vs H Q E h => ?_) (fun cdv A outer s H vs Q E hr h => ?_)
  · obtain ⟨p, v, rs, a, sh, T, rfl, _⟩ := h; rfl
  · obtain ⟨p, v, rs, a, sh, T, rfl, hv, hr2, hp, q⟩ := h
    obtain ⟨b, rfl, hb, hl⟩ := inPy_at hv
    refine ⟨_, (pss_cons (ps_if (pt_not (pt_val (pe_call H_is_tuple_to hr (by rfl) G_is_tuple_to.g G_is_tuple_to.F.kp G_is_tuple_to.b .nil pass0 (pa_cons (pv 0) (pa_cons (pe_glob (v := .int (40000)) (by rfl) m_MOST_ROOTS ⟨_, rfl⟩) pa_nil)))))
        (pss_one (ps_ret pe_bl)) pss_nil)
      (pss_cons (ps_for PassesOwn.never rfl (pi_tup (pv 0)) (pg_name (i := 2) sc_are_roots.nd rfl (Or.inl rfl))
        (pss_one (ps_if (PW.pt (pw_or (pt_not (pt_val (pe_call H_is_integer hr (by rfl) G_is_integer.g G_is_integer.F.kp G_is_integer.b .nil pass0 (pa_cons (pv 2) pa_nil)))) (pw_or1 (PW.pt (pw_and (pt_cmpR op_ne (pv 2) pe_int (nomark _)) (pw_and1 (pt_not (pt_val (pe_meth (pv 1) X.cl_PlainHeap M_PlainHeap_is_object.m H_PlainHeap_is_object hr M_PlainHeap_is_object.b .nil pass0 (pa_cons (pv 2) pa_nil))))))))))
        (pss_one (ps_ret pe_bl)) pss_nil)))
      (pss_one (ps_ret pe_bl)))), ?_⟩
    refine ⟨_, rfl, b, _, 40000, rfl, hb, _, rfl, ?_⟩
    rw [decide_eq_true (show ((rs.map V.int).length : Int) ≤ 40000 by rw [List.length_map]; omega)]
    refine iteF ?_
    refine ⟨_, rfl, b, rfl, ⟨_, SqT.of hb⟩, for_tup (xs := rs.map V.int) (fun i σ H' => H' = H ∧ ∃ o1, σ = [some (.ref b), some (.ref p), o1]) ⟨rfl, _, rfl⟩ ?_ ?_ ?_⟩
    · rintro i σ H' _ ⟨rfl, _⟩
      exact SqT.of hb
    · rintro i x σ H' hx ⟨rfl, o1, rfl⟩
      rw [List.getElem?_map] at hx
      obtain ⟨r, er, rfl⟩ := Option.map_eq_some_iff.mp hx
      obtain ⟨r0, r1⟩ := hr2 r (List.mem_of_getElem? er)
      refine ⟨_, rfl, r, rfl, true, rfl, iteF ?_⟩
      refine ⟨_, rfl, rfl, _, rfl, ?_⟩
      by_cases e : r = 0
      · subst e
        exact iteF (iteF ⟨rfl, _, rfl⟩)
      · have : (!decide (V.int r = V.int 0)) = true := by simp [e]
        rw [this]
        refine iteT ⟨_, rfl, p, _, _, rfl, hp.at_, phF_no rfl rfl rfl, _, rfl, p, r, a, sh, T, rfl, hp, _, rfl, ?_⟩
        rw [decide_eq_true (show 1 ≤ r ∧ r ≤ (T.length : Int) by omega)]
        exact iteF ⟨rfl, _, rfl⟩
    · rintro σ H' ⟨rfl, o1, rfl⟩
      exact q
def spLar (C : Addr) : Sp := fun vs H Q _ => ∃ (p : Addr) (v : V) (rs : List Int) (a : Pa) (sh : List (List Bool)) (T : List Thing), vs = [v, .ref p] ∧ Dv H v (inPy rs) ∧ rootsOk T.length rs ∧ PhAt C H p a sh T ∧ Q .non H
theorem ok_lar {f : Addr} {fd : FuncData} (G : Gd K mg "look_at_roots" s_look_at_roots ["roots", "holder"] f fd) (X : Lw K mg C_Tracing C_PlainHeap) : FnOk P w K mg base CX0 3 f fd ["roots", "holder"] (spLar C_PlainHeap) := by
  obtain ⟨f_are_roots, d_are_roots, G_are_roots⟩ := X.f_are_roots
  have H_are_roots : FnOk P w K mg base CX0 2 f_are_roots d_are_roots ["roots", "holder"] (spArr C_PlainHeap) := ok_arr G_are_roots X
  refine G.F.ok sc_look_at_roots (fun vs H Q E h => ?_) (fun cdv A outer s H vs Q E hr h => ?_)
  · obtain ⟨p, v, rs, a, sh, T, rfl, _⟩ := h; rfl
  · obtain ⟨p, v, rs, a, sh, T, rfl, hv, hr2, hp, q⟩ := h
    refine ⟨_, (pss_one (ps_if (pt_not (pt_val (pe_call H_are_roots hr (by rfl) G_are_roots.g G_are_roots.F.kp G_are_roots.b .nil pass0 (pa_cons (pv 0) (pa_cons (pv 1) pa_nil)))))
        pss_never pss_nil)), ?_⟩
    exact ⟨_, rfl, _, rfl, p, v, rs, a, sh, T, rfl, hv, hr2, hp, _, rfl, iteF q⟩
def spLat (C : Addr) : Sp := fun vs H Q _ => ∃ (p : Addr) (v : V) (rs : List Int) (a : Pa) (sh : List (List Bool)) (T : List Thing), vs = [.ref p, v] ∧ Dv H v (inPy rs) ∧ rootsOk T.length rs ∧ PhAt C H p a sh T ∧ Q .non H
theorem ok_lat {f : Addr} {fd : FuncData} (G : Md K C_PlainHeap "look_at" "PlainHeap.look_at" s_PlainHeap_look_at ["self", "roots"] f fd) (X : Lw K mg C_Tracing C_PlainHeap) : FnOk P w K mg base CX0 4 f fd ["self", "roots"] (spLat C_PlainHeap) := by
  obtain ⟨f_look_at_roots, d_look_at_roots, G_look_at_roots⟩ := X.f_look_at_roots
  have H_look_at_roots : FnOk P w K mg base CX0 3 f_look_at_roots d_look_at_roots ["roots", "holder"] (spLar C_PlainHeap) := ok_lar G_look_at_roots X
  refine G.F.ok sc_PlainHeap_look_at (fun vs H Q E h => ?_) (fun cdv A outer s H vs Q E hr h => ?_)
  · obtain ⟨p, v, rs, a, sh, T, rfl, _⟩ := h; rfl
  · obtain ⟨p, v, rs, a, sh, T, rfl, hv, hr2, hp, q⟩ := h
    refine ⟨_, (pss_one (ps_expr (pe_call H_look_at_roots hr (by rfl) G_look_at_roots.g G_look_at_roots.F.kp G_look_at_roots.b .nil pass0 (pa_cons (pv 1) (pa_cons (pv 0) pa_nil))))), ?_⟩
    exact ⟨_, rfl, _, rfl, p, v, rs, a, sh, T, rfl, hv, hr2, hp, q⟩
def spLaa (C : Addr) : Sp := fun vs H Q _ => ∃ (p : Addr) (x : Int) (a : Pa) (sh : List (List Bool)) (T : List Thing), vs = [.ref p, .int x] ∧ 1 ≤ x ∧ x ≤ T.length ∧ PhAt C H p a sh T ∧ Q .non H
theorem ok_laa {f : Addr} {fd : FuncData} (G : Md K C_PlainHeap "look_at_address" "PlainHeap.look_at_address" s_PlainHeap_look_at_address ["self", "address"] f fd) (X : Lw K mg C_Tracing C_PlainHeap) : FnOk P w K mg base CX0 2 f fd ["self", "address"] (spLaa C_PlainHeap) := by
  obtain ⟨f_PlainHeap_is_object, d_PlainHeap_is_object, M_PlainHeap_is_object⟩ := X.m_PlainHeap_is_object
  have H_PlainHeap_is_object : FnOk P w K mg base CX0 1 f_PlainHeap_is_object d_PlainHeap_is_object ["self", "address"] (spIso C_PlainHeap) := ok_iso M_PlainHeap_is_object X
  obtain ⟨f_is_integer, d_is_integer, G_is_integer⟩ := X.f_is_integer
  have H_is_integer : FnOk P w K mg base CX0 1 f_is_integer d_is_integer ["thing"] (spInt) := ok_int G_is_integer X
  refine G.F.ok sc_PlainHeap_look_at_address (fun vs H Q E h => ?_) (fun cdv A outer s H vs Q E hr h => ?_)
  · obtain ⟨p, x, a, sh, T, rfl, _⟩ := h; rfl
  · obtain ⟨p, x, a, sh, T, rfl, x1, x2, hp, q⟩ := h
    refine ⟨_, (pss_one (ps_if (PW.pt (pw_or (pt_not (pt_val (pe_call H_is_integer hr (by rfl) G_is_integer.g G_is_integer.F.kp G_is_integer.b .nil pass0 (pa_cons (pv 1) pa_nil)))) (pw_or1 (pt_not (pt_val (pe_meth (pv 0) X.cl_PlainHeap M_PlainHeap_is_object.m H_PlainHeap_is_object hr M_PlainHeap_is_object.b .nil pass0 (pa_cons (pv 1) pa_nil)))))))
        pss_never pss_nil)), ?_⟩
    refine ⟨_, rfl, x, rfl, true, rfl, iteF ?_⟩
    refine ⟨_, rfl, p, _, _, rfl, hp.at_, phF_no rfl rfl rfl, _, rfl, p, x, a, sh, T, rfl, hp, _, rfl, ?_⟩
    rw [decide_eq_true (show 1 ≤ x ∧ x ≤ (T.length : Int) from ⟨x1, x2⟩)]
    exact iteF q
def spLas2 (C : Addr) : Sp := fun vs H Q _ => ∃ (p : Addr) (n i : Nat) (t : Thing) (a : Pa) (sh : List (List Bool)) (T : List Thing), vs = [.ref p, .int ((n + 1 : Nat) : Int), .int i] ∧ T[n]? = some t ∧ i < t.2.length ∧ PhAt C H p a sh T ∧ Q .non H
theorem ok_las2 {f : Addr} {fd : FuncData} (G : Md K C_PlainHeap "look_at_slot" "PlainHeap.look_at_slot" s_PlainHeap_look_at_slot ["self", "address", "slot"] f fd) (X : Lw K mg C_Tracing C_PlainHeap) : FnOk P w K mg base CX0 3 f fd ["self", "address", "slot"] (spLas2 C_PlainHeap) := by
  obtain ⟨f_is_between, d_is_between, G_is_between⟩ := X.f_is_between
  have H_is_between : FnOk P w K mg base CX0 2 f_is_between d_is_between ["thing", "least", "greatest"] (spBtw) := ok_btw G_is_between X
  obtain ⟨f_PlainHeap_look_at_address, d_PlainHeap_look_at_address, M_PlainHeap_look_at_address⟩ := X.m_PlainHeap_look_at_address
  have H_PlainHeap_look_at_address : FnOk P w K mg base CX0 2 f_PlainHeap_look_at_address d_PlainHeap_look_at_address ["self", "address"] (spLaa C_PlainHeap) := ok_laa M_PlainHeap_look_at_address X
  refine G.F.ok sc_PlainHeap_look_at_slot (fun vs H Q E h => ?_) (fun cdv A outer s H vs Q E hr h => ?_)
  · obtain ⟨p, n, i, t, a, sh, T, rfl, _⟩ := h; rfl
  · obtain ⟨p, n, i, t, a, sh, T, rfl, ht, hi, hp, q⟩ := h
    have hn := (List.getElem?_eq_some_iff.mp ht).1
    obtain ⟨b, e1, hb⟩ := hp.bod ht
    refine ⟨_, (pss_cons (ps_expr (pe_meth (pv 0) X.cl_PlainHeap M_PlainHeap_look_at_address.m H_PlainHeap_look_at_address hr M_PlainHeap_look_at_address.b .nil pass0 (pa_cons (pv 1) pa_nil)))
      (pss_one (ps_if (pt_not (pt_val (pe_call H_is_between hr (by rfl) G_is_between.g G_is_between.F.kp G_is_between.b .nil pass0 (pa_cons (pv 2) (pa_cons pe_int (pa_cons (pe_op op_sub (pe_callB call_len (by rfl) X.b_len PySem.boot_len (pa_cons (pe_ix ix_list (pe_fld (pv 0) rfl) (pe_op op_sub (pv 1) pe_int) (fun _ _ => rfl)) pa_nil)) pe_int) pa_nil))))))
        pss_never pss_nil))), ?_⟩
    refine ⟨_, rfl, p, _, _, rfl, hp.at_, phF_no rfl rfl rfl, _, rfl, p, _, a, sh, T, rfl, by omega, by omega, hp, ?_⟩
    refine ⟨_, rfl, _, rfl, p, C_PlainHeap, a.dx, PhF a, .ref a.aB, rfl, hp.at_, X.cl_PlainHeap, X.n_PlainHeap_bodies, rfl, ?_⟩
    refine ⟨_, rfl, _, _, rfl, rfl, a.aB, _, n, .ref b, rfl, by show V.int _ = V.int _; congr 1; omega, SqL.of hp.bodies, atI_nat (by simp [e1]), ?_⟩
    refine ⟨.ref b, t.2.length, rfl, .inl ⟨_, SqL.of hb, by simp⟩, _, _, rfl, rfl, i, 0, _, rfl, _, rfl, ?_⟩
    rw [decide_eq_true (show (0 : Int) ≤ (i : Int) ∧ (i : Int) ≤ (t.2.length : Int) - 1 by omega)]
    exact iteF q
def spKind (C : Addr) : Sp := fun vs H Q _ => ∃ (p : Addr) (n : Nat) (t : Thing) (a : Pa) (sh : List (List Bool)) (T : List Thing), vs = [.ref p, .int ((n + 1 : Nat) : Int)] ∧ T[n]? = some t ∧ PhAt C H p a sh T ∧ Q (.int t.1) H
theorem ok_kind {f : Addr} {fd : FuncData} (G : Md K C_PlainHeap "kind" "PlainHeap.kind" s_PlainHeap_kind ["self", "address"] f fd) (X : Lw K mg C_Tracing C_PlainHeap) : FnOk P w K mg base CX0 3 f fd ["self", "address"] (spKind C_PlainHeap) := by
  obtain ⟨f_PlainHeap_look_at_address, d_PlainHeap_look_at_address, M_PlainHeap_look_at_address⟩ := X.m_PlainHeap_look_at_address
  have H_PlainHeap_look_at_address : FnOk P w K mg base CX0 2 f_PlainHeap_look_at_address d_PlainHeap_look_at_address ["self", "address"] (spLaa C_PlainHeap) := ok_laa M_PlainHeap_look_at_address X
  refine G.F.ok sc_PlainHeap_kind (fun vs H Q E h => ?_) (fun cdv A outer s H vs Q E hr h => ?_)
  · obtain ⟨p, n, t, a, sh, T, rfl, _⟩ := h; rfl
  · obtain ⟨p, n, t, a, sh, T, rfl, ht, hp, q⟩ := h
    have hn := (List.getElem?_eq_some_iff.mp ht).1
    refine ⟨_, (pss_cons (ps_expr (pe_meth (pv 0) X.cl_PlainHeap M_PlainHeap_look_at_address.m H_PlainHeap_look_at_address hr M_PlainHeap_look_at_address.b .nil pass0 (pa_cons (pv 1) pa_nil)))
      (pss_one (ps_ret (pe_ix ix_list (pe_fld (pv 0) rfl) (pe_op op_sub (pv 1) pe_int) (fun _ _ => rfl))))), ?_⟩
    refine ⟨_, rfl, p, _, _, rfl, hp.at_, phF_no rfl rfl rfl, _, rfl, p, _, a, sh, T, rfl, by omega, by omega, hp, ?_⟩
    refine ⟨_, rfl, p, C_PlainHeap, a.dx, PhF a, .ref a.aK, rfl, hp.at_, X.cl_PlainHeap, X.n_PlainHeap_kinds, rfl, ?_⟩
    exact ⟨_, rfl, _, _, rfl, rfl, a.aK, _, n, .int t.1, rfl, by show V.int _ = V.int _; congr 1; omega, SqL.of hp.kinds, atI_nat (by simp [ht]), q⟩
def spSlots (C : Addr) : Sp := fun vs H Q _ => ∃ (p : Addr) (n : Nat) (t : Thing) (a : Pa) (sh : List (List Bool)) (T : List Thing), vs = [.ref p, .int ((n + 1 : Nat) : Int)] ∧ T[n]? = some t ∧ PhAt C H p a sh T ∧ Q (.int t.2.length) H
theorem ok_slots {f : Addr} {fd : FuncData} (G : Md K C_PlainHeap "slots" "PlainHeap.slots" s_PlainHeap_slots ["self", "address"] f fd) (X : Lw K mg C_Tracing C_PlainHeap) : FnOk P w K mg base CX0 3 f fd ["self", "address"] (spSlots C_PlainHeap) := by
  obtain ⟨f_PlainHeap_look_at_address, d_PlainHeap_look_at_address, M_PlainHeap_look_at_address⟩ := X.m_PlainHeap_look_at_address
  have H_PlainHeap_look_at_address : FnOk P w K mg base CX0 2 f_PlainHeap_look_at_address d_PlainHeap_look_at_address ["self", "address"] (spLaa C_PlainHeap) := ok_laa M_PlainHeap_look_at_address X
  refine G.F.ok sc_PlainHeap_slots (fun vs H Q E h => ?_) (fun cdv A outer s H vs Q E hr h => ?_)
  · obtain ⟨p, n, t, a, sh, T, rfl, _⟩ := h; rfl
  · obtain ⟨p, n, t, a, sh, T, rfl, ht, hp, q⟩ := h
    have hn := (List.getElem?_eq_some_iff.mp ht).1
    obtain ⟨b, e1, hb⟩ := hp.bod ht
    refine ⟨_, (pss_cons (ps_expr (pe_meth (pv 0) X.cl_PlainHeap M_PlainHeap_look_at_address.m H_PlainHeap_look_at_address hr M_PlainHeap_look_at_address.b .nil pass0 (pa_cons (pv 1) pa_nil)))
      (pss_one (ps_ret (pe_callB call_len (by rfl) X.b_len PySem.boot_len (pa_cons (pe_ix ix_list (pe_fld (pv 0) rfl) (pe_op op_sub (pv 1) pe_int) (fun _ _ => rfl)) pa_nil))))), ?_⟩
    refine ⟨_, rfl, p, _, _, rfl, hp.at_, phF_no rfl rfl rfl, _, rfl, p, _, a, sh, T, rfl, by omega, by omega, hp, ?_⟩
    refine ⟨_, rfl, p, C_PlainHeap, a.dx, PhF a, .ref a.aB, rfl, hp.at_, X.cl_PlainHeap, X.n_PlainHeap_bodies, rfl, ?_⟩
    refine ⟨_, rfl, _, _, rfl, rfl, a.aB, _, n, .ref b, rfl, by show V.int _ = V.int _; congr 1; omega, SqL.of hp.bodies, atI_nat (by simp [e1]), ?_⟩
    exact ⟨.ref b, t.2.length, rfl, .inl ⟨_, SqL.of hb, by simp⟩, q⟩
def spGet (C : Addr) : Sp := fun vs H Q _ => ∃ (p : Addr) (n i : Nat) (x : Int) (t : Thing) (a : Pa) (sh : List (List Bool)) (T : List Thing), vs = [.ref p, .int ((n + 1 : Nat) : Int), .int i] ∧ T[n]? = some t ∧ t.2[i]? = some x ∧ PhAt C H p a sh T ∧ Q (.int x) H
theorem ok_get {f : Addr} {fd : FuncData} (G : Md K C_PlainHeap "get" "PlainHeap.get" s_PlainHeap_get ["self", "address", "slot"] f fd) (X : Lw K mg C_Tracing C_PlainHeap) : FnOk P w K mg base CX0 4 f fd ["self", "address", "slot"] (spGet C_PlainHeap) := by
  obtain ⟨f_PlainHeap_look_at_slot, d_PlainHeap_look_at_slot, M_PlainHeap_look_at_slot⟩ := X.m_PlainHeap_look_at_slot
  have H_PlainHeap_look_at_slot : FnOk P w K mg base CX0 3 f_PlainHeap_look_at_slot d_PlainHeap_look_at_slot ["self", "address", "slot"] (spLas2 C_PlainHeap) := ok_las2 M_PlainHeap_look_at_slot X
  refine G.F.ok sc_PlainHeap_get (fun vs H Q E h => ?_) (fun cdv A outer s H vs Q E hr h => ?_)
  · obtain ⟨p, n, i, x, t, a, sh, T, rfl, _⟩ := h; rfl
  · obtain ⟨p, n, i, x, t, a, sh, T, rfl, ht, hx, hp, q⟩ := h
    have hi := (List.getElem?_eq_some_iff.mp hx).1
    obtain ⟨b, e1, hb⟩ := hp.bod ht
    refine ⟨_, (pss_cons (ps_expr (pe_meth (pv 0) X.cl_PlainHeap M_PlainHeap_look_at_slot.m H_PlainHeap_look_at_slot hr M_PlainHeap_look_at_slot.b .nil pass0 (pa_cons (pv 1) (pa_cons (pv 2) pa_nil))))
      (pss_one (ps_ret (pe_ix ix_list (pe_ix ix_list (pe_fld (pv 0) rfl) (pe_op op_sub (pv 1) pe_int) (fun _ _ => rfl)) (pv 2) (fun _ _ => rfl))))), ?_⟩
    refine ⟨_, rfl, p, _, _, rfl, hp.at_, phF_no rfl rfl rfl, _, rfl, _, rfl, p, n, i, t, a, sh, T, rfl, ht, hi, hp, ?_⟩
    refine ⟨_, rfl, p, C_PlainHeap, a.dx, PhF a, .ref a.aB, rfl, hp.at_, X.cl_PlainHeap, X.n_PlainHeap_bodies, rfl, ?_⟩
    refine ⟨_, rfl, _, _, rfl, rfl, a.aB, _, n, .ref b, rfl, by show V.int _ = V.int _; congr 1; omega, SqL.of hp.bodies, atI_nat (by simp [e1]), ?_⟩
    exact ⟨_, rfl, b, _, i, .int x, rfl, rfl, SqL.of hb, atI_nat (by simp [hx]), q⟩
def spRet (C : Addr) : Sp := fun vs H Q _ => ∃ (p : Addr) (v : V) (rs : List Int) (a : Pa) (sh : List (List Bool)) (T : List Thing), vs = [.ref p, v] ∧ Dv H v (inPy rs) ∧ rootsOk T.length rs ∧ PhAt C H p a sh T ∧ Q v H
theorem ok_minor {f : Addr} {fd : FuncData} (G : Md K C_PlainHeap "minor" "PlainHeap.minor" s_PlainHeap_minor ["self", "roots"] f fd) (X : Lw K mg C_Tracing C_PlainHeap) : FnOk P w K mg base CX0 5 f fd ["self", "roots"] (spRet C_PlainHeap) := by
  obtain ⟨f_PlainHeap_look_at, d_PlainHeap_look_at, M_PlainHeap_look_at⟩ := X.m_PlainHeap_look_at
  have H_PlainHeap_look_at : FnOk P w K mg base CX0 4 f_PlainHeap_look_at d_PlainHeap_look_at ["self", "roots"] (spLat C_PlainHeap) := ok_lat M_PlainHeap_look_at X
  refine G.F.ok sc_PlainHeap_minor (fun vs H Q E h => ?_) (fun cdv A outer s H vs Q E hr h => ?_)
  · obtain ⟨p, v, rs, a, sh, T, rfl, _⟩ := h; rfl
  · obtain ⟨p, v, rs, a, sh, T, rfl, hv, hr2, hp, q⟩ := h
    exact ⟨_, (pss_cons (ps_expr (pe_meth (pv 0) X.cl_PlainHeap M_PlainHeap_look_at.m H_PlainHeap_look_at hr M_PlainHeap_look_at.b .nil pass0 (pa_cons (pv 1) pa_nil)))
      (pss_one (ps_ret (pv 1)))), _, rfl, p, _, _, rfl, hp.at_, phF_no rfl rfl rfl, _, rfl, p, v, rs, a, sh, T, rfl, hv, hr2, hp, _, rfl, q⟩
theorem ok_settle {f : Addr} {fd : FuncData} (G : Md K C_PlainHeap "settle" "PlainHeap.settle" s_PlainHeap_settle ["self", "roots"] f fd) (X : Lw K mg C_Tracing C_PlainHeap) : FnOk P w K mg base CX0 5 f fd ["self", "roots"] (spRet C_PlainHeap) := by
  obtain ⟨f_PlainHeap_look_at, d_PlainHeap_look_at, M_PlainHeap_look_at⟩ := X.m_PlainHeap_look_at
  have H_PlainHeap_look_at : FnOk P w K mg base CX0 4 f_PlainHeap_look_at d_PlainHeap_look_at ["self", "roots"] (spLat C_PlainHeap) := ok_lat M_PlainHeap_look_at X
  refine G.F.ok sc_PlainHeap_settle (fun vs H Q E h => ?_) (fun cdv A outer s H vs Q E hr h => ?_)
  · obtain ⟨p, v, rs, a, sh, T, rfl, _⟩ := h; rfl
  · obtain ⟨p, v, rs, a, sh, T, rfl, hv, hr2, hp, q⟩ := h
    exact ⟨_, (pss_cons (ps_expr (pe_meth (pv 0) X.cl_PlainHeap M_PlainHeap_look_at.m H_PlainHeap_look_at hr M_PlainHeap_look_at.b .nil pass0 (pa_cons (pv 1) pa_nil)))
      (pss_one (ps_ret (pv 1)))), _, rfl, p, _, _, rfl, hp.at_, phF_no rfl rfl rfl, _, rfl, p, v, rs, a, sh, T, rfl, hv, hr2, hp, _, rfl, q⟩
theorem ok_begin {f : Addr} {fd : FuncData} (G : Md K C_PlainHeap "begin" "PlainHeap.begin" s_PlainHeap_begin ["self", "roots"] f fd) (X : Lw K mg C_Tracing C_PlainHeap) : FnOk P w K mg base CX0 5 f fd ["self", "roots"] (spRet C_PlainHeap) := by
  obtain ⟨f_PlainHeap_look_at, d_PlainHeap_look_at, M_PlainHeap_look_at⟩ := X.m_PlainHeap_look_at
  have H_PlainHeap_look_at : FnOk P w K mg base CX0 4 f_PlainHeap_look_at d_PlainHeap_look_at ["self", "roots"] (spLat C_PlainHeap) := ok_lat M_PlainHeap_look_at X
  refine G.F.ok sc_PlainHeap_begin (fun vs H Q E h => ?_) (fun cdv A outer s H vs Q E hr h => ?_)
  · obtain ⟨p, v, rs, a, sh, T, rfl, _⟩ := h; rfl
  · obtain ⟨p, v, rs, a, sh, T, rfl, hv, hr2, hp, q⟩ := h
    exact ⟨_, (pss_cons (ps_expr (pe_meth (pv 0) X.cl_PlainHeap M_PlainHeap_look_at.m H_PlainHeap_look_at hr M_PlainHeap_look_at.b .nil pass0 (pa_cons (pv 1) pa_nil)))
      (pss_one (ps_ret (pv 1)))), _, rfl, p, _, _, rfl, hp.at_, phF_no rfl rfl rfl, _, rfl, p, v, rs, a, sh, T, rfl, hv, hr2, hp, _, rfl, q⟩
theorem ok_whole {f : Addr} {fd : FuncData} (G : Md K C_PlainHeap "whole" "PlainHeap.whole" s_PlainHeap_whole ["self", "roots"] f fd) (X : Lw K mg C_Tracing C_PlainHeap) : FnOk P w K mg base CX0 5 f fd ["self", "roots"] (spRet C_PlainHeap) := by
  obtain ⟨f_PlainHeap_look_at, d_PlainHeap_look_at, M_PlainHeap_look_at⟩ := X.m_PlainHeap_look_at
  have H_PlainHeap_look_at : FnOk P w K mg base CX0 4 f_PlainHeap_look_at d_PlainHeap_look_at ["self", "roots"] (spLat C_PlainHeap) := ok_lat M_PlainHeap_look_at X
  refine G.F.ok sc_PlainHeap_whole (fun vs H Q E h => ?_) (fun cdv A outer s H vs Q E hr h => ?_)
  · obtain ⟨p, v, rs, a, sh, T, rfl, _⟩ := h; rfl
  · obtain ⟨p, v, rs, a, sh, T, rfl, hv, hr2, hp, q⟩ := h
    exact ⟨_, (pss_cons (ps_expr (pe_meth (pv 0) X.cl_PlainHeap M_PlainHeap_look_at.m H_PlainHeap_look_at hr M_PlainHeap_look_at.b .nil pass0 (pa_cons (pv 1) pa_nil)))
      (pss_one (ps_ret (pv 1)))), _, rfl, p, _, _, rfl, hp.at_, phF_no rfl rfl rfl, _, rfl, p, v, rs, a, sh, T, rfl, hv, hr2, hp, _, rfl, q⟩
def spSlice (C : Addr) : Sp := fun vs H Q _ => ∃ (p : Addr) (c : Int) (v : V) (rs : List Int) (a : Pa) (sh : List (List Bool)) (T : List Thing), vs = [.ref p, .int c, v] ∧ 0 ≤ c ∧ c ≤ 1000000 ∧ Dv H v (inPy rs) ∧ rootsOk T.length rs ∧ PhAt C H p a sh T ∧ Q v H
theorem ok_slice {f : Addr} {fd : FuncData} (G : Md K C_PlainHeap "slice" "PlainHeap.slice" s_PlainHeap_slice ["self", "count", "roots"] f fd) (X : Lw K mg C_Tracing C_PlainHeap) : FnOk P w K mg base CX0 5 f fd ["self", "count", "roots"] (spSlice C_PlainHeap) := by
  obtain ⟨f_PlainHeap_look_at, d_PlainHeap_look_at, M_PlainHeap_look_at⟩ := X.m_PlainHeap_look_at
  have H_PlainHeap_look_at : FnOk P w K mg base CX0 4 f_PlainHeap_look_at d_PlainHeap_look_at ["self", "roots"] (spLat C_PlainHeap) := ok_lat M_PlainHeap_look_at X
  obtain ⟨f_is_between, d_is_between, G_is_between⟩ := X.f_is_between
  have H_is_between : FnOk P w K mg base CX0 2 f_is_between d_is_between ["thing", "least", "greatest"] (spBtw) := ok_btw G_is_between X
  obtain ⟨_, m_MOST_SLICE⟩ := X.c_MOST_SLICE
  refine G.F.ok sc_PlainHeap_slice (fun vs H Q E h => ?_) (fun cdv A outer s H vs Q E hr h => ?_)
  · obtain ⟨p, c, v, rs, a, sh, T, rfl, _⟩ := h; rfl
  · obtain ⟨p, c, v, rs, a, sh, T, rfl, c0, c1, hv, hr2, hp, q⟩ := h
    refine ⟨_, (pss_cons (ps_if (pt_not (pt_val (pe_call H_is_between (hr.mono (by decide)) (by rfl) G_is_between.g G_is_between.F.kp G_is_between.b .nil pass0 (pa_cons (pv 1) (pa_cons pe_int (pa_cons (pe_glob (v := .int (1000000)) (by rfl) m_MOST_SLICE ⟨_, rfl⟩) pa_nil))))))
        pss_never pss_nil)
      (pss_cons (ps_expr (pe_meth (pv 0) X.cl_PlainHeap M_PlainHeap_look_at.m H_PlainHeap_look_at hr M_PlainHeap_look_at.b .nil pass0 (pa_cons (pv 2) pa_nil)))
      (pss_one (ps_ret (pv 2))))), ?_⟩
    refine ⟨_, rfl, c, 0, 1000000, rfl, _, rfl, ?_⟩
    rw [decide_eq_true (show (0 : Int) ≤ c ∧ c ≤ 1000000 from ⟨c0, c1⟩)]
    exact iteF ⟨_, rfl, p, _, _, rfl, hp.at_, phF_no rfl rfl rfl, _, rfl, p, v, rs, a, sh, T, rfl, hv, hr2, hp, _, rfl, q⟩
end
end PH

/-! The plain heap is made; make; put. -/
namespace PH
open PySem PySem.Spec PyProof.Rows L2 KA KI KK PV T ET
theorem tupL {H : Hp} {l : Addr} {xs ys : List V} (h : H l = some (.lst xs)) : TupSame H (upd H l (.lst ys)) := fun b zs e => by
  rw [upd_ne (ne_of e h (by intro z; cases z))]
  exact e
theorem PhAt.put {C : Addr} {H : Hp} {p : Addr} {a : Pa} {sh : List (List Bool)} {T : List Thing} (h : PhAt C H p a sh T) {n : Nat} {t : Thing} {b : Addr} {ys : List Int} (ht : T[n]? = some t) (eb : a.bs[n]? = some b) :
    PhAt C (upd H b (.lst (ys.map V.int))) p a sh (T.set n (t.1, ys)) := by
  have hb := h.each n t b ht eb
  have hn := (List.getElem?_eq_some_iff.mp ht).1
  have nb := (List.getElem?_eq_some_iff.mp eb).1
  have mb : b ∈ a.bs := List.mem_of_getElem? eb
  have nd := h.nd
  rw [List.nodup_cons, List.nodup_cons] at nd
  obtain ⟨n1, n2, n3⟩ := nd
  have kb : a.aK ≠ b := fun e => n1 (e ▸ List.mem_cons_of_mem _ mb)
  have bb : a.aB ≠ b := fun e => n2 (e ▸ mb)
  refine ⟨?_, h.sh.same (tupL hb), ?_, ?_, by rw [h.len, List.length_set], ?_, h.nd⟩
  · rw [upd_ne (ne_of h.at_ hb (by intro z; cases z))]
    exact h.at_
  · rw [upd_ne kb, h.kinds]
    congr 2
    rw [List.map_set]
    refine List.ext_getElem? fun i => ?_
    rw [List.getElem?_set]
    split
    · rename_i e
      subst e
      rw [if_pos (by simpa using hn)]
      simp [ht]
    · rfl
  · rw [upd_ne bb]
    exact h.bodies
  · intro i u c hu hc
    rw [List.getElem?_set] at hu
    by_cases e : n = i
    · subst e
      rw [if_pos rfl, if_pos hn] at hu
      rw [eb] at hc
      cases hu
      cases hc
      exact upd_same
    · rw [if_neg e] at hu
      have : c ≠ b := fun z => by
        subst z
        exact e ((List.getElem?_inj nb n3).mp (eb.trans hc.symm))
      rw [upd_ne this]
      exact h.each i u c hu hc
theorem PhAt.make {C : Addr} {H H1 : Hp} {p : Addr} {a : Pa} {sh : List (List Bool)} {T : List Thing} (h : PhAt C H p a sh T) {k : Int} {ys : List Int} {nb : Addr} (hn : H nb = none) (kp : KeptL [a.aK, a.aB] H H1)
    (e1 : H1 nb = some (.lst (ys.map V.int))) (e2 : H1 a.aK = some (.lst ((T ++ [(k, ys)]).map fun t => V.int t.1))) (e3 : H1 a.aB = some (.lst ((a.bs ++ [nb]).map V.ref))) :
    PhAt C H1 p { a with bs := a.bs ++ [nb] } sh (T ++ [(k, ys)]) := by
  have nd := h.nd
  rw [List.nodup_cons, List.nodup_cons] at nd
  obtain ⟨n1, n2, n3⟩ := nd
  have two : ∀ b ∈ [a.aK, a.aB], ∃ xs, H b = some (.lst xs) := fun b hb => by
    rcases (by simpa using hb : b = a.aK ∨ b = a.aB) with rfl | rfl
    · exact ⟨_, h.kinds⟩
    · exact ⟨_, h.bodies⟩
  have nK : a.aK ≠ nb := ne_of_none h.kinds hn
  have nB : a.aB ≠ nb := ne_of_none h.bodies hn
  have nbs : nb ∉ a.bs := fun z => by
    obtain ⟨i, hi, e⟩ := List.getElem_of_mem z
    have hiT : i < T.length := by rw [← h.len]; exact hi
    have := h.each i T[i] nb (List.getElem?_eq_getElem hiT) (by rw [List.getElem?_eq_getElem hi, e])
    rw [hn] at this
    cases this
  refine ⟨?_, h.sh.same (kp.tups two), e2, e3, by simp [h.len], ?_, ?_⟩
  · refine kp _ _ (fun z => ?_) h.at_
    obtain ⟨xs, hx⟩ := two p z
    rw [h.at_] at hx
    cases hx
  · intro i t b ht hb
    have hb : (a.bs ++ [nb])[i]? = some b := hb
    rw [List.getElem?_append] at ht hb
    by_cases hi : i < T.length
    · rw [if_pos hi] at ht
      rw [if_pos (by rw [h.len]; exact hi)] at hb
      have mb : b ∈ a.bs := List.mem_of_getElem? hb
      refine kp _ _ (fun z => ?_) (h.each i t b ht hb)
      rcases (by simpa using z : b = a.aK ∨ b = a.aB) with rfl | rfl
      · exact n1 (List.mem_cons_of_mem _ mb)
      · exact n2 mb
    · rw [if_neg hi] at ht
      rw [if_neg (by rw [h.len]; exact hi)] at hb
      have hl := h.len
      have z : i - T.length = 0 := by
        have := (List.getElem?_eq_some_iff.mp ht).1
        simp at this
        omega
      rw [z] at ht
      rw [show i - a.bs.length = 0 by omega] at hb
      cases ht
      cases hb
      exact e1
  · show (a.aK :: a.aB :: (a.bs ++ [nb])).Nodup
    rw [List.nodup_cons, List.nodup_cons, List.nodup_append]
    refine ⟨?_, ?_, n3, by simp, ?_⟩
    · intro z
      rcases List.mem_cons.mp z with z | z
      · exact n1 (z ▸ List.mem_cons_self)
      · rcases List.mem_append.mp z with z | z
        · exact n1 (List.mem_cons_of_mem _ z)
        · exact nK (by simpa using z)
    · intro z
      rcases List.mem_append.mp z with z | z
      · exact n2 z
      · exact nB (by simpa using z)
    · intro x hx y hy e
      have : y = nb := by simpa using hy
      subst this
      subst e
      exact nbs hx
section
variable {P : Program} {w : World} {K : PySem.W.Frag} {mg : Str → Option Value} {base : Heap} {C_Tracing C_PlainHeap : Addr}
def spMake (C : Addr) : Sp := fun vs H Q _ => ∃ (p : Addr) (k : Int) (n : Nat) (v : V) (rs : List Int) (a : Pa) (sh : List (List Bool)) (T : List Thing), vs = [.ref p, .int k, .int n, v] ∧ -3 ≤ k ∧ k < sh.length ∧ sizeOk sh k n ∧ T.length ≤ 500 ∧
  Dv H v (inPy rs) ∧ rootsOk T.length rs ∧ PhAt C H p a sh T ∧
  ∀ (nb rt : Addr) (H' : Hp), H nb = none → H rt = none → nb ≠ rt → PhAt C H' p { a with bs := a.bs ++ [nb] } sh (T ++ [(k, List.replicate n 0)]) → Dv H' (.ref rt) (.tuple [.int ((T.length + 1 : Nat) : Int), inPy rs]) → KeptL [a.aK, a.aB] H H' → Q (.ref rt) H'
theorem ok_make {f : Addr} {fd : FuncData} (G : Md K C_PlainHeap "make" "PlainHeap.make" s_PlainHeap_make ["self", "kind", "slots", "roots"] f fd) (X : Lw K mg C_Tracing C_PlainHeap) : FnOk P w K mg base CX0 5 f fd ["self", "kind", "slots", "roots"] (spMake C_PlainHeap) := by
  obtain ⟨f_PlainHeap_look_at, d_PlainHeap_look_at, M_PlainHeap_look_at⟩ := X.m_PlainHeap_look_at
  have H_PlainHeap_look_at : FnOk P w K mg base CX0 4 f_PlainHeap_look_at d_PlainHeap_look_at ["self", "roots"] (spLat C_PlainHeap) := ok_lat M_PlainHeap_look_at X
  obtain ⟨f_look_at_size, d_look_at_size, G_look_at_size⟩ := X.f_look_at_size
  have H_look_at_size : FnOk P w K mg base CX0 2 f_look_at_size d_look_at_size ["shapes", "kind", "slots"] (spLaz) := ok_laz G_look_at_size X
  obtain ⟨f_look_at_kind, d_look_at_kind, G_look_at_kind⟩ := X.f_look_at_kind
  have H_look_at_kind : FnOk P w K mg base CX0 3 f_look_at_kind d_look_at_kind ["shapes", "kind"] (spLak) := ok_lak G_look_at_kind X
  refine G.F.ok sc_PlainHeap_make (fun vs H Q E h => ?_) (fun cdv A outer s H vs Q E hr h => ?_)
  · obtain ⟨p, k, n, v, rs, a, sh, T, rfl, _⟩ := h; rfl
  · obtain ⟨p, k, n, v, rs, a, sh, T, rfl, k1, k2, hs, hT, hv, hr2, hp, q⟩ := h
    refine ⟨_, (pss_cons (ps_expr (pe_call H_look_at_kind (hr.mono (by decide)) (by rfl) G_look_at_kind.g G_look_at_kind.F.kp G_look_at_kind.b .nil pass0 (pa_cons (pe_fld (pv 0) rfl) (pa_cons (pv 1) pa_nil))))
      (pss_cons (ps_expr (pe_call H_look_at_size (hr.mono (by decide)) (by rfl) G_look_at_size.g G_look_at_size.F.kp G_look_at_size.b .nil pass0 (pa_cons (pe_fld (pv 0) rfl) (pa_cons (pv 1) (pa_cons (pv 2) pa_nil)))))
      (pss_cons (ps_expr (pe_meth (pv 0) X.cl_PlainHeap M_PlainHeap_look_at.m H_PlainHeap_look_at hr M_PlainHeap_look_at.b .nil pass0 (pa_cons (pv 3) pa_nil)))
      (pss_cons (ps_expr (pe_bm PySem.F.plainAttrs_list PySem.F.slot_list_append PySem.F.type_list_append mt_append (pe_fld (pv 0) rfl) (pa_cons (pv 1) pa_nil)))
      (pss_cons (ps_expr (pe_bm PySem.F.plainAttrs_list PySem.F.slot_list_append PySem.F.type_list_append mt_append (pe_fld (pv 0) rfl) (pa_cons (pe_op op_rep (pe_lst (pa_cons pe_int pa_nil)) (pv 2)) pa_nil)))
      (pss_one (ps_ret (pe_tup (pa_cons (pe_callB call_len (by rfl) X.b_len PySem.boot_len (pa_cons (pe_fld (pv 0) rfl) pa_nil)) (pa_cons (pv 3) pa_nil)))))))))), ?_⟩
    have nd := hp.nd
    rw [List.nodup_cons, List.nodup_cons] at nd
    obtain ⟨n1, n2, n3⟩ := nd
    have nKB : a.aK ≠ a.aB := fun e => n1 (e ▸ List.mem_cons_self)
    have hl : a.bs.length = T.length := hp.len
    refine ⟨_, rfl, p, C_PlainHeap, a.dx, PhF a, .ref a.aS, rfl, hp.at_, X.cl_PlainHeap, X.n_PlainHeap_shapes, rfl, _, rfl, .ref a.aS, k, sh, rfl, hp.sh, k1, k2, ?_⟩
    refine ⟨_, rfl, p, C_PlainHeap, a.dx, PhF a, .ref a.aS, rfl, hp.at_, X.cl_PlainHeap, X.n_PlainHeap_shapes, rfl, _, rfl, _, rfl, .ref a.aS, k, n, sh, rfl, hp.sh, hs, ?_⟩
    refine ⟨_, rfl, p, _, _, rfl, hp.at_, phF_no rfl rfl rfl, _, rfl, p, v, rs, a, sh, T, rfl, hv, hr2, hp, ?_⟩
    refine ⟨_, rfl, p, C_PlainHeap, a.dx, PhF a, .ref a.aK, rfl, hp.at_, X.cl_PlainHeap, X.n_PlainHeap_kinds, rfl, .inl ⟨rfl, _, SqL.of hp.kinds⟩, _, rfl, a.aK, _, _, rfl, rfl, hp.kinds, ?_, ?_⟩
    · rw [List.length_map]
      exact small1000 (by omega)
    have e0 : ∀ {b : Addr} {o : HO}, b ≠ a.aK → H b = some o → (upd H a.aK (.lst ((T.map fun t => V.int t.1) ++ [V.int k]))) b = some o := fun h e => by rw [upd_ne h]; exact e
    have pK : p ≠ a.aK := ne_of hp.at_ hp.kinds (by intro z; cases z)
    have pB : p ≠ a.aB := ne_of hp.at_ hp.bodies (by intro z; cases z)
    refine ⟨_, rfl, p, C_PlainHeap, a.dx, PhF a, .ref a.aB, rfl, e0 pK hp.at_, X.cl_PlainHeap, X.n_PlainHeap_bodies, rfl, .inl ⟨rfl, _, SqL.of (e0 nKB.symm hp.bodies)⟩, ?_⟩
    refine ⟨by show 1 ≤ sizeLine; decide, fun l nl => ⟨_, rfl, l, n, [.int 0], rfl, rfl, upd_same, by omega, by have := hs.1; omega, ?_, fun nb nnb => ?_⟩⟩
    · show 1 * (n : Int).toNat ≤ sizeLine
      have := hs.1
      exact Nat.le_of_lt (small1000 (by omega))
    have lK : a.aK ≠ l := ne_of_none upd_same nl
    have lB : a.aB ≠ l := ne_of_none (e0 nKB.symm hp.bodies) nl
    have hl0 : H l = none := by rw [upd_ne lK.symm] at nl; exact nl
    have bl : nb ≠ l := (ne_of_none upd_same nnb).symm
    rw [upd_ne bl] at nnb
    have bK : nb ≠ a.aK := (ne_of_none upd_same nnb).symm
    rw [upd_ne bK] at nnb
    have bB : a.aB ≠ nb := ne_of_none hp.bodies nnb
    refine ⟨a.aB, a.bs.map V.ref, .ref nb, rfl, rfl, ?_, ?_, ?_⟩
    · rw [upd_ne bB, upd_ne lB]
      exact e0 nKB.symm hp.bodies
    · rw [List.length_map]
      exact small1000 (by omega)
    have hrep : (List.replicate (n : Int).toNat [V.int 0]).flatten = (List.replicate n (0 : Int)).map V.int := by
      have : ((n : Int).toNat) = n := by omega
      rw [this]
      clear hs this q
      induction n with
      | zero => rfl
      | succ m ih => rw [List.replicate_succ, List.replicate_succ, List.flatten_cons, ih]; rfl
    rw [hrep]
    have pl : p ≠ l := ne_of_none hp.at_ hl0
    have pnb : p ≠ nb := ne_of_none hp.at_ nnb
    refine ⟨_, rfl, p, C_PlainHeap, a.dx, PhF a, .ref a.aB, rfl, ?_, X.cl_PlainHeap, X.n_PlainHeap_bodies, rfl, .ref a.aB, a.bs.length + 1, rfl, .inl ⟨_, SqL.of upd_same, by simp⟩, _, rfl, ?_⟩
    · rw [upd_ne pB, upd_ne pnb, upd_ne pl]
      exact e0 pK hp.at_
    refine ⟨by show 2 ≤ sizeLine; decide, fun rt nrt => ?_⟩
    have rB : rt ≠ a.aB := (ne_of_none upd_same nrt).symm
    rw [upd_ne rB] at nrt
    have rnb : rt ≠ nb := (ne_of_none upd_same nrt).symm
    rw [upd_ne rnb] at nrt
    have rl : rt ≠ l := (ne_of_none upd_same nrt).symm
    rw [upd_ne rl] at nrt
    have rK : rt ≠ a.aK := (ne_of_none upd_same nrt).symm
    rw [upd_ne rK] at nrt
    have kp : KeptL [a.aK, a.aB] H (upd (upd (upd (upd (upd H a.aK (.lst ((T.map fun t => V.int t.1) ++ [V.int k]))) l (.lst [.int 0])) nb (.lst ((List.replicate n (0 : Int)).map V.int))) a.aB (.lst (a.bs.map V.ref ++ [.ref nb]))) rt (.tup [.int ((a.bs.length + 1 : Nat) : Int), v])) := fun b o nb2 e => by
      have h1 : b ≠ a.aK := fun z => nb2 (by simp [z])
      have h2 : b ≠ a.aB := fun z => nb2 (by simp [z])
      rw [upd_ne (ne_of_none e nrt), upd_ne h2, upd_ne (ne_of_none e nnb), upd_ne (ne_of_none e hl0)]
      exact e0 h1 e
    have two : ∀ b ∈ [a.aK, a.aB], ∃ xs, H b = some (.lst xs) := fun b hb => by
      rcases (by simpa using hb : b = a.aK ∨ b = a.aB) with rfl | rfl
      · exact ⟨_, hp.kinds⟩
      · exact ⟨_, hp.bodies⟩
    refine q nb rt _ nnb nrt rnb.symm (hp.make nnb kp ?_ ?_ ?_) ?_ kp
    · rw [upd_ne rnb.symm, upd_ne bB.symm, upd_same]
    · rw [upd_ne rK.symm, upd_ne nKB, upd_ne bK.symm, upd_ne lK, upd_same]
      simp
    · rw [upd_ne rB.symm, upd_same]
      simp
    · refine .tup (xs := [.int ((a.bs.length + 1 : Nat) : Int), v]) upd_same (by show 2 ≤ 1000; decide) (.cons ?_ (.cons (hv.same (kp.tups two)) .nil))
      rw [hl]
      exact .int _
def spPut (C : Addr) : Sp := fun vs H Q _ => ∃ (p : Addr) (n i : Nat) (x : Int) (t : Thing) (b : Addr) (a : Pa) (sh : List (List Bool)) (T : List Thing), vs = [.ref p, .int ((n + 1 : Nat) : Int), .int i, .int x] ∧ T[n]? = some t ∧ a.bs[n]? = some b ∧ i < t.2.length ∧ sizeOk sh t.1 t.2.length ∧
  (if flag sh t.1 i = true then 0 ≤ x ∧ x ≤ T.length else -2147483648 ≤ x ∧ x ≤ 2147483647) ∧ PhAt C H p a sh T ∧
  ∀ H', PhAt C H' p a sh (T.set n (t.1, t.2.set i x)) → KeptL [b] H H' → Q .non H'
theorem ok_put {f : Addr} {fd : FuncData} (G : Md K C_PlainHeap "put" "PlainHeap.put" s_PlainHeap_put ["self", "address", "slot", "value"] f fd) (X : Lw K mg C_Tracing C_PlainHeap) : FnOk P w K mg base CX0 4 f fd ["self", "address", "slot", "value"] (spPut C_PlainHeap) := by
  obtain ⟨f_is_link, d_is_link, G_is_link⟩ := X.f_is_link
  have H_is_link : FnOk P w K mg base CX0 1 f_is_link d_is_link ["shapes", "kind", "slot"] (spIsl) := ok_isl G_is_link X
  obtain ⟨f_PlainHeap_is_object, d_PlainHeap_is_object, M_PlainHeap_is_object⟩ := X.m_PlainHeap_is_object
  have H_PlainHeap_is_object : FnOk P w K mg base CX0 1 f_PlainHeap_is_object d_PlainHeap_is_object ["self", "address"] (spIso C_PlainHeap) := ok_iso M_PlainHeap_is_object X
  obtain ⟨f_is_integer, d_is_integer, G_is_integer⟩ := X.f_is_integer
  have H_is_integer : FnOk P w K mg base CX0 1 f_is_integer d_is_integer ["thing"] (spInt) := ok_int G_is_integer X
  obtain ⟨f_is_between, d_is_between, G_is_between⟩ := X.f_is_between
  have H_is_between : FnOk P w K mg base CX0 2 f_is_between d_is_between ["thing", "least", "greatest"] (spBtw) := ok_btw G_is_between X
  obtain ⟨_, m_GREATEST_INT⟩ := X.c_GREATEST_INT
  obtain ⟨_, m_LEAST_INT⟩ := X.c_LEAST_INT
  obtain ⟨f_PlainHeap_look_at_slot, d_PlainHeap_look_at_slot, M_PlainHeap_look_at_slot⟩ := X.m_PlainHeap_look_at_slot
  have H_PlainHeap_look_at_slot : FnOk P w K mg base CX0 3 f_PlainHeap_look_at_slot d_PlainHeap_look_at_slot ["self", "address", "slot"] (spLas2 C_PlainHeap) := ok_las2 M_PlainHeap_look_at_slot X
  refine G.F.ok sc_PlainHeap_put (fun vs H Q E h => ?_) (fun cdv A outer s H vs Q E hr h => ?_)
  · obtain ⟨p, n, i, x, t, b, a, sh, T, rfl, _⟩ := h; rfl
  · obtain ⟨p, n, i, x, t, b, a, sh, T, rfl, ht, eb, hi, hs, hx, hp, q⟩ := h
    have hn := (List.getElem?_eq_some_iff.mp ht).1
    have hb := hp.each n t b ht eb
    refine ⟨_, (pss_cons (ps_expr (pe_meth (pv 0) X.cl_PlainHeap M_PlainHeap_look_at_slot.m H_PlainHeap_look_at_slot hr M_PlainHeap_look_at_slot.b .nil pass0 (pa_cons (pv 1) (pa_cons (pv 2) pa_nil))))
      (pss_cons (ps_if (pt_val (pe_call H_is_link (hr.mono (by decide)) (by rfl) G_is_link.g G_is_link.F.kp G_is_link.b .nil pass0 (pa_cons (pe_fld (pv 0) rfl) (pa_cons (pe_ix ix_list (pe_fld (pv 0) rfl) (pe_op op_sub (pv 1) pe_int) (fun _ _ => rfl)) (pa_cons (pv 2) pa_nil)))))
        (pss_one (ps_if (PW.pt (pw_or (pt_not (pt_val (pe_call H_is_integer (hr.mono (by decide)) (by rfl) G_is_integer.g G_is_integer.F.kp G_is_integer.b .nil pass0 (pa_cons (pv 3) pa_nil)))) (pw_or1 (PW.pt (pw_and (pt_cmpR op_ne (pv 3) pe_int (nomark _)) (pw_and1 (pt_not (pt_val (pe_meth (pv 0) X.cl_PlainHeap M_PlainHeap_is_object.m H_PlainHeap_is_object (hr.mono (by decide)) M_PlainHeap_is_object.b .nil pass0 (pa_cons (pv 3) pa_nil))))))))))
        pss_never pss_nil)) (pss_one (ps_if (pt_not (pt_val (pe_call H_is_between (hr.mono (by decide)) (by rfl) G_is_between.g G_is_between.F.kp G_is_between.b .nil pass0 (pa_cons (pv 3) (pa_cons (pe_glob (v := .int (-2147483648)) (by rfl) m_LEAST_INT ⟨_, rfl⟩) (pa_cons (pe_glob (v := .int (2147483647)) (by rfl) m_GREATEST_INT ⟨_, rfl⟩) pa_nil))))))
        pss_never pss_nil)))
      (pss_one (ps_asg (pv 3) (pg_sub (pe_ix ix_list (pe_fld (pv 0) rfl) (pe_op op_sub (pv 1) pe_int) (fun _ _ => rfl)) (pv 2) set_list))))), ?_⟩
    refine ⟨_, rfl, p, _, _, rfl, hp.at_, phF_no rfl rfl rfl, _, rfl, _, rfl, p, n, i, t, a, sh, T, rfl, ht, hi, hp, ?_⟩
    have fin : ∃ x_1, (L2.start ["self", "address", "slot", "value"] [V.ref p, .int ((n + 1 : Nat) : Int), .int i, .int x])[3]? = some (some x_1) ∧
        gSub (tOp (rIxL K) (tFld K (tVar 0) "bodies") (tOp (rI0 fun i j => .int (i - j)) (tVar 1) (tC (.int 1)))) (tVar 2) rSetL x_1 (L2.start ["self", "address", "slot", "value"] [V.ref p, .int ((n + 1 : Nat) : Int), .int i, .int x]) H (fun _ H' => Q .non H') := by
      refine ⟨_, rfl, ?_⟩
      refine ⟨_, rfl, p, C_PlainHeap, a.dx, PhF a, .ref a.aB, rfl, hp.at_, X.cl_PlainHeap, X.n_PlainHeap_bodies, rfl, ?_⟩
      refine ⟨_, rfl, _, _, rfl, rfl, a.aB, _, n, .ref b, rfl, by show V.int _ = V.int _; congr 1; omega, SqL.of hp.bodies, atI_nat (by simp [eb]), ?_⟩
      refine ⟨_, rfl, b, _, i, i, rfl, rfl, hb, by unfold ixN; rw [List.length_map, if_pos (by omega), if_pos (by omega)]; rfl, ?_⟩
      have e : (t.2.map V.int).set i (V.int x) = (t.2.set i x).map V.int := by rw [List.map_set]
      rw [e]
      exact q _ (hp.put ht eb) fun c o nc hc => by rw [upd_ne (fun z => nc (by simp [z]))]; exact hc
    refine ⟨_, rfl, p, C_PlainHeap, a.dx, PhF a, .ref a.aS, rfl, hp.at_, X.cl_PlainHeap, X.n_PlainHeap_shapes, rfl, ?_⟩
    refine ⟨_, rfl, p, C_PlainHeap, a.dx, PhF a, .ref a.aK, rfl, hp.at_, X.cl_PlainHeap, X.n_PlainHeap_kinds, rfl, ?_⟩
    refine ⟨_, rfl, _, _, rfl, rfl, a.aK, _, n, .int t.1, rfl, by show V.int _ = V.int _; congr 1; omega, SqL.of hp.kinds, atI_nat (by simp [ht]), ?_⟩
    refine ⟨_, rfl, .ref a.aS, t.1, i, t.2.length, sh, rfl, hp.sh, hs, hi, _, rfl, ?_⟩
    cases ef : flag sh t.1 i with
    | true =>
      rw [ef, if_pos rfl] at hx
      refine iteT ⟨_, rfl, x, rfl, true, rfl, iteF ⟨_, rfl, rfl, _, rfl, ?_⟩⟩
      by_cases e : x = 0
      · subst e
        exact iteF (iteF fin)
      · have : (!decide (V.int x = V.int 0)) = true := by simp [e]
        rw [this]
        refine iteT ⟨_, rfl, p, _, _, rfl, hp.at_, phF_no rfl rfl rfl, _, rfl, p, x, a, sh, T, rfl, hp, _, rfl, ?_⟩
        rw [decide_eq_true (show 1 ≤ x ∧ x ≤ (T.length : Int) by omega)]
        exact iteF fin
    | false =>
      rw [ef, if_neg (by decide)] at hx
      refine iteF ⟨_, rfl, x, _, _, rfl, _, rfl, ?_⟩
      rw [decide_eq_true hx]
      exact iteF fin
def spInit (C : Addr) : Sp := fun vs H Q _ => ∃ (p dx : Addr) (v : V) (sh : List (List Bool)), vs = [.ref p, v] ∧ H p = some (.ins C dx []) ∧ Dv H v (shPy sh) ∧ sh.length ≤ 60 ∧ (∀ r ∈ sh, r.length ≤ 100) ∧
  ∀ (a : Pa) (H' : Hp), PhAt C H' p a sh [] → a.bs = [] → v = .ref a.aS → H a.aK = none → H a.aB = none → KeptL [p] H H' → Q .non H'
theorem ok_init {f : Addr} {fd : FuncData} (F : Fun K "__init__" "PlainHeap.__init__" s_PlainHeap_init f fd) (X : Lw K mg C_Tracing C_PlainHeap) : FnOk P w K mg base CX0 3 f fd ["self", "shapes"] (spInit C_PlainHeap) := by
  obtain ⟨f_look_at_shapes, d_look_at_shapes, G_look_at_shapes⟩ := X.f_look_at_shapes
  have H_look_at_shapes : FnOk P w K mg base CX0 2 f_look_at_shapes d_look_at_shapes ["shapes"] (spLas) := ok_las G_look_at_shapes X
  refine F.ok sc_PlainHeap_init (fun vs H Q E h => ?_) (fun cdv A outer s H vs Q E hr h => ?_)
  · obtain ⟨p, dx, v, sh, rfl, _⟩ := h; rfl
  · obtain ⟨p, dx, v, sh, rfl, hp, hv, h1, h2, q⟩ := h
    refine ⟨_, (pss_cons (ps_expr (pe_call H_look_at_shapes hr (by rfl) G_look_at_shapes.g G_look_at_shapes.F.kp G_look_at_shapes.b .nil pass0 (pa_cons (pv 1) pa_nil)))
      (pss_cons (ps_fld (pv 0) (pv 1) rfl)
      (pss_cons (ps_fld (pv 0) (pe_lst pa_nil) rfl)
      (pss_one (ps_fld (pv 0) (pe_lst pa_nil) rfl))))), ?_⟩
    refine ⟨_, rfl, v, sh, rfl, hv, h1, h2, ?_⟩
    obtain ⟨aS, vs, rfl, _⟩ := shPy_at hv
    refine ⟨_, rfl, _, rfl, p, C_PlainHeap, dx, _, rfl, hp, X.cl_PlainHeap, X.n_PlainHeap_shapes, by decide, ?_⟩
    refine ⟨by show 0 ≤ sizeLine; decide, fun aK nK => ?_⟩
    have pK : p ≠ aK := ne_of_none upd_same nK
    refine ⟨_, rfl, p, C_PlainHeap, dx, _, rfl, by rw [upd_ne pK]; exact upd_same, X.cl_PlainHeap, X.n_PlainHeap_kinds, by show 1 < _; decide, ?_⟩
    refine ⟨by show 0 ≤ sizeLine; decide, fun aB nB => ?_⟩
    have pB : p ≠ aB := ne_of_none upd_same nB
    refine ⟨_, rfl, p, C_PlainHeap, dx, _, rfl, by rw [upd_ne pB]; exact upd_same, X.cl_PlainHeap, X.n_PlainHeap_bodies, by show 2 < _; decide, ?_⟩
    rw [upd_ne pK.symm] at nK
    rw [upd_ne pB.symm] at nB
    have KB : aK ≠ aB := ne_of_none upd_same nB
    rw [upd_ne KB.symm, upd_ne pB.symm] at nB
    have kp : ∀ {o : HO}, KeptL [p] H (upd (upd (upd (upd (upd H p (.ins C_PlainHeap dx [("shapes", .ref aS)])) aK (.lst [])) p (.ins C_PlainHeap dx [("shapes", .ref aS), ("kinds", .ref aK)])) aB (.lst [])) p o) := fun b o nb e => by
      have hb : b ≠ p := fun z => nb (by simp [z])
      rw [upd_ne hb, upd_ne (ne_of_none e nB), upd_ne hb, upd_ne (ne_of_none e nK), upd_ne hb]
      exact e
    refine q ⟨dx, aS, aK, aB, []⟩ _ ⟨upd_same, ?_, ?_, ?_, rfl, fun i t b e => by simp at e, by simp [KB]⟩ rfl rfl nK nB kp
    · exact hv.same fun b xs e => kp b _ (fun z => by
        have : b = p := by simpa using z
        rw [this, hp] at e
        cases e) e
    · rw [upd_ne pK.symm, upd_ne KB, upd_ne pK.symm, upd_same]
      rfl
    · rw [upd_ne pB.symm, upd_same]
      rfl
end
end PH

/-! What is come to, and by which numbers: the mathematics. -/
namespace PH
open PySem PySem.Spec PyProof.Rows L2 KA KI KK PV T ET
def visit (ord : List Int) (x : Int) : List Int := if x = 0 ∨ x ∈ ord then ord else ord ++ [x]
def visits (ord : List Int) (xs : List Int) : List Int := xs.foldl visit ord
def num (ord : List Int) (x : Int) : Int := if x = 0 then 0 else ((ord.idxOf x + 1 : Nat) : Int)
def kvFrom (n : Nat) : List Int → List (Key × V)
  | [] => []
  | x :: r => (Sum.inl x, V.int ((n + 1 : Nat) : Int)) :: kvFrom (n + 1) r
def kv (ord : List Int) : List (Key × V) := kvFrom 0 ord
theorem kvFrom_len : ∀ (r : List Int) (n : Nat), (kvFrom n r).length = r.length
  | [], _ => rfl
  | x :: r, n => by show (kvFrom (n + 1) r).length + 1 = r.length + 1; rw [kvFrom_len r]
theorem kv_get : ∀ (r : List Int) (n : Nat) (x : Int), valV (kvFrom n r) (Sum.inl x : Key) = if x ∈ r then some (V.int ((n + r.idxOf x + 1 : Nat) : Int)) else none
  | [], n, x => rfl
  | y :: r, n, x => by
    by_cases e : y = x
    · subst e
      rw [if_pos List.mem_cons_self, List.idxOf_cons_self]
      exact valV_pos rfl
    · have e1 : valV (kvFrom n (y :: r)) (Sum.inl x : Key) = valV (kvFrom (n + 1) r) (Sum.inl x : Key) := valV_neg (fun z => e (by injection z))
      rw [e1, kv_get r (n + 1) x]
      by_cases hm : x ∈ r
      · rw [if_pos hm, if_pos (List.mem_cons_of_mem _ hm), List.idxOf_cons]
        have : (y == x) = false := by simpa using e
        rw [this]
        simp only [cond_false]
        congr 2
        omega
      · rw [if_neg hm, if_neg (fun z => hm (by
          rcases List.mem_cons.mp z with z | z
          · exact absurd z.symm e
          · exact z))]
theorem kvFrom_app : ∀ (r : List Int) (n : Nat) (x : Int), kvFrom n (r ++ [x]) = kvFrom n r ++ [(Sum.inl x, V.int ((n + r.length + 1 : Nat) : Int))]
  | [], n, x => rfl
  | y :: r, n, x => by
    show _ :: kvFrom (n + 1) (r ++ [x]) = _ :: (kvFrom (n + 1) r ++ _)
    rw [kvFrom_app r (n + 1) x]
    have : n + 1 + r.length + 1 = n + (y :: r).length + 1 := by simp; omega
    rw [this]
theorem kv_put {ord : List Int} {x : Int} (h : x ∉ ord) : putK (kv ord) (Sum.inl x : Key) (V.int ((ord.length + 1 : Nat) : Int)) = kv (ord ++ [x]) := by
  rw [putK_new _ (by rw [kv, kv_get, if_neg h]), kv, kv, kvFrom_app]
  congr 5
  omega
theorem kv_num {ord : List Int} {x : Int} (h : x ∈ ord) (h0 : x ≠ 0) : valV (kv ord) (Sum.inl x : Key) = some (.int (num ord x)) := by
  rw [kv, kv_get, if_pos h, num, if_neg h0]
  congr 3
  omega
theorem visit_pre (ord : List Int) (x : Int) : ∃ m, visit ord x = ord ++ m := by
  unfold visit
  split
  · exact ⟨[], (List.append_nil _).symm⟩
  · exact ⟨[x], rfl⟩
theorem visits_pre (xs : List Int) : ∀ ord : List Int, ∃ m, visits ord xs = ord ++ m := by
  induction xs with
  | nil => exact fun ord => ⟨[], (List.append_nil _).symm⟩
  | cons x xs ih =>
    intro ord
    obtain ⟨m, e⟩ := visit_pre ord x
    obtain ⟨m2, e2⟩ := ih (visit ord x)
    exact ⟨m ++ m2, by show visits (visit ord x) xs = _; rw [e2, e, List.append_assoc]⟩
theorem num_pre {ord m : List Int} {x : Int} (h : x = 0 ∨ x ∈ ord) : num (ord ++ m) x = num ord x := by
  unfold num
  by_cases e : x = 0
  · rw [if_pos e, if_pos e]
  · rw [if_neg e, if_neg e, List.idxOf_append, if_pos (h.resolve_left e)]
theorem visit_mem (ord : List Int) (x : Int) : x = 0 ∨ x ∈ visit ord x := by
  unfold visit
  split
  · assumption
  · exact .inr (by simp)
theorem visits_mem {xs : List Int} : ∀ {ord : List Int} {x : Int}, x ∈ xs → x = 0 ∨ x ∈ visits ord xs := by
  induction xs with
  | nil => intro ord x h; cases h
  | cons y xs ih =>
    intro ord x h
    rcases List.mem_cons.mp h with rfl | h
    · rcases visit_mem ord x with e | e
      · exact .inl e
      · obtain ⟨m, e2⟩ := visits_pre xs (visit ord x)
        exact .inr (by show x ∈ visits (visit ord x) xs; rw [e2]; exact List.mem_append_left _ e)
    · exact ih h
theorem mem_pre {ord m : List Int} {x : Int} (h : x = 0 ∨ x ∈ ord) : x = 0 ∨ x ∈ ord ++ m := h.imp id (List.mem_append_left _)
/-- numbers of things, each once -/
structure OrdOk (n : Nat) (ord : List Int) : Prop where
  nd : ord.Nodup
  rg : ∀ x ∈ ord, 1 ≤ x ∧ x ≤ n
theorem OrdOk.nil {n : Nat} : OrdOk n [] := ⟨List.nodup_nil, fun _ h => by cases h⟩
theorem OrdOk.visit {n : Nat} {ord : List Int} (h : OrdOk n ord) {x : Int} (hx : 0 ≤ x ∧ x ≤ n) : OrdOk n (visit ord x) := by
  unfold PH.visit
  split
  · exact h
  · rename_i e
    have e1 : x ≠ 0 := fun z => e (.inl z)
    have e2 : x ∉ ord := fun z => e (.inr z)
    refine ⟨?_, fun y hy => ?_⟩
    · rw [List.nodup_append]
      refine ⟨h.nd, by simp, fun a ha b hb z => ?_⟩
      have : b = x := by simpa using hb
      subst this
      subst z
      exact e2 ha
    · rcases List.mem_append.mp hy with hy | hy
      · exact h.rg y hy
      · have : y = x := by simpa using hy
        subst this
        omega
theorem OrdOk.visits {n : Nat} {xs : List Int} : ∀ {ord : List Int}, OrdOk n ord → (∀ x ∈ xs, 0 ≤ x ∧ x ≤ n) → OrdOk n (visits ord xs) := by
  induction xs with
  | nil => exact fun h _ => h
  | cons x xs ih => exact fun h hx => ih (h.visit (hx x List.mem_cons_self)) fun y hy => hx y (List.mem_cons_of_mem _ hy)
theorem nodup_len : ∀ (n : Nat) (l : List Int), l.Nodup → (∀ x ∈ l, 1 ≤ x ∧ x ≤ n) → l.length ≤ n
  | 0, l, h, hr => by
    cases l with
    | nil => exact Nat.le_refl _
    | cons x r => have := hr x List.mem_cons_self; omega
  | n + 1, l, h, hr => by
    have h1 : (l.erase ((n + 1 : Nat) : Int)).length ≤ n := nodup_len n _ (h.erase _) fun x hx => by
      have h2 := (List.Nodup.mem_erase_iff h).mp hx
      have h3 := hr x h2.2
      have h4 := h2.1
      omega
    rw [List.length_erase] at h1
    split at h1 <;> omega
theorem OrdOk.len {n : Nat} {ord : List Int} (h : OrdOk n ord) : ord.length ≤ n := nodup_len n ord h.nd h.rg
def idx (sh : List (List Bool)) (t : Thing) : List Nat := idxOf t.2.length (flag sh t.1)
def refs (sh : List (List Bool)) (t : Thing) : List Int := (idx sh t).map fun i => t.2.getD i 0
def thing (T : List Thing) (a : Int) : Thing := T.getD (a - 1).toNat (0, [])
def bfs (sh : List (List Bool)) (T : List Thing) : Nat → Nat → List Int → List Int
  | 0, _, ord => ord
  | n + 1, k, ord => match ord[k]? with
    | none => ord
    | some a => bfs sh T n (k + 1) (visits ord (refs sh (thing T a)))
def reach (sh : List (List Bool)) (T : List Thing) (rs : List Int) : List Int := bfs sh T (T.length + 1) 0 (visits [] rs)
def trans (f : Nat → Bool) (R : List Int) (body : List Int) : List Int := body.mapIdx fun i x => if f i = true then num R x else x
def gth (sh : List (List Bool)) (T : List Thing) (R : List Int) (a : Int) : PyData := .tuple [.int (thing T a).1, inPy (trans (flag sh (thing T a).1) R (thing T a).2)]
def gPy (sh : List (List Bool)) (T : List Thing) (rs : List Int) : PyData := .tuple [inPy (rs.map (num (reach sh T rs))), .tuple ((reach sh T rs).map (gth sh T (reach sh T rs)))]
/-- the telling of one thing, slot by slot -/
def tellAux : List Nat → List Int → List Int → List Int × List Int
  | [], ord, cur => (ord, cur)
  | i :: is, ord, cur => tellAux is (visit ord (cur.getD i 0)) (cur.set i (num (visit ord (cur.getD i 0)) (cur.getD i 0)))
theorem tellAux_ok : ∀ (is : List Nat) (ord cur : List Int), is.Nodup → (∀ i ∈ is, i < cur.length) →
    (tellAux is ord cur).1 = visits ord (is.map fun i => cur.getD i 0) ∧ (tellAux is ord cur).2.length = cur.length ∧
      ∀ i : Nat, i < cur.length → (tellAux is ord cur).2.getD i 0 = if i ∈ is then num (visits ord (is.map fun i => cur.getD i 0)) (cur.getD i 0) else cur.getD i 0
  | [], ord, cur, _, _ => ⟨rfl, rfl, fun i _ => by rw [if_neg (by simp)]; rfl⟩
  | i :: is, ord, cur, nd, hl => by
    rw [List.nodup_cons] at nd
    obtain ⟨n1, n2⟩ := nd
    have hi := hl i List.mem_cons_self
    let x := cur.getD i 0
    let o1 := visit ord x
    let c1 := cur.set i (num o1 x)
    have h := tellAux_ok is o1 c1 n2 fun j hj => by rw [List.length_set]; exact hl j (List.mem_cons_of_mem _ hj)
    have e1 : (is.map fun j => c1.getD j 0) = is.map fun j => cur.getD j 0 := List.map_congr_left fun j hj => by
      have : i ≠ j := fun e => n1 (e ▸ hj)
      show (cur.set i _).getD j 0 = _
      rw [List.getD_eq_getElem?_getD, List.getElem?_set_ne this, ← List.getD_eq_getElem?_getD]
    rw [e1] at h
    have ev : visits ord ((i :: is).map fun j => cur.getD j 0) = visits o1 (is.map fun j => cur.getD j 0) := rfl
    have et : tellAux (i :: is) ord cur = tellAux is o1 c1 := rfl
    refine ⟨by rw [et, ev]; exact h.1, by rw [et, h.2.1]; exact List.length_set, fun j hj => ?_⟩
    rw [et, ev, h.2.2 j (by rw [List.length_set]; exact hj)]
    by_cases e : j = i
    · subst e
      rw [if_neg n1, if_pos List.mem_cons_self]
      have : c1.getD j 0 = num o1 x := by
        show (cur.set j _).getD j 0 = _
        rw [List.getD_eq_getElem?_getD, List.getElem?_set_self hj]
        rfl
      rw [this]
      obtain ⟨m, em⟩ := visits_pre (is.map fun j => cur.getD j 0) o1
      rw [em, num_pre (visit_mem ord x)]
    · have : c1.getD j 0 = cur.getD j 0 := by
        show (cur.set i _).getD j 0 = _
        rw [List.getD_eq_getElem?_getD, List.getElem?_set_ne (fun z => e z.symm), ← List.getD_eq_getElem?_getD]
      rw [this]
      by_cases hm : j ∈ is
      · rw [if_pos hm, if_pos (List.mem_cons_of_mem _ hm)]
      · rw [if_neg hm, if_neg (fun z => hm ((List.mem_cons.mp z).resolve_left e))]
theorem idx_nodup (n : Nat) (f : Nat → Bool) : (idxOf n f).Nodup := List.nodup_range.filter _
theorem idx_lt {n : Nat} {f : Nat → Bool} {i : Nat} (h : i ∈ idxOf n f) : i < n := List.mem_range.mp (List.mem_filter.mp h).1
theorem idx_iff {n : Nat} {f : Nat → Bool} {i : Nat} (h : i < n) : i ∈ idxOf n f ↔ f i = true := by
  unfold idxOf
  rw [List.mem_filter, List.mem_range]
  exact ⟨fun z => z.2, fun z => ⟨h, z⟩⟩
theorem tell_ok (sh : List (List Bool)) (t : Thing) (ord : List Int) : tellAux (idx sh t) ord t.2 = (visits ord (refs sh t), trans (flag sh t.1) (visits ord (refs sh t)) t.2) := by
  have h := tellAux_ok (idx sh t) ord t.2 (idx_nodup _ _) fun i hi => idx_lt hi
  refine Prod.ext h.1 (List.ext_getElem? fun i => ?_)
  by_cases hi : i < t.2.length
  · have h3 := h.2.2 i hi
    rw [List.getD_eq_getElem?_getD, List.getElem?_eq_getElem (by rw [h.2.1]; exact hi)] at h3
    rw [List.getElem?_eq_getElem (by rw [h.2.1]; exact hi)]
    have h4 : (trans (flag sh t.1) (visits ord (refs sh t)) t.2)[i]? = some (if flag sh t.1 i = true then num (visits ord (refs sh t)) t.2[i] else t.2[i]) := by
      unfold trans
      rw [List.getElem?_mapIdx, List.getElem?_eq_getElem hi]
      rfl
    rw [h4]
    congr 1
    have h5 : t.2.getD i 0 = t.2[i] := by rw [List.getD_eq_getElem?_getD, List.getElem?_eq_getElem hi]; rfl
    rw [h5] at h3
    have h6 : (i ∈ idx sh t) ↔ flag sh t.1 i = true := idx_iff hi
    simp only [h6] at h3
    exact h3
  · rw [List.getElem?_eq_none (by rw [h.2.1]; omega), List.getElem?_eq_none (by unfold trans; rw [List.length_mapIdx]; omega)]
/-- what is told stays as more is found -/
theorem trans_pre {f : Nat → Bool} {ord m body : List Int} (h : ∀ (i : Nat) (x : Int), body[i]? = some x → f i = true → x = 0 ∨ x ∈ ord) : trans f (ord ++ m) body = trans f ord body := by
  unfold trans
  refine List.ext_getElem? fun i => ?_
  rw [List.getElem?_mapIdx, List.getElem?_mapIdx]
  cases e : body[i]? with
  | none => rfl
  | some x =>
    show some (if f i = true then num (ord ++ m) x else x) = some (if f i = true then num ord x else x)
    by_cases hf : f i = true
    · rw [if_pos hf, if_pos hf, num_pre (h i x e hf)]
    · rw [if_neg hf, if_neg hf]
theorem refs_mem {sh : List (List Bool)} {t : Thing} {i : Nat} {x : Int} (e : t.2[i]? = some x) (hf : flag sh t.1 i = true) : x ∈ refs sh t := by
  have hi := (List.getElem?_eq_some_iff.mp e).1
  refine List.mem_map.mpr ⟨i, (idx_iff hi).mpr hf, ?_⟩
  rw [List.getD_eq_getElem?_getD, e]
  rfl
theorem gth_pre {sh : List (List Bool)} {T : List Thing} {ord m : List Int} {a : Int} (h : ∀ x ∈ refs sh (thing T a), x = 0 ∨ x ∈ ord) : gth sh T (ord ++ m) a = gth sh T ord a := by
  unfold gth
  rw [trans_pre fun i x e hf => h x (refs_mem e hf)]
theorem thing_mem {T : List Thing} {a : Int} (h : 1 ≤ a ∧ a ≤ T.length) : T[(a - 1).toNat]? = some (thing T a) := by
  unfold thing
  have : (a - 1).toNat < T.length := by omega
  rw [List.getD_eq_getElem?_getD, List.getElem?_eq_getElem this]
  rfl
theorem refs_rg {sh : List (List Bool)} {T : List Thing} (W : OkW sh T) {a : Int} (h : 1 ≤ a ∧ a ≤ T.length) : ∀ x ∈ refs sh (thing T a), 0 ≤ x ∧ x ≤ T.length := by
  intro x hx
  obtain ⟨i, hi, e⟩ := List.mem_map.mp hx
  have hil := idx_lt hi
  have hf := (idx_iff hil).mp hi
  have ht : thing T a ∈ T := List.mem_of_getElem? (thing_mem h)
  have e2 : (thing T a).2[i]? = some x := by
    rw [List.getElem?_eq_getElem hil]
    rw [List.getD_eq_getElem?_getD, List.getElem?_eq_getElem hil] at e
    exact congrArg some e
  have := W.v _ ht i x e2
  rw [if_pos hf] at this
  exact this
theorem bfs_end {sh : List (List Bool)} {T : List Thing} {n k : Nat} {ord : List Int} (h : ord.length ≤ k) : bfs sh T (n + 1) k ord = ord := by
  show (match ord[k]? with | none => ord | some a => _) = ord
  rw [List.getElem?_eq_none h]
theorem bfs_step {sh : List (List Bool)} {T : List Thing} {n k : Nat} {ord : List Int} {a : Int} (h : ord[k]? = some a) : bfs sh T (n + 1) k ord = bfs sh T n (k + 1) (visits ord (refs sh (thing T a))) := by
  show (match ord[k]? with | none => ord | some a => _) = _
  rw [h]
end PH

/-! What is come to: the object that tells it. -/
namespace PH
open PySem PySem.Spec PyProof.Rows L2 KA KI KK PV T ET
def LinksAt (H : Hp) (aL : Addr) (sh : List (List Bool)) : Prop := ∃ ls : List Addr, H aL = some (.lst (ls.map V.ref)) ∧ ls.length = sh.length ∧
  ∀ (i : Nat) (r : List Bool) (b : Addr), sh[i]? = some r → ls[i]? = some b → H b = some (.tup (natV (idxOf r.length fun j => r[j]?.getD false)))
theorem flag_neg {sh : List (List Bool)} {k : Int} {n : Nat} (h : k < 0) (h2 : k ≠ -2) : idxOf n (flag sh k) = [] := by
  unfold idxOf
  rw [List.filter_eq_nil_iff]
  intro i _
  unfold flag
  rw [if_pos h]
  simp [h2]
theorem flag_two {sh : List (List Bool)} {n : Nat} : idxOf n (flag sh (-2)) = List.range n := by
  unfold idxOf
  rw [List.filter_eq_self]
  intro i _
  rfl
theorem flag_pos {sh : List (List Bool)} {k : Int} {r : List Bool} (h : 0 ≤ k) (e : sh[k.toNat]? = some r) (i : Nat) : flag sh k i = r[i]?.getD false := by
  unfold flag
  rw [if_neg (by omega), e]
  rfl
theorem KeptL.tups2 {l : List Addr} {H H' : Hp} (k : KeptL l H H') (h : ∀ b ∈ l, ∃ o, H b = some o ∧ ∀ xs, o ≠ .tup xs) : TupSame H H' := fun a xs e => k a _ (fun z => by
  obtain ⟨o, h1, h2⟩ := h a z
  rw [e] at h1
  cases h1
  exact h2 xs rfl) e
/-- numbers are given by these two -/
structure Tc (CT : Addr) (H : Hp) (q aD aF : Addr) (ord : List Int) : Prop where
  at_ : ∃ dx fs, H q = some (.ins CT dx fs) ∧ fs.lookup ("numbers_by_name" : Str) = some (.ref aD) ∧ fs.lookup ("found" : Str) = some (.ref aF) ∧ fs.lookup ("number" : Str) = none
  d : H aD = some (.dK (kv ord))
  f : H aF = some (.lst (ord.map V.int))
structure Ta where
  dx : Addr
  aL : Addr
  aD : Addr
  aF : Addr
  aT : Addr
  aN : Addr
def TrF (t : Ta) : List (Str × V) := [("shapes_links", .ref t.aL), ("numbers_by_name", .ref t.aD), ("found", .ref t.aF), ("things", .ref t.aT), ("numbers", .ref t.aN)]
theorem trF_no {a : Ta} {m : Str} (h1 : (m == "shapes_links") = false) (h2 : (m == "numbers_by_name") = false) (h3 : (m == "found") = false) (h4 : (m == "things") = false) (h5 : (m == "numbers") = false) : (TrF a).lookup m = none := by
  simp only [TrF, List.lookup, h1, h2, h3, h4, h5]
structure TrAt (CT : Addr) (H : Hp) (q : Addr) (t : Ta) (sh : List (List Bool)) (ord : List Int) (ths : List PyData) (rs : List Int) : Prop where
  at_ : H q = some (.ins CT t.dx (TrF t))
  links : LinksAt H t.aL sh
  d : H t.aD = some (.dK (kv ord))
  f : H t.aF = some (.lst (ord.map V.int))
  things : ∃ vs, H t.aT = some (.lst vs) ∧ DvAll H vs ths
  nums : Dv H (.ref t.aN) (inPy rs)
  ne : t.aF ≠ t.aT ∧ t.aL ≠ t.aF ∧ t.aL ≠ t.aT
theorem TrAt.tc {CT : Addr} {H : Hp} {q : Addr} {t : Ta} {sh : List (List Bool)} {ord : List Int} {ths : List PyData} {rs : List Int} (h : TrAt CT H q t sh ord ths rs) : Tc CT H q t.aD t.aF ord := ⟨⟨_, _, h.at_, rfl, rfl, trF_no rfl rfl rfl rfl rfl⟩, h.d, h.f⟩
section
variable {P : Program} {w : World} {K : PySem.W.Frag} {mg : Str → Option Value} {base : Heap} {C_Tracing C_PlainHeap : Addr}
def spLinks (CT : Addr) : Sp := fun vs H Q _ => ∃ (q : Addr) (k : Int) (n : Nat) (dx aL : Addr) (fs : List (Str × V)) (sh : List (List Bool)), vs = [.ref q, .int k, .int n] ∧ H q = some (.ins CT dx fs) ∧ fs.lookup ("shapes_links" : Str) = some (.ref aL) ∧ LinksAt H aL sh ∧ sizeOk sh k n ∧
  ∀ (l : Addr) (H' : Hp), Same H H' → H' l = some (.tup (natV (idxOf n (flag sh k)))) → Q (.ref l) H'
theorem ok_links {f : Addr} {fd : FuncData} (G : Md K C_Tracing "links" "Tracing.links" s_Tracing_links ["self", "kind", "many"] f fd) (X : Lw K mg C_Tracing C_PlainHeap) : FnOk P w K mg base CX0 1 f fd ["self", "kind", "many"] (spLinks C_Tracing) := by
  obtain ⟨_, m_LINK_ROW⟩ := X.c_LINK_ROW
  refine G.F.ok sc_Tracing_links (fun vs H Q E h => ?_) (fun cdv A outer s H vs Q E hr h => ?_)
  · obtain ⟨q, k, n, dx, aL, fs, sh, rfl, _⟩ := h; rfl
  · obtain ⟨q, k, n, dx, aL, fs, sh, rfl, hq, hf, ⟨ls, hL, ll, he⟩, ⟨s1, s2⟩, g⟩ := h
    refine ⟨_, (pss_cons (ps_if (pt_cmpR op_ge (pv 1) pe_int (nomark _))
        (pss_one (ps_ret (pe_ix ix_list (pe_fld (pv 0) rfl) (pv 1) (fun _ _ => rfl)))) pss_nil)
      (pss_one (ps_ret (pe_ifExp (pt_cmpR op_eq (pv 1) (pe_glob (v := .int (-2)) (by rfl) m_LINK_ROW ⟨_, rfl⟩) (nomark _)) (pe_tupRg rfl (by rfl) X.b_tuple (prg_1 (by rfl) X.b_range (pv 2))) (pe_tup pa_nil))))), ?_⟩
    refine ⟨_, rfl, k, 0, rfl, rfl, _, rfl, ite2 (fun e => ?_) (fun e => ?_)⟩
    · have e1 : 0 ≤ k := of_decide_eq_true e
      obtain ⟨r, er, rfl⟩ := s2 e1
      obtain ⟨j, rfl⟩ : ∃ j : Nat, k = j := ⟨k.toNat, by omega⟩
      have hj := (List.getElem?_eq_some_iff.mp er).1
      have hj2 : j < ls.length := by rw [ll]; exact hj
      have eb : ls[j]? = some ls[j] := List.getElem?_eq_getElem hj2
      refine ⟨_, rfl, q, C_Tracing, dx, fs, .ref aL, rfl, hq, X.cl_Tracing, X.n_Tracing_shapes_links, hf, _, rfl, aL, _, j, .ref ls[j], rfl, rfl, SqL.of hL, atI_nat (by simp [eb]), ?_⟩
      refine g _ _ (Same.refl H) ?_
      rw [he j r _ er eb]
      congr 3
      unfold idxOf
      exact List.filter_congr fun i _ => (flag_pos e1 er i).symm
    · have e1 : ¬ 0 ≤ k := fun z => e (decide_eq_true z)
      refine ⟨_, rfl, rfl, _, rfl, ?_⟩
      by_cases e2 : k = -2
      · subst e2
        refine iteT ⟨_, rfl, n, rfl, ⟨by decide, by decide, by omega, by omega, by omega⟩, fun l nl => ?_⟩
        refine g l _ (same_new nl) ?_
        rw [upd_same, flag_two]
        have : rgV 0 (n : Int) = natV (List.range n) := by
          unfold rgV natV
          rw [show ((n : Int) - 0).toNat = n by omega]
          exact List.map_congr_left fun i _ => by rw [Int.zero_add]
        rw [this]
      · have : decide (V.int k = V.int (-2)) = false := by simp [e2]
        rw [this]
        refine iteF ⟨by show 0 ≤ sizeLine; decide, fun l nl => ?_⟩
        refine g l _ (same_new nl) ?_
        rw [upd_same, flag_neg (by omega) e2]
        rfl
def spNumber (CT : Addr) : Sp := fun vs H Q _ => ∃ (q aD aF : Addr) (x : Int) (ord : List Int), vs = [.ref q, .int x] ∧ Tc CT H q aD aF ord ∧ ord.length ≤ 1000 ∧
  ∀ H', Tc CT H' q aD aF (visit ord x) → KeptL [aD, aF] H H' → Q (.int (num (visit ord x) x)) H'
theorem ok_number {f : Addr} {fd : FuncData} (G : Md K C_Tracing "number" "Tracing.number" s_Tracing_number ["self", "name"] f fd) (X : Lw K mg C_Tracing C_PlainHeap) : FnOk P w K mg base CX0 1 f fd ["self", "name"] (spNumber C_Tracing) := by

  refine G.F.ok sc_Tracing_number (fun vs H Q E h => ?_) (fun cdv A outer s H vs Q E hr h => ?_)
  · obtain ⟨q, aD, aF, x, ord, rfl, _⟩ := h; rfl
  · obtain ⟨q, aD, aF, x, ord, rfl, ⟨⟨dx, fs, hq, f1, f2, f3⟩, hd, hf⟩, hl, g⟩ := h
    refine ⟨_, (pss_cons (ps_if (pt_cmpR op_eq (pv 1) pe_int (nomark _))
        (pss_one (ps_ret pe_int)) pss_nil)
      (pss_cons (ps_if (pt_cmp (pc_dnotin (hu_of hr) (pv 1) (pe_fld (pv 0) rfl)))
        (pss_cons (ps_expr (pe_bm PySem.F.plainAttrs_list PySem.F.slot_list_append PySem.F.type_list_append mt_append (pe_fld (pv 0) rfl) (pa_cons (pv 1) pa_nil)))
      (pss_one (ps_dput (hu_of hr) (pe_fld (pv 0) rfl) (pv 1) (pe_callB call_len (by rfl) X.b_len PySem.boot_len (pa_cons (pe_fld (pv 0) rfl) pa_nil)) rfl))) pss_nil)
      (pss_one (ps_ret (pe_dget (hu_of hr) (pe_fld (pv 0) rfl) (pv 1) (fun _ _ => rfl)))))), ?_⟩
    refine ⟨_, rfl, rfl, _, rfl, ?_⟩
    by_cases e0 : x = 0
    · subst e0
      refine iteT ?_
      have ev : visit ord 0 = ord := by unfold visit; rw [if_pos (.inl rfl)]
      rw [ev] at g
      exact g H ⟨⟨dx, fs, hq, f1, f2, f3⟩, hd, hf⟩ (fun _ _ _ e => e)
    · have : decide (V.int x = V.int 0) = false := by simp [e0]
      rw [this]
      refine iteF ?_
      refine ⟨_, rfl, _, rfl, q, C_Tracing, dx, fs, .ref aD, rfl, hq, X.cl_Tracing, X.n_Tracing_numbers_by_name, f1, aD, _, rfl, DGet.k (k := Sum.inl x) hd, _, rfl, ?_⟩
      by_cases hm : x ∈ ord
      · have ev : visit ord x = ord := by unfold visit; rw [if_pos (.inr hm)]
        rw [ev] at g
        rw [kv_num hm e0]
        refine iteF ?_
        refine ⟨_, rfl, q, C_Tracing, dx, fs, .ref aD, rfl, hq, X.cl_Tracing, X.n_Tracing_numbers_by_name, f1, _, rfl, aD, _, rfl, ?_, g H ⟨⟨dx, fs, hq, f1, f2, f3⟩, hd, hf⟩ (fun _ _ _ e => e)⟩
        rw [← kv_num hm e0]
        exact DGet.k (k := Sum.inl x) hd
      · have ev : visit ord x = ord ++ [x] := by unfold visit; rw [if_neg (fun z => z.elim e0 hm)]
        rw [ev] at g
        have en : valV (kv ord) (Sum.inl x : Key) = none := by rw [kv, kv_get, if_neg hm]
        rw [en]
        refine iteT ?_
        have qF : q ≠ aF := ne_of hq hf (by intro z; cases z)
        have qD : q ≠ aD := ne_of hq hd (by intro z; cases z)
        have dF : aD ≠ aF := ne_of hd hf (by intro z; cases z)
        refine ⟨_, rfl, q, C_Tracing, dx, fs, .ref aF, rfl, hq, X.cl_Tracing, X.n_Tracing_found, f2, .inl ⟨rfl, _, SqL.of hf⟩, _, rfl, aF, _, _, rfl, rfl, hf, by rw [List.length_map]; exact small1000 hl, ?_⟩
        have hq1 : (upd H aF (.lst (ord.map V.int ++ [V.int x]))) q = some (.ins C_Tracing dx fs) := by rw [upd_ne qF]; exact hq
        have hd1 : (upd H aF (.lst (ord.map V.int ++ [V.int x]))) aD = some (.dK (kv ord)) := by rw [upd_ne dF]; exact hd
        refine ⟨_, rfl, q, C_Tracing, dx, fs, .ref aF, rfl, hq1, X.cl_Tracing, X.n_Tracing_found, f2, .ref aF, ord.length + 1, rfl, .inl ⟨_, SqL.of upd_same, by simp⟩, ?_⟩
        refine ⟨_, rfl, q, C_Tracing, dx, fs, .ref aD, rfl, hq1, X.cl_Tracing, X.n_Tracing_numbers_by_name, f1, _, rfl, aD, _, rfl, DPut.k (k := Sum.inl x) hd1 (by rw [kv, kvFrom_len]; exact small1000 hl), ?_⟩
        rw [kv_put hm]
        have hq2 : (upd (upd H aF (.lst (ord.map V.int ++ [V.int x]))) aD (.dK (kv (ord ++ [x])))) q = some (.ins C_Tracing dx fs) := by rw [upd_ne qD]; exact hq1
        refine ⟨_, rfl, q, C_Tracing, dx, fs, .ref aD, rfl, hq2, X.cl_Tracing, X.n_Tracing_numbers_by_name, f1, _, rfl, aD, _, rfl, ?_, g _ ⟨⟨dx, fs, hq2, f1, f2, f3⟩, upd_same, ?_⟩ ?_⟩
        · rw [← kv_num (ord := ord ++ [x]) (by simp) e0]
          exact DGet.k (k := Sum.inl x) upd_same
        · rw [upd_ne dF.symm, upd_same]
          simp
        · intro b o nb e
          rw [upd_ne (fun z => nb (by simp [z])), upd_ne (fun z => nb (by simp [z]))]
          exact e
def spWaits (CT : Addr) : Sp := fun vs H Q _ => ∃ (q : Addr) (t : Ta) (sh : List (List Bool)) (ord : List Int) (ths : List PyData) (rs : List Int), vs = [.ref q] ∧ TrAt CT H q t sh ord ths rs ∧ Q (.bl (decide (ths.length < ord.length))) H
theorem ok_waits {f : Addr} {fd : FuncData} (G : Md K C_Tracing "waits" "Tracing.waits" s_Tracing_waits ["self"] f fd) (X : Lw K mg C_Tracing C_PlainHeap) : FnOk P w K mg base CX0 1 f fd ["self"] (spWaits C_Tracing) := by

  refine G.F.ok sc_Tracing_waits (fun vs H Q E h => ?_) (fun cdv A outer s H vs Q E hr h => ?_)
  · obtain ⟨q, t, sh, ord, ths, rs, rfl, _⟩ := h; rfl
  · obtain ⟨q, t, sh, ord, ths, rs, rfl, ht, g⟩ := h
    obtain ⟨vs, hT, hv⟩ := ht.things
    refine ⟨_, (pss_one (ps_ret (pe_cmpR op_lt (pe_callB call_len (by rfl) X.b_len PySem.boot_len (pa_cons (pe_fld (pv 0) rfl) pa_nil)) (pe_callB call_len (by rfl) X.b_len PySem.boot_len (pa_cons (pe_fld (pv 0) rfl) pa_nil)) (nomark _)))), ?_⟩
    refine ⟨_, rfl, q, C_Tracing, _, _, .ref t.aT, rfl, ht.at_, X.cl_Tracing, X.n_Tracing_things, rfl, .ref t.aT, vs.length, rfl, .inl ⟨_, SqL.of hT, rfl⟩, ?_⟩
    refine ⟨_, rfl, q, C_Tracing, _, _, .ref t.aF, rfl, ht.at_, X.cl_Tracing, X.n_Tracing_found, rfl, .ref t.aF, ord.length, rfl, .inl ⟨_, SqL.of ht.f, by simp⟩, _, _, rfl, rfl, ?_⟩
    have e : decide ((vs.length : Int) < (ord.length : Int)) = decide (ths.length < ord.length) := by rw [hv.len]; simp
    show Q (.bl (decide ((vs.length : Int) < (ord.length : Int)))) H
    rw [e]
    exact g
def spFirst (CT : Addr) : Sp := fun vs H Q _ => ∃ (q : Addr) (t : Ta) (sh : List (List Bool)) (ord : List Int) (ths : List PyData) (rs : List Int) (a : Int), vs = [.ref q] ∧ TrAt CT H q t sh ord ths rs ∧ ord[ths.length]? = some a ∧ Q (.int a) H
theorem ok_first {f : Addr} {fd : FuncData} (G : Md K C_Tracing "first_untold" "Tracing.first_untold" s_Tracing_first_untold ["self"] f fd) (X : Lw K mg C_Tracing C_PlainHeap) : FnOk P w K mg base CX0 1 f fd ["self"] (spFirst C_Tracing) := by

  refine G.F.ok sc_Tracing_first_untold (fun vs H Q E h => ?_) (fun cdv A outer s H vs Q E hr h => ?_)
  · obtain ⟨q, t, sh, ord, ths, rs, a, rfl, _⟩ := h; rfl
  · obtain ⟨q, t, sh, ord, ths, rs, a, rfl, ht, ha, g⟩ := h
    obtain ⟨vs, hT, hv⟩ := ht.things
    refine ⟨_, (pss_one (ps_ret (pe_ix ix_list (pe_fld (pv 0) rfl) (pe_callB call_len (by rfl) X.b_len PySem.boot_len (pa_cons (pe_fld (pv 0) rfl) pa_nil)) (fun _ _ => rfl)))), ?_⟩
    refine ⟨_, rfl, q, C_Tracing, _, _, .ref t.aF, rfl, ht.at_, X.cl_Tracing, X.n_Tracing_found, rfl, ?_⟩
    refine ⟨_, rfl, q, C_Tracing, _, _, .ref t.aT, rfl, ht.at_, X.cl_Tracing, X.n_Tracing_things, rfl, .ref t.aT, vs.length, rfl, .inl ⟨_, SqL.of hT, rfl⟩, t.aF, _, _, .int a, rfl, rfl, SqL.of ht.f, atI_nat (by rw [hv.len]; simp [ha]), g⟩
def spMany (CT : Addr) : Sp := fun vs H Q _ => ∃ (q : Addr) (t : Ta) (sh : List (List Bool)) (ord : List Int) (ths : List PyData) (rs : List Int), vs = [.ref q] ∧ TrAt CT H q t sh ord ths rs ∧ Q (.int ord.length) H
theorem ok_many {f : Addr} {fd : FuncData} (G : Md K C_Tracing "many" "Tracing.many" s_Tracing_many ["self"] f fd) (X : Lw K mg C_Tracing C_PlainHeap) : FnOk P w K mg base CX0 1 f fd ["self"] (spMany C_Tracing) := by

  refine G.F.ok sc_Tracing_many (fun vs H Q E h => ?_) (fun cdv A outer s H vs Q E hr h => ?_)
  · obtain ⟨q, t, sh, ord, ths, rs, rfl, _⟩ := h; rfl
  · obtain ⟨q, t, sh, ord, ths, rs, rfl, ht, g⟩ := h
    refine ⟨_, (pss_one (ps_ret (pe_callB call_len (by rfl) X.b_len PySem.boot_len (pa_cons (pe_fld (pv 0) rfl) pa_nil)))), ?_⟩
    exact ⟨_, rfl, q, C_Tracing, _, _, .ref t.aF, rfl, ht.at_, X.cl_Tracing, X.n_Tracing_found, rfl, .ref t.aF, ord.length, rfl, .inl ⟨_, SqL.of ht.f, by simp⟩, g⟩
def spTgraph (CT : Addr) : Sp := fun vs H Q _ => ∃ (q : Addr) (t : Ta) (sh : List (List Bool)) (ord : List Int) (ths : List PyData) (rs : List Int), vs = [.ref q] ∧ TrAt CT H q t sh ord ths rs ∧ ths.length ≤ 1000 ∧ ∀ v H', Same H H' → Dv H' v (.tuple [inPy rs, .tuple ths]) → Q v H'
theorem ok_tgraph {f : Addr} {fd : FuncData} (G : Md K C_Tracing "graph" "Tracing.graph" s_Tracing_graph ["self"] f fd) (X : Lw K mg C_Tracing C_PlainHeap) : FnOk P w K mg base CX0 1 f fd ["self"] (spTgraph C_Tracing) := by

  refine G.F.ok sc_Tracing_graph (fun vs H Q E h => ?_) (fun cdv A outer s H vs Q E hr h => ?_)
  · obtain ⟨q, t, sh, ord, ths, rs, rfl, _⟩ := h; rfl
  · obtain ⟨q, t, sh, ord, ths, rs, rfl, ht, hl, g⟩ := h
    obtain ⟨vs, hT, hv⟩ := ht.things
    refine ⟨_, (pss_one (ps_ret (pe_tup (pa_cons (pe_fld (pv 0) rfl) (pa_cons (pe_callTy call_tuple_of (by rfl) X.b_tuple (by decide +kernel) (pa_cons (pe_fld (pv 0) rfl) pa_nil)) pa_nil))))), ?_⟩
    refine ⟨_, rfl, q, C_Tracing, _, _, .ref t.aN, rfl, ht.at_, X.cl_Tracing, X.n_Tracing_numbers, rfl, ?_⟩
    refine ⟨_, rfl, q, C_Tracing, _, _, .ref t.aT, rfl, ht.at_, X.cl_Tracing, X.n_Tracing_things, rfl, t.aT, vs, rfl, .inl ⟨SqL.of hT, fun l nl => ?_⟩⟩
    refine ⟨by show 2 ≤ sizeLine; decide, fun r nr => ?_⟩
    have s1 : Same H (upd H l (.tup vs)) := same_new nl
    have s2 : Same (upd H l (.tup vs)) (upd (upd H l (.tup vs)) r (.tup [.ref t.aN, .ref l])) := same_new nr
    have s3 := s1.trans s2
    refine g _ _ s3 (.tup (xs := [.ref t.aN, .ref l]) upd_same (by show 2 ≤ 1000; decide) (.cons (ht.nums.same (TupSame.of s3)) (.cons (.tup (xs := vs) (s2 _ _ upd_same) (by rw [hv.len]; exact hl) (hv.same (TupSame.of s3))) .nil)))
end
end PH

/-! What is come to: it is made; one thing is told. -/
namespace PH
open PySem PySem.Spec PyProof.Rows L2 KA KI KK PV T ET
theorem TrAt.three {CT : Addr} {H : Hp} {q : Addr} {t : Ta} {sh : List (List Bool)} {ord : List Int} {ths : List PyData} {rs : List Int} (h : TrAt CT H q t sh ord ths rs) : ∀ b ∈ [t.aD, t.aF, t.aT], ∃ o, H b = some o ∧ ∀ xs, o ≠ .tup xs := fun b hb => by
  obtain ⟨vs, hT, _⟩ := h.things
  rcases (by simpa using hb : b = t.aD ∨ b = t.aF ∨ b = t.aT) with rfl | rfl | rfl
  · exact ⟨_, h.d, by intro z e; cases e⟩
  · exact ⟨_, h.f, by intro z e; cases e⟩
  · exact ⟨_, hT, by intro z e; cases e⟩
theorem TrAt.after {CT : Addr} {H H' : Hp} {q : Addr} {t : Ta} {sh : List (List Bool)} {ord ord' : List Int} {ths ths' : List PyData} {rs : List Int} (h : TrAt CT H q t sh ord ths rs) (k : KeptL [t.aD, t.aF, t.aT] H H')
    (d : H' t.aD = some (.dK (kv ord'))) (f : H' t.aF = some (.lst (ord'.map V.int))) (things : ∃ vs, H' t.aT = some (.lst vs) ∧ DvAll H' vs ths') : TrAt CT H' q t sh ord' ths' rs := by
  have tt := k.tups2 h.three
  obtain ⟨vs, hT, _⟩ := h.things
  obtain ⟨ls, hL, ll, he⟩ := h.links
  refine ⟨k _ _ ?_ h.at_, ⟨ls, k _ _ ?_ hL, ll, fun i r b e1 e2 => tt _ _ (he i r b e1 e2)⟩, d, f, things, h.nums.same tt, h.ne⟩
  · intro z
    rcases (by simpa using z : q = t.aD ∨ q = t.aF ∨ q = t.aT) with e | e | e
    · exact ne_of h.at_ h.d (by intro z; cases z) e
    · exact ne_of h.at_ h.f (by intro z; cases z) e
    · exact ne_of h.at_ hT (by intro z; cases z) e
  · intro z
    rcases (by simpa using z : t.aL = t.aD ∨ t.aL = t.aF ∨ t.aL = t.aT) with e | e | e
    · exact ne_of hL h.d (by intro z; cases z) e
    · exact h.ne.2.1 e
    · exact h.ne.2.2 e
theorem TrAt.same {CT : Addr} {H H' : Hp} {q : Addr} {t : Ta} {sh : List (List Bool)} {ord : List Int} {ths : List PyData} {rs : List Int} (h : TrAt CT H q t sh ord ths rs) (s : Same H H') : TrAt CT H' q t sh ord ths rs := by
  obtain ⟨vs, hT, hv⟩ := h.things
  exact h.after (KeptL.of_same s) (s _ _ h.d) (s _ _ h.f) ⟨vs, s _ _ hT, hv.same (TupSame.of s)⟩
theorem visits_take {rs : List Int} {i : Nat} {x : Int} (e : rs[i]? = some x) : visits [] (rs.take (i + 1)) = visit (visits [] (rs.take i)) x := by
  rw [List.take_add_one, e]
  unfold visits
  rw [List.foldl_append]
  rfl
section
variable {P : Program} {w : World} {K : PySem.W.Frag} {mg : Str → Option Value} {base : Heap} {C_Tracing C_PlainHeap : Addr}
def SqL' (H : Hp) (b : Addr) (xs : List Int) : Prop := H b = some (.lst (xs.map V.int))
def spTell (CT : Addr) : Sp := fun vs H Q _ => ∃ (q b : Addr) (th : Thing) (n : Nat) (t : Ta) (sh : List (List Bool)) (ord : List Int) (ths : List PyData) (rs : List Int), vs = [.ref q, .int th.1, .ref b] ∧ TrAt CT H q t sh ord ths rs ∧ SqL' H b th.2 ∧ sizeOk sh th.1 th.2.length ∧
  OrdOk n ord ∧ n ≤ 1000 ∧ (∀ x ∈ refs sh th, 0 ≤ x ∧ x ≤ n) ∧ ths.length ≤ 1000 ∧
  ∀ H', TrAt CT H' q t sh (visits ord (refs sh th)) (ths ++ [.tuple [.int th.1, inPy (trans (flag sh th.1) (visits ord (refs sh th)) th.2)]]) rs → KeptL [t.aD, t.aF, t.aT] H H' → Q .non H'
theorem ok_tell {f : Addr} {fd : FuncData} (G : Md K C_Tracing "tell" "Tracing.tell" s_Tracing_tell ["self", "kind", "body"] f fd) (X : Lw K mg C_Tracing C_PlainHeap) : FnOk P w K mg base CX0 2 f fd ["self", "kind", "body"] (spTell C_Tracing) := by
  obtain ⟨f_Tracing_links, d_Tracing_links, M_Tracing_links⟩ := X.m_Tracing_links
  have H_Tracing_links : FnOk P w K mg base CX0 1 f_Tracing_links d_Tracing_links ["self", "kind", "many"] (spLinks C_Tracing) := ok_links M_Tracing_links X
  obtain ⟨f_Tracing_number, d_Tracing_number, M_Tracing_number⟩ := X.m_Tracing_number
  have H_Tracing_number : FnOk P w K mg base CX0 1 f_Tracing_number d_Tracing_number ["self", "name"] (spNumber C_Tracing) := ok_number M_Tracing_number X
  refine G.F.ok sc_Tracing_tell (fun vs H Q E h => ?_) (fun cdv A outer s H vs Q E hr h => ?_)
  · obtain ⟨q, b, th, n, t, sh, ord, ths, rs, rfl, _⟩ := h; rfl
  · obtain ⟨q, b, th, n, t, sh, ord, ths, rs, rfl, ht, hb, hs, ho, hn, hx, hl, g⟩ := h
    obtain ⟨k, body⟩ := th
    refine ⟨_, (pss_cons (ps_set (i := 2) sc_Tracing_tell.nd rfl (Or.inl rfl) (pe_callTy call_list_of (by rfl) X.b_list (by decide +kernel) (pa_cons (pv 2) pa_nil)))
      (pss_cons (ps_for PassesOwn.never rfl (pi_tup (pe_meth (pv 0) X.cl_Tracing M_Tracing_links.m H_Tracing_links hr M_Tracing_links.b .nil pass0 (pa_cons (pv 1) (pa_cons (pe_callB call_len (by rfl) X.b_len PySem.boot_len (pa_cons (pv 2) pa_nil)) pa_nil)))) (pg_name (i := 3) sc_Tracing_tell.nd rfl (Or.inl rfl))
        (pss_one (ps_asg (pe_meth (pv 0) X.cl_Tracing M_Tracing_number.m H_Tracing_number hr M_Tracing_number.b .nil pass0 (pa_cons (pe_ix ix_list (pv 2) (pv 3) (fun _ _ => rfl)) pa_nil)) (pg_sub (pv 2) (pv 3) set_list))))
      (pss_one (ps_expr (pe_bm PySem.F.plainAttrs_list PySem.F.slot_list_append PySem.F.type_list_append mt_append (pe_fld (pv 0) rfl) (pa_cons (pe_tup (pa_cons (pv 1) (pa_cons (pe_callTy call_tuple_of (by rfl) X.b_tuple (by decide +kernel) (pa_cons (pv 2) pa_nil)) pa_nil))) pa_nil)))))), ?_⟩
    have three := ht.three
    obtain ⟨vs, hT, hv⟩ := ht.things
    obtain ⟨s1, s2⟩ := hs
    refine ⟨_, rfl, b, _, rfl, .inl (SqL.of hb), fun nb nnb => ?_⟩
    have S1 : Same H (upd H nb (.lst (body.map V.int))) := same_new nnb
    have ht1 := ht.same S1
    refine ⟨_, rfl, q, _, _, rfl, ht1.at_, trF_no rfl rfl rfl rfl rfl, _, rfl, _, rfl, .ref nb, body.length, rfl, .inl ⟨_, SqL.of upd_same, by simp⟩, q, k, body.length, t.dx, t.aL, _, sh, rfl, ht1.at_, rfl, ht1.links, ⟨s1, s2⟩, fun l H2 S2 hl2 => ?_⟩
    have ei : idxOf body.length (flag sh k) = idx sh (k, body) := rfl
    rw [ei] at hl2
    have nbH2 := S2 _ _ (upd_same (H := H) (a := nb) (o := .lst (body.map V.int)))
    have ht2 := ht1.same S2
    have S12 := S1.trans S2
    have fresh : ∀ {c : Addr} {o : HO}, H c = some o → c ≠ nb := fun e => ne_of_none e nnb
    refine ⟨l, rfl, ⟨_, SqT.of hl2⟩, for_tup (xs := natV (idx sh (k, body))) (fun j σ H3 => ∃ (o3 : Option V) (oj cj : List Int), σ = [some (.ref q), some (.int k), some (.ref nb), o3] ∧ tellAux ((idx sh (k, body)).drop j) oj cj = tellAux (idx sh (k, body)) ord body ∧ OrdOk n oj ∧ cj.length = body.length ∧
        (∀ i ∈ (idx sh (k, body)).drop j, cj.getD i 0 = body.getD i 0) ∧ Tc C_Tracing H3 q t.aD t.aF oj ∧ H3 nb = some (.lst (cj.map V.int)) ∧ H3 l = some (.tup (natV (idx sh (k, body)))) ∧ KeptL [t.aD, t.aF] H H3) ⟨none, ord, body, rfl, rfl, ho, rfl, fun _ _ => rfl, ht2.tc, nbH2, hl2, KeptL.of_same S12⟩ ?_ ?_ ?_⟩
    · rintro i σ H3 _ ⟨o3, oj, cj, _, _, _, _, _, _, _, h1, _⟩
      exact SqT.of h1
    · rintro j x σ H3 hxj ⟨o3, oj, cj, rfl, e1, o1, l1, r1, c1, nb1, hl3, k1⟩
      unfold natV at hxj
      rw [List.getElem?_map] at hxj
      obtain ⟨i, ei, rfl⟩ := Option.map_eq_some_iff.mp hxj
      have hj := (List.getElem?_eq_some_iff.mp ei).1
      have hm : i ∈ idx sh (k, body) := List.mem_of_getElem? ei
      have hil : i < body.length := idx_lt hm
      have ed : (idx sh (k, body)).drop j = i :: (idx sh (k, body)).drop (j + 1) := by
        rw [List.drop_eq_getElem_cons hj]
        rw [List.getElem?_eq_getElem hj] at ei
        cases ei
        rfl
      rw [ed] at e1 r1
      have hv1 : cj.getD i 0 = body.getD i 0 := r1 i List.mem_cons_self
      have hxr : 0 ≤ cj.getD i 0 ∧ cj.getD i 0 ≤ n := by
        rw [hv1]
        exact hx _ (List.mem_map.mpr ⟨i, hm, rfl⟩)
      have hci : cj[i]? = some (cj.getD i 0) := by
        rw [List.getD_eq_getElem?_getD, List.getElem?_eq_getElem (by omega)]
        rfl
      obtain ⟨⟨dx, fs, hq3, f1, f2, f3⟩, hd3, hf3⟩ := c1
      refine ⟨_, rfl, q, dx, fs, rfl, hq3, f3, _, rfl, _, rfl, nb, _, i, .int (cj.getD i 0), rfl, rfl, SqL.of nb1, atI_nat (by rw [List.getElem?_map, hci]; rfl), ?_⟩
      refine ⟨q, t.aD, t.aF, cj.getD i 0, oj, rfl, ⟨⟨dx, fs, hq3, f1, f2, f3⟩, hd3, hf3⟩, by have := o1.len; omega, fun H4 c4 k4 => ?_⟩
      have nD : nb ≠ t.aD := (fresh ht.d).symm
      have nF : nb ≠ t.aF := (fresh ht.f).symm
      have two : ∀ c ∈ [t.aD, t.aF], ∃ o, H3 c = some o ∧ ∀ xs, o ≠ .tup xs := fun c hc => by
        rcases (by simpa using hc : c = t.aD ∨ c = t.aF) with rfl | rfl
        · exact ⟨_, hd3, by intro z e; cases e⟩
        · exact ⟨_, hf3, by intro z e; cases e⟩
      have nb4 : H4 nb = some (.lst (cj.map V.int)) := k4 _ _ (by simp [nD, nF]) nb1
      refine ⟨_, rfl, _, rfl, nb, _, i, i, rfl, rfl, nb4, by unfold ixN; rw [List.length_map, if_pos (by omega), if_pos (by omega)]; rfl, ?_⟩
      have es : (cj.map V.int).set i (V.int (num (visit oj (cj.getD i 0)) (cj.getD i 0))) = (cj.set i (num (visit oj (cj.getD i 0)) (cj.getD i 0))).map V.int := by rw [List.map_set]
      rw [es]
      have lnb : l ≠ nb := ne_of hl3 nb1 (by intro z; cases z)
      have e4 : ∀ {c : Addr} {o : HO}, c ≠ nb → H4 c = some o → (upd H4 nb (.lst ((cj.set i (num (visit oj (cj.getD i 0)) (cj.getD i 0))).map V.int))) c = some o := fun h e => by rw [upd_ne h]; exact e
      obtain ⟨⟨dx4, fs4, hq4, g1, g2, g3⟩, hd4, hf4⟩ := c4
      refine ⟨_, visit oj (cj.getD i 0), _, rfl, by rw [← e1]; rfl, o1.visit hxr, by rw [List.length_set]; exact l1, fun m hm2 => ?_, ⟨⟨dx4, fs4, e4 (fresh ht.at_) hq4, g1, g2, g3⟩, e4 nD.symm hd4, e4 nF.symm hf4⟩, upd_same, e4 lnb (k4.tups2 two _ _ hl3), fun c o nc e => e4 (fresh e) (k4 _ _ nc (k1 _ _ nc e))⟩
      have nd : ((idx sh (k, body)).drop j).Nodup := List.Sublist.nodup (List.drop_sublist _ _) (idx_nodup _ _)
      rw [ed, List.nodup_cons] at nd
      have : i ≠ m := fun e => nd.1 (e ▸ hm2)
      rw [List.getD_eq_getElem?_getD, List.getElem?_set_ne this, ← List.getD_eq_getElem?_getD]
      exact r1 m (List.mem_cons_of_mem _ hm2)
    · rintro σ H3 ⟨o3, oj, cj, rfl, e1, o1, l1, _, c1, nb1, hl3, k1⟩
      have el : (idx sh (k, body)).drop (natV (idx sh (k, body))).length = [] := by
        unfold natV
        rw [List.length_map]
        exact List.drop_length
      rw [el, tell_ok sh (k, body) ord] at e1
      obtain ⟨rfl, rfl⟩ : oj = visits ord (refs sh (k, body)) ∧ cj = trans (flag sh k) (visits ord (refs sh (k, body))) body := by
        have e2 : ((oj, cj) : List Int × List Int) = (visits ord (refs sh (k, body)), trans (flag sh k) (visits ord (refs sh (k, body))) body) := e1
        exact ⟨congrArg Prod.fst e2, congrArg Prod.snd e2⟩
      obtain ⟨⟨dx, fs, hq3, f1, f2, f3⟩, hd3, hf3⟩ := c1
      have nT : t.aT ∉ [t.aD, t.aF] := fun z => by
        rcases (by simpa using z : t.aT = t.aD ∨ t.aT = t.aF) with e | e
        · exact ne_of hT ht.d (by intro z; cases z) e
        · exact ht.ne.1 e.symm
      have two : ∀ c ∈ [t.aD, t.aF], ∃ o, H c = some o ∧ ∀ xs, o ≠ .tup xs := fun c hc => three c (by
        rcases (by simpa using hc : c = t.aD ∨ c = t.aF) with rfl | rfl <;> simp)
      have nq : q ∉ [t.aD, t.aF] := fun z => by
        rcases (by simpa using z : q = t.aD ∨ q = t.aF) with e | e
        · exact ne_of ht.at_ ht.d (by intro z; cases z) e
        · exact ne_of ht.at_ ht.f (by intro z; cases z) e
      have hT3 : H3 t.aT = some (.lst vs) := k1 _ _ nT hT
      have hq3' : H3 q = some (.ins C_Tracing t.dx (TrF t)) := k1 _ _ nq ht.at_
      have tt3 := k1.tups2 two
      refine ⟨_, rfl, q, C_Tracing, _, _, .ref t.aT, rfl, hq3', X.cl_Tracing, X.n_Tracing_things, rfl, .inl ⟨rfl, _, SqL.of hT3⟩, ?_⟩
      refine ⟨_, rfl, _, rfl, nb, _, rfl, .inl ⟨SqL.of nb1, fun u nu => ⟨by show 2 ≤ sizeLine; decide, fun r nr => ?_⟩⟩⟩
      have uT : t.aT ≠ u := ne_of_none hT3 nu
      have rT : t.aT ≠ r := ne_of_none (by rw [upd_ne uT]; exact hT3) nr
      refine ⟨t.aT, vs, .ref r, rfl, rfl, by rw [upd_ne rT, upd_ne uT]; exact hT3, by rw [hv.len]; exact small1000 hl, ?_⟩
      have S4 : Same H3 (upd (upd H3 u (.tup ((trans (flag sh k) (visits ord (refs sh (k, body))) body).map V.int))) r (.tup [.int k, .ref u])) := (same_new nu).trans (same_new nr)
      have hu4 := same_new nr (o := .tup [.int k, .ref u]) _ _ (upd_same (H := H3) (a := u) (o := .tup ((trans (flag sh k) (visits ord (refs sh (k, body))) body).map V.int)))
      have hr4 : (upd (upd H3 u (.tup ((trans (flag sh k) (visits ord (refs sh (k, body))) body).map V.int))) r (.tup [.int k, .ref u])) r = some (.tup [.int k, .ref u]) := upd_same
      generalize upd (upd H3 u (.tup ((trans (flag sh k) (visits ord (refs sh (k, body))) body).map V.int))) r (.tup [.int k, .ref u]) = H5 at S4 hu4 hr4
      have hT5 := S4 _ _ hT3
      have t6 : TupSame H5 (upd H5 t.aT (.lst (vs ++ [.ref r]))) := tupL hT5
      have dT : t.aD ≠ t.aT := ne_of ht.d hT (by intro z; cases z)
      have k6 : KeptL [t.aD, t.aF, t.aT] H (upd H5 t.aT (.lst (vs ++ [.ref r]))) := fun c o nc e => by
        rw [upd_ne (fun z => nc (by simp [z]))]
        exact S4 _ _ (k1 _ _ (fun z => nc (by rcases (by simpa using z : c = t.aD ∨ c = t.aF) with rfl | rfl <;> simp)) e)
      have lt : (trans (flag sh k) (visits ord (refs sh (k, body))) body).length = body.length := by unfold trans; exact List.length_mapIdx
      refine g _ (ht.after k6 ?_ ?_ ⟨_, upd_same, ?_⟩) k6
      · rw [upd_ne dT]
        exact S4 _ _ hd3
      · rw [upd_ne ht.ne.1]
        exact S4 _ _ hf3
      · refine (hv.same (fun c xs e => t6 _ _ (S4 _ _ (tt3 _ _ e)))).app (.cons (.tup (xs := [.int k, .ref u]) (t6 _ _ hr4) (by show 2 ≤ 1000; decide) (.cons (.int k) (.cons (.tup (t6 _ _ hu4) (by rw [List.length_map, lt]; exact s1) ints_dv) .nil))) .nil)
end
end PH

/-! What is come to is made. -/
namespace PH
open PySem PySem.Spec PyProof.Rows L2 KA KI KK PV T ET
theorem at_nx {D : Ends} {σ : L2.St} {A B : Hp} (e : B = A) (h : D.nx σ B) : D.nx σ A := e ▸ h
section
variable {P : Program} {w : World} {K : PySem.W.Frag} {mg : Str → Option Value} {base : Heap} {C_Tracing C_PlainHeap : Addr}
def spTinit (CT : Addr) : Sp := fun vs H Q _ => ∃ (q dx : Addr) (v u : V) (n : Nat) (sh : List (List Bool)) (rs : List Int), vs = [.ref q, v, u] ∧ H q = some (.ins CT dx []) ∧ Dv H v (shPy sh) ∧ Dv H u (inPy rs) ∧ sh.length ≤ 60 ∧ (∀ r ∈ sh, r.length ≤ 100) ∧ n ≤ 1000 ∧ (∀ x ∈ rs, 0 ≤ x ∧ x ≤ n) ∧
  ∀ (t : Ta) (H' : Hp), TrAt CT H' q t sh (visits [] rs) [] (rs.map (num (visits [] rs))) → H t.aD = none → H t.aF = none → H t.aT = none → KeptL [q] H H' → Q .non H'
theorem ok_tinit {f : Addr} {fd : FuncData} (F : Fun K "__init__" "Tracing.__init__" s_Tracing_init f fd) (X : Lw K mg C_Tracing C_PlainHeap) : FnOk P w K mg base CX0 2 f fd ["self", "shapes", "roots"] (spTinit C_Tracing) := by
  obtain ⟨f_Tracing_number, d_Tracing_number, M_Tracing_number⟩ := X.m_Tracing_number
  have H_Tracing_number : FnOk P w K mg base CX0 1 f_Tracing_number d_Tracing_number ["self", "name"] (spNumber C_Tracing) := ok_number M_Tracing_number X
  obtain ⟨f_shape_links, d_shape_links, G_shape_links⟩ := X.f_shape_links
  have H_shape_links : FnOk P w K mg base CX0 1 f_shape_links d_shape_links ["shape"] (spShl) := ok_shl G_shape_links X
  refine F.ok sc_Tracing_init (fun vs H Q E h => ?_) (fun cdv A outer s H vs Q E hr h => ?_)
  · obtain ⟨q, dx, v, u, n, sh, rs, rfl, _⟩ := h; rfl
  · obtain ⟨q, dx, v, u, n, sh, rs, rfl, hq, hv, hu, h1, h2, hn, hx, g⟩ := h
    obtain ⟨a, vs, rfl, ha, hl, he⟩ := shPy_at hv
    obtain ⟨b, rfl, hb, hbl⟩ := inPy_at hu
    refine ⟨_, (pss_cons (ps_fld (pv 0) (pe_lc (own := [("shape", 3)]) (g := (gName 3)) (tt := tYes) rfl sc_Tracing_init.nd (pi_tup (pv 1)) (blkOk_by (own := [("shape", 3)]) (N := ["self", "shapes", "roots", "shape", "root"]) (sc := defScope s_Tracing_init) (by decide +kernel)) (fun _ _ _ _ _ => (pg_name (i := 3) sc_Tracing_init.nd rfl (Or.inl rfl))) (fun _ _ _ _ _ => pts_nil) (fun _ _ _ _ _ => (pe_call H_shape_links hr (by rfl) G_shape_links.g G_shape_links.F.kp G_shape_links.b .nil pass0 (pa_cons (pv 3) pa_nil)))) rfl)
      (pss_cons (ps_fld (pv 0) pe_dnewK rfl)
      (pss_cons (ps_fld (pv 0) (pe_lst pa_nil) rfl)
      (pss_cons (ps_fld (pv 0) (pe_lst pa_nil) rfl)
      (pss_one (ps_fld (pv 0) (pe_callTy call_tuple_of (by rfl) X.b_tuple (by decide +kernel) (pa_cons (pe_lc (own := [("root", 4)]) (g := (gName 4)) (tt := tYes) rfl sc_Tracing_init.nd (pi_tup (pv 2)) (blkOk_by (own := [("root", 4)]) (N := ["self", "shapes", "roots", "shape", "root"]) (sc := defScope s_Tracing_init) (by decide +kernel)) (fun _ _ _ _ _ => (pg_name (i := 4) sc_Tracing_init.nd rfl (Or.inl rfl))) (fun _ _ _ _ _ => pts_nil) (fun _ _ _ _ _ => (pe_meth (pv 0) X.cl_Tracing M_Tracing_number.m H_Tracing_number hr M_Tracing_number.b .nil pass0 (pa_cons (pv 4) pa_nil)))) pa_nil)) rfl)))))), ?_⟩
    refine ⟨_, rfl, a, rfl, ⟨_, SqT.of ha⟩, fun D nD => ?_⟩
    have kp : ∀ {c : Addr} {o : HO}, H c = some o → c ≠ D := fun e => ne_of_none e nD
    refine lc_tup (K := K) (a := a) (xs := vs) (fun i H' => ∃ ls : List Addr, H' D = some (.lst (ls.map V.ref)) ∧ ls.length = i ∧ (∀ (j : Nat) (r : List Bool) (c : Addr), sh[j]? = some r → ls[j]? = some c → H' c = some (.tup (natV (idxOf r.length fun m => r[m]?.getD false)))) ∧ Same H H')
      ⟨[], upd_same, rfl, fun j r c _ e => by simp at e, fun c o e => by rw [upd_ne (kp e)]; exact e⟩ ?_ ?_ ?_
    · rintro i H' _ ⟨_, _, _, _, s1⟩
      exact SqT.of (s1 _ _ ha)
    · rintro i x H1 hxi ⟨ls, hD, ll, hls, s1⟩
      have hi : i < sh.length := by
        have := (List.getElem?_eq_some_iff.mp hxi).1
        omega
      obtain ⟨c, e1, hc⟩ := he i sh[i] (List.getElem?_eq_getElem hi)
      rw [e1] at hxi
      cases hxi
      refine ⟨rfl, iteT (B := ∃ ls : List Addr, H1 D = some (.lst (ls.map V.ref)) ∧ ls.length = i + 1 ∧ (∀ (j : Nat) (r : List Bool) (c : Addr), sh[j]? = some r → ls[j]? = some c → H1 c = some (.tup (natV (idxOf r.length fun m => r[m]?.getD false)))) ∧ Same H H1) ?_⟩
      have hr := h2 sh[i] (List.getElem_mem hi)
      have hdv : Dv H1 (.ref c) (.tuple (sh[i].map .bool)) := .tup (xs := sh[i].map .bl) (s1 _ _ hc) (by rw [List.length_map]; omega) bools_dv
      refine ⟨_, rfl, .ref c, sh[i], rfl, hdv, by omega, fun l H2 nl S2 hl2 => ?_⟩
      have lD : l ≠ D := (ne_of_none hD nl).symm
      have hD2 := S2 _ _ hD
      refine ⟨_, hD2, by rw [List.length_map]; exact small1000 (by omega), ls ++ [l], by rw [upd_same]; simp, by simp [ll], fun j r d ej ed => ?_, fun d o e => ?_⟩
      · have dD : d ≠ D ∧ H2 d = some (.tup (natV (idxOf r.length fun m => r[m]?.getD false))) := by
          rw [List.getElem?_append] at ed
          split at ed
          · have h3 := hls j r d ej ed
            exact ⟨ne_of h3 hD (by intro z; cases z), S2 _ _ h3⟩
          · rename_i hj
            have hj2 := (List.getElem?_eq_some_iff.mp ed).1
            have : j - ls.length = 0 := by simp at hj2; omega
            rw [this] at ed
            have e3 : l = d := by simpa using ed
            subst e3
            have : j = i := by omega
            subst this
            rw [List.getElem?_eq_getElem hi] at ej
            cases ej
            exact ⟨lD, hl2⟩
        rw [upd_ne dD.1]
        exact dD.2
      · rw [upd_ne (kp e)]
        exact S2 _ _ (s1 _ _ e)
    rintro H1 ⟨ls, hD, ll, hls, s1⟩
    have hq1 := s1 _ _ hq
    refine ⟨_, rfl, q, C_Tracing, dx, _, rfl, hq1, X.cl_Tracing, X.n_Tracing_shapes_links, by decide, ?_⟩
    refine fun aD nD2 => ?_
    have qD : q ≠ aD := ne_of_none upd_same nD2
    refine ⟨_, rfl, q, C_Tracing, dx, _, rfl, by rw [upd_ne qD]; exact upd_same, X.cl_Tracing, X.n_Tracing_numbers_by_name, by show 1 < _; decide, ?_⟩
    refine ⟨by show 0 ≤ sizeLine; decide, fun aF nF => ?_⟩
    have qF : q ≠ aF := ne_of_none upd_same nF
    refine ⟨_, rfl, q, C_Tracing, dx, _, rfl, by rw [upd_ne qF]; exact upd_same, X.cl_Tracing, X.n_Tracing_found, by show 2 < _; decide, ?_⟩
    refine ⟨by show 0 ≤ sizeLine; decide, fun aT nT => ?_⟩
    have qT : q ≠ aT := ne_of_none upd_same nT
    refine ⟨_, rfl, q, C_Tracing, dx, _, rfl, by rw [upd_ne qT]; exact upd_same, X.cl_Tracing, X.n_Tracing_things, by show 3 < _; decide, ?_⟩
    rw [upd_ne qD.symm] at nD2
    rw [upd_ne qF.symm] at nF
    have DF : aD ≠ aF := ne_of_none upd_same nF
    rw [upd_ne DF.symm, upd_ne qF.symm] at nF
    rw [upd_ne qT.symm] at nT
    have FT : aF ≠ aT := ne_of_none upd_same nT
    rw [upd_ne FT.symm, upd_ne qT.symm] at nT
    have DT : aD ≠ aT := ne_of_none upd_same nT
    rw [upd_ne DT.symm, upd_ne qT.symm] at nT
    -- the state ahead of the numbers
    let fs4 : List (Str × V) := [("shapes_links", .ref D), ("numbers_by_name", .ref aD), ("found", .ref aF), ("things", .ref aT)]
    obtain ⟨H2, eH2⟩ : ∃ H2, H2 = upd (upd (upd (upd (upd (upd (upd H1 q (.ins C_Tracing dx [("shapes_links", .ref D)])) aD (.dK [])) q (.ins C_Tracing dx [("shapes_links", .ref D), ("numbers_by_name", .ref aD)])) aF (.lst [])) q (.ins C_Tracing dx [("shapes_links", .ref D), ("numbers_by_name", .ref aD), ("found", .ref aF)])) aT (.lst [])) q (.ins C_Tracing dx fs4) := ⟨_, rfl⟩
    have k2 : KeptL [q] H1 H2 := fun c o nc e => by
      have hc : c ≠ q := fun z => nc (by simp [z])
      rw [eH2, upd_ne hc, upd_ne (ne_of_none e nT), upd_ne hc, upd_ne (ne_of_none e nF), upd_ne hc, upd_ne (ne_of_none e nD2), upd_ne hc]
      exact e
    have hq2 : H2 q = some (.ins C_Tracing dx fs4) := by rw [eH2]; exact upd_same
    have hD2 : H2 aD = some (.dK []) := by rw [eH2, upd_ne qD.symm, upd_ne DT, upd_ne qD.symm, upd_ne DF, upd_ne qD.symm, upd_same]
    have hF2 : H2 aF = some (.lst []) := by rw [eH2, upd_ne qF.symm, upd_ne FT, upd_ne qF.symm, upd_same]
    have hT2 : H2 aT = some (.lst []) := by rw [eH2, upd_ne qT.symm, upd_same]
    have qq : ∀ {c : Addr} {o : HO}, (∀ d f, o ≠ .ins C_Tracing d f) → H1 c = some o → c ∉ [q] := by
      intro c o h e z
      have z2 : c = q := by simpa using z
      rw [z2, hq1] at e
      cases e
      exact h _ _ rfl
    have hDl2 := k2 _ _ (qq (by intro d f e; cases e) hD) hD
    have hb2 := k2 _ _ (qq (by intro d f e; cases e) (s1 _ _ hb)) (s1 _ _ hb)
    have tt2 : TupSame H1 H2 := fun c xs e => k2 _ _ (qq (by intro d f e; cases e) e) e
    have LD : D ≠ aF := ne_of_none hD nF
    have LT : D ≠ aT := ne_of_none hD nT
    refine at_nx eH2 ?_
    clear eH2
    refine ⟨_, rfl, b, rfl, ⟨_, SqT.of hb2⟩, fun E nE => ?_⟩
    refine lc_tup (K := K) (a := b) (xs := rs.map V.int) (fun i H' => H' E = some (.lst ((rs.take i).map fun x => V.int (num (visits [] rs) x))) ∧ Tc C_Tracing H' q aD aF (visits [] (rs.take i)) ∧ OrdOk n (visits [] (rs.take i)) ∧ KeptL [aD, aF] H2 H') ?_ ?_ ?_ ?_
    · refine ⟨upd_same, ⟨⟨dx, fs4, ?_, rfl, rfl, rfl⟩, ?_, ?_⟩, OrdOk.nil, KeptL.of_same (same_new nE)⟩
      · rw [upd_ne (ne_of_none hq2 nE)]; exact hq2
      · rw [upd_ne (ne_of_none hD2 nE)]; exact hD2
      · rw [upd_ne (ne_of_none hF2 nE)]; exact hF2
    · rintro i H' _ ⟨_, _, _, k3⟩
      refine SqT.of (k3 _ _ (fun z => ?_) hb2)
      rcases (by simpa using z : b = aD ∨ b = aF) with e | e
      · rw [e, hD2] at hb2; cases hb2
      · rw [e, hF2] at hb2; cases hb2
    · rintro i x H3 hxi ⟨hE, c3, o3, k3⟩
      rw [List.getElem?_map] at hxi
      obtain ⟨r, er, rfl⟩ := Option.map_eq_some_iff.mp hxi
      have hi := (List.getElem?_eq_some_iff.mp er).1
      have hr3 := hx r (List.mem_of_getElem? er)
      refine ⟨rfl, iteT (B := H3 E = some (.lst ((rs.take (i + 1)).map fun x => V.int (num (visits [] rs) x))) ∧ Tc C_Tracing H3 q aD aF (visits [] (rs.take (i + 1))) ∧ OrdOk n (visits [] (rs.take (i + 1))) ∧ KeptL [aD, aF] H2 H3) ?_⟩
      obtain ⟨⟨dx3, fs3, hq3, f1, f2, f3⟩, hd3, hf3⟩ := c3
      refine ⟨_, rfl, q, dx3, fs3, rfl, hq3, f3, _, rfl, q, aD, aF, r, visits [] (rs.take i), rfl, ⟨⟨dx3, fs3, hq3, f1, f2, f3⟩, hd3, hf3⟩, by have := o3.len; omega, fun H4 c4 k4 => ?_⟩
      have nED : E ∉ [aD, aF] := fun z => by
        rcases (by simpa using z : E = aD ∨ E = aF) with e | e
        · rw [e, hD2] at nE; cases nE
        · rw [e, hF2] at nE; cases nE
      have hE4 := k4 _ _ nED hE
      have ev := visits_take er
      have enum : num (visit (visits [] (rs.take i)) r) r = num (visits [] rs) r := by
        rw [← ev]
        have e5 : visits [] rs = visits (visits [] (rs.take (i + 1))) (rs.drop (i + 1)) := by
          unfold visits
          rw [← List.foldl_append, List.take_append_drop]
        obtain ⟨m, em⟩ := visits_pre (rs.drop (i + 1)) (visits [] (rs.take (i + 1)))
        rw [e5, em, num_pre]
        rw [ev]
        exact visit_mem _ _
      obtain ⟨⟨dx4, fs4', hq4, g1, g2, g3⟩, hd4, hf4⟩ := c4
      have fE : ∀ {c : Addr} {o : HO}, (∀ xs, o ≠ .lst xs) → H4 c = some o → c ≠ E := fun h e z => by
        rw [z, hE4] at e
        cases e
        exact h _ rfl
      refine ⟨_, hE4, by rw [List.length_map, List.length_take]; exact small1000 (by omega), ?_, ?_, ?_, ?_⟩
      · rw [upd_same, enum, List.take_add_one, er, List.map_append]
        rfl
      · rw [ev]
        refine ⟨⟨dx4, fs4', ?_, g1, g2, g3⟩, ?_, ?_⟩
        · rw [upd_ne (fE (by intro xs e; cases e) hq4)]; exact hq4
        · rw [upd_ne (fE (by intro xs e; cases e) hd4)]; exact hd4
        · rw [upd_ne (fun z => nED (by simp [← z]))]; exact hf4
      · rw [ev]
        exact o3.visit hr3
      · intro c o nc e
        rw [upd_ne (ne_of_none e nE)]
        exact k4 _ _ nc (k3 _ _ nc e)
    · rintro H3 ⟨hE, ⟨⟨dx3, fs3, hq3, f1, f2, f3⟩, hd3, hf3⟩, o3, k3⟩
      have er : rs.take (rs.map V.int).length = rs := by rw [List.length_map, List.take_length]
      rw [er] at hE hd3 hf3
      refine ⟨E, _, rfl, .inl ⟨SqL.of hE, fun aN nN => ?_⟩⟩
      have nq : q ∉ [aD, aF] := by simp [qD, qF]
      have hq3' : H3 q = some (.ins C_Tracing dx fs4) := k3 _ _ nq hq2
      have qN : q ≠ aN := ne_of_none hq3' nN
      refine ⟨_, rfl, q, C_Tracing, dx, fs4, rfl, by rw [upd_ne qN]; exact hq3', X.cl_Tracing, X.n_Tracing_numbers, by show 4 < _; decide, ?_⟩
      have two : ∀ c ∈ [aD, aF], ∃ o, H2 c = some o ∧ ∀ xs, o ≠ .tup xs := fun c hc => by
        rcases (by simpa using hc : c = aD ∨ c = aF) with rfl | rfl
        · exact ⟨_, hD2, by intro z e; cases e⟩
        · exact ⟨_, hF2, by intro z e; cases e⟩
      have tt3 := k3.tups2 two
      have fin : ∀ {c : Addr} {o : HO}, c ≠ q → H3 c = some o → (upd (upd H3 aN (.tup (rs.map fun x => V.int (num (visits [] rs) x)))) q (.ins C_Tracing dx (TrF ⟨dx, D, aD, aF, aT, aN⟩))) c = some o := fun h e => by
        rw [upd_ne h, upd_ne (ne_of_none e nN)]; exact e
      have tq : ∀ {c : Addr} {xs : List V}, H3 c = some (.tup xs) → c ≠ q := fun e z => by rw [z, hq3'] at e; cases e
      refine g ⟨dx, D, aD, aF, aT, aN⟩ _ ⟨upd_same, ⟨ls, ?_, by rw [ll, hl], fun j r c e1 e2 => ?_⟩, fin qD.symm hd3, fin qF.symm hf3, ⟨[], fin qT.symm ?_, .nil⟩, ?_, ⟨FT, LD, LT⟩⟩ (s1.free nD2) (s1.free nF) (s1.free nT) ?_
      · refine fin (fun z => ?_) (k3 _ _ (fun z => ?_) hDl2)
        · have z : D = q := z
          rw [z, hq2] at hDl2; cases hDl2
        · rcases (by simpa using z : D = aD ∨ D = aF) with e | e
          · rw [e, hD2] at hDl2; cases hDl2
          · exact LD e
      · have h5 := tt3 _ _ (tt2 _ _ (hls j r c e1 e2))
        exact fin (tq h5) h5
      · exact k3 _ _ (by simp [DT.symm, FT.symm]) hT2
      · refine .tup (xs := rs.map fun x => V.int (num (visits [] rs) x)) (by rw [upd_ne qN.symm]; exact upd_same) (by rw [List.length_map]; exact hbl) ?_
        have := ints_dv (H := upd (upd H3 aN (.tup (rs.map fun x => V.int (num (visits [] rs) x)))) q (.ins C_Tracing dx (TrF ⟨dx, D, aD, aF, aT, aN⟩))) (xs := rs.map (num (visits [] rs)))
        rw [List.map_map] at this
        exact this
      · intro c o nc e
        have hc : c ≠ q := fun z => nc (by simp [z])
        have e1 := k2 _ _ nc (s1 _ _ e)
        refine fin hc (k3 _ _ (fun z => ?_) e1)
        rcases (by simpa using z : c = aD ∨ c = aF) with z | z
        · exact ne_of_none e (s1.free nD2) z
        · exact ne_of_none e (s1.free nF) z
def spTraced (CT CP : Addr) : Sp := fun vs H Q _ => ∃ (p : Addr) (v : V) (rs : List Int) (a : Pa) (sh : List (List Bool)) (T : List Thing), vs = [.ref p, v] ∧ PhAt CP H p a sh T ∧ OkW sh T ∧ Dv H v (inPy rs) ∧ rootsOk T.length rs ∧
  ∀ (q : Addr) (t : Ta) (H' : Hp), Same H H' → TrAt CT H' q t sh (reach sh T rs) ((reach sh T rs).map (gth sh T (reach sh T rs))) (rs.map (num (reach sh T rs))) → Q (.ref q) H'
theorem ok_traced {f : Addr} {fd : FuncData} (G : Md K C_PlainHeap "traced" "PlainHeap.traced" s_PlainHeap_traced ["self", "roots"] f fd) (X : Lw K mg C_Tracing C_PlainHeap) : FnOk P w K mg base CX0 4 f fd ["self", "roots"] (spTraced C_Tracing C_PlainHeap) := by
  obtain ⟨f_Tracing_waits, d_Tracing_waits, M_Tracing_waits⟩ := X.m_Tracing_waits
  have H_Tracing_waits : FnOk P w K mg base CX0 1 f_Tracing_waits d_Tracing_waits ["self"] (spWaits C_Tracing) := ok_waits M_Tracing_waits X
  obtain ⟨f_Tracing_tell, d_Tracing_tell, M_Tracing_tell⟩ := X.m_Tracing_tell
  have H_Tracing_tell : FnOk P w K mg base CX0 2 f_Tracing_tell d_Tracing_tell ["self", "kind", "body"] (spTell C_Tracing) := ok_tell M_Tracing_tell X
  obtain ⟨f_Tracing_first_untold, d_Tracing_first_untold, M_Tracing_first_untold⟩ := X.m_Tracing_first_untold
  have H_Tracing_first_untold : FnOk P w K mg base CX0 1 f_Tracing_first_untold d_Tracing_first_untold ["self"] (spFirst C_Tracing) := ok_first M_Tracing_first_untold X
  obtain ⟨f_Tracing___init__, d_Tracing___init__, K_Tracing, F_Tracing___init__, b_Tracing___init__⟩ := X.i_Tracing
  have H_Tracing___init__ : FnOk P w K mg base CX0 2 f_Tracing___init__ d_Tracing___init__ ["self", "shapes", "roots"] (spTinit C_Tracing) := ok_tinit F_Tracing___init__ X
  refine G.F.ok sc_PlainHeap_traced (fun vs H Q E h => ?_) (fun cdv A outer s H vs Q E hr h => ?_)
  · obtain ⟨p, v, rs, a, sh, T, rfl, _⟩ := h; rfl
  · obtain ⟨p, v, rs, a, sh, T, rfl, hp, W, hv, hr2, g⟩ := h
    refine ⟨_, (pss_cons (ps_set (i := 2) sc_PlainHeap_traced.nd rfl (Or.inl rfl) (pe_make K_Tracing H_Tracing___init__ (hr.mono (by decide)) (by rfl) X.g_Tracing b_Tracing___init__ .nil pass0 (pa_cons (pe_fld (pv 0) rfl) (pa_cons (pv 1) pa_nil))))
      (pss_cons (ps_while PassesOwn.never (pt_val (pe_meth0 (pv 2) X.cl_Tracing M_Tracing_waits.m H_Tracing_waits (hr.mono (by decide)) M_Tracing_waits.b .nil pass0))
        (pss_cons (ps_set (i := 3) sc_PlainHeap_traced.nd rfl (Or.inl rfl) (pe_meth0 (pv 2) X.cl_Tracing M_Tracing_first_untold.m H_Tracing_first_untold (hr.mono (by decide)) M_Tracing_first_untold.b .nil pass0))
      (pss_one (ps_expr (pe_meth (pv 2) X.cl_Tracing M_Tracing_tell.m H_Tracing_tell (hr.mono (by decide)) M_Tracing_tell.b .nil pass0 (pa_cons (pe_ix ix_list (pe_fld (pv 0) rfl) (pe_op op_sub (pv 3) pe_int) (fun _ _ => rfl)) (pa_cons (pe_ix ix_list (pe_fld (pv 0) rfl) (pe_op op_sub (pv 3) pe_int) (fun _ _ => rfl)) pa_nil)))))))
      (pss_one (ps_ret (pv 2))))), ?_⟩
    have hl := W.t1
    obtain ⟨u, rfl, hu, hul⟩ := inPy_at hv
    refine ⟨_, rfl, p, C_PlainHeap, a.dx, PhF a, .ref a.aS, rfl, hp.at_, X.cl_PlainHeap, X.n_PlainHeap_shapes, rfl, _, rfl, fun q dq nq ndq ne => ?_⟩
    have S1 : Same H (upd (upd H dq (.own q)) q (.ins C_Tracing dq [])) := same_at nq (same_new ndq)
    have hb := S1
    refine ⟨q, dq, .ref a.aS, .ref u, T.length, sh, rs, rfl, upd_same, hp.sh.same (TupSame.of S1), hv.same (TupSame.of S1), by have := W.s1; omega, W.s2, by omega, hr2, fun t H2 ht nD nF nT k2 => ⟨rfl, ?_⟩⟩
    have nD0 := S1.free nD
    have nF0 := S1.free nF
    have nT0 := S1.free nT
    have S2 : Same H H2 := fun c o e => k2 _ _ (by simpa using ne_of_none e nq) (S1 _ _ e)
    have fr : ∀ {c : Addr} {o : HO}, H c = some o → c ∉ [t.aD, t.aF, t.aT] := fun e z => by
      rcases (by simpa using z : _ = t.aD ∨ _ = t.aF ∨ _ = t.aT) with z | z | z
      · exact ne_of_none e nD0 z
      · exact ne_of_none e nF0 z
      · exact ne_of_none e nT0 z
    have O0 : OrdOk T.length (visits [] rs) := OrdOk.nil.visits hr2
    have hp3 : ∀ {H3 : Hp}, KeptL [t.aD, t.aF, t.aT] H2 H3 → Same H H3 := fun k c o e => k _ _ (fr e) (S2 _ _ e)
    refine ⟨fun m σ H3 => ∃ (k : Nat) (ord : List Int) (o3 : Option V), σ = [some (.ref p), some (.ref u), some (.ref q), o3] ∧ m = T.length + 1 - k ∧ k ≤ ord.length ∧ OrdOk T.length ord ∧ bfs sh T (T.length + 1 - k) k ord = reach sh T rs ∧
        (∀ (i : Nat) (a : Int), i < k → ord[i]? = some a → ∀ x ∈ refs sh (thing T a), x = 0 ∨ x ∈ ord) ∧ (∀ x ∈ rs, x = 0 ∨ x ∈ ord) ∧
        TrAt C_Tracing H3 q t sh ord ((ord.take k).map (gth sh T ord)) (rs.map (num ord)) ∧ KeptL [t.aD, t.aF, t.aT] H2 H3,
      ⟨_, 0, visits [] rs, none, rfl, rfl, Nat.zero_le _, O0, rfl, fun i a h => absurd h (Nat.not_lt_zero _), fun x hx => visits_mem hx, ht, fun _ _ _ e => e⟩, ?_⟩
    rintro m σ H3 ⟨k, ord, o3, rfl, rfl, hk, ho, hb2, hc, hrs, ht3, k3⟩
    have lk : ((ord.take k).map (gth sh T ord)).length = k := by rw [List.length_map, List.length_take]; omega
    have hol := ho.len
    refine ⟨_, rfl, q, _, _, rfl, ht3.at_, trF_no rfl rfl rfl rfl rfl, q, t, sh, ord, _, _, rfl, ht3, _, rfl, ?_⟩
    rw [lk]
    by_cases hlt : k < ord.length
    · rw [decide_eq_true hlt]
      have ha : ord[k]? = some ord[k] := List.getElem?_eq_getElem hlt
      have har := ho.rg _ (List.getElem_mem hlt)
      obtain ⟨aa, eaa⟩ : ∃ aa, aa = ord[k] := ⟨_, rfl⟩
      rw [← eaa] at ha har
      have s3 := hp3 k3
      have hp' := hp.same s3
      have hth := thing_mem har
      have hmem : thing T aa ∈ T := List.mem_of_getElem? hth
      obtain ⟨b, eb, hbb⟩ := hp'.bod hth
      refine iteT ⟨fun σ' H' => ∃ (k' : Nat) (ord' : List Int) (o3 : Option V), σ' = [some (.ref p), some (.ref u), some (.ref q), o3] ∧ k' = k + 1 ∧ k' ≤ ord'.length ∧ OrdOk T.length ord' ∧ bfs sh T (T.length + 1 - k') k' ord' = reach sh T rs ∧
        (∀ (i : Nat) (a : Int), i < k' → ord'[i]? = some a → ∀ x ∈ refs sh (thing T a), x = 0 ∨ x ∈ ord') ∧ (∀ x ∈ rs, x = 0 ∨ x ∈ ord') ∧
        TrAt C_Tracing H' q t sh ord' ((ord'.take k').map (gth sh T ord')) (rs.map (num ord')) ∧ KeptL [t.aD, t.aF, t.aT] H2 H', ?_, ?_⟩
      · rintro σ' H' ⟨k', ord', o3', rfl, rfl, h1, h2, h3, h4, h5, h6, h7⟩
        exact ⟨_, by omega, k + 1, ord', o3', rfl, rfl, h1, h2, h3, h4, h5, h6, h7⟩
      refine ⟨_, rfl, q, _, _, rfl, ht3.at_, trF_no rfl rfl rfl rfl rfl, q, t, sh, ord, _, _, aa, rfl, ht3, by rw [lk]; exact ha, ?_⟩
      refine ⟨_, rfl, q, _, _, rfl, ht3.at_, trF_no rfl rfl rfl rfl rfl, ?_⟩
      refine ⟨_, rfl, p, C_PlainHeap, a.dx, PhF a, .ref a.aK, rfl, hp'.at_, X.cl_PlainHeap, X.n_PlainHeap_kinds, rfl, ?_⟩
      refine ⟨_, rfl, _, _, rfl, rfl, a.aK, _, ((aa - 1).toNat : Int), .int (thing T aa).1, rfl, by show V.int _ = V.int _; congr 1; omega, SqL.of hp'.kinds, atI_nat (by rw [List.getElem?_map, hth]; rfl), ?_⟩
      refine ⟨_, rfl, p, C_PlainHeap, a.dx, PhF a, .ref a.aB, rfl, hp'.at_, X.cl_PlainHeap, X.n_PlainHeap_bodies, rfl, ?_⟩
      refine ⟨_, rfl, _, _, rfl, rfl, a.aB, _, ((aa - 1).toNat : Int), .ref b, rfl, by show V.int _ = V.int _; congr 1; omega, SqL.of hp'.bodies, atI_nat (by rw [List.getElem?_map, eb]; rfl), ?_⟩
      refine ⟨q, b, thing T aa, T.length, t, sh, ord, _, _, rfl, ht3, hbb, W.z _ hmem, ho, by omega, refs_rg W har, by rw [lk]; omega, fun H4 ht4 k4 => ?_⟩
      obtain ⟨mm, em⟩ := visits_pre (refs sh (thing T aa)) ord
      have hcw : ∀ x ∈ refs sh (thing T aa), x = 0 ∨ x ∈ visits ord (refs sh (thing T aa)) := fun x hx => visits_mem hx
      refine ⟨k + 1, visits ord (refs sh (thing T aa)), _, rfl, rfl, ?_, ho.visits (refs_rg W har), ?_, ?_, ?_, ?_, fun c o nc e => k4 _ _ nc (k3 _ _ nc e)⟩
      · rw [em, List.length_append]
        omega
      · rw [← hb2, show T.length + 1 - k = (T.length + 1 - (k + 1)) + 1 by omega, bfs_step ha]
      · intro i c hi hc2 x hx
        by_cases e : i = k
        · subst e
          rw [em, List.getElem?_append_left hlt, ha] at hc2
          cases hc2
          exact hcw x hx
        · have hi2 : i < ord.length := by omega
          rw [em, List.getElem?_append_left hi2] at hc2
          rw [em]
          exact mem_pre (hc i c (by omega) hc2 x hx)
      · intro x hx
        rw [em]
        exact mem_pre (hrs x hx)
      · have e1 : rs.map (num (visits ord (refs sh (thing T aa)))) = rs.map (num ord) := List.map_congr_left fun x hx => by rw [em]; exact num_pre (hrs x hx)
        have e2 : ((visits ord (refs sh (thing T aa))).take (k + 1)).map (gth sh T (visits ord (refs sh (thing T aa)))) = (ord.take k).map (gth sh T ord) ++ [gth sh T (visits ord (refs sh (thing T aa))) aa] := by
          have e3 : (visits ord (refs sh (thing T aa))).take (k + 1) = ord.take k ++ [aa] := by
            rw [em, List.take_append_of_le_length (by omega), List.take_add_one, ha]
            rfl
          rw [e3, List.map_append]
          congr 1
          refine List.map_congr_left fun x hx => ?_
          obtain ⟨i, hi, ei⟩ := List.getElem_of_mem hx
          rw [List.length_take] at hi
          rw [em]
          refine gth_pre (hc i x (by omega) ?_)
          rw [List.getElem_take] at ei
          rw [List.getElem?_eq_getElem (by omega), ei]
        rw [e1, e2]
        exact ht4
    · have hke : k = ord.length := by omega
      have he : decide (k < ord.length) = false := decide_eq_false hlt
      rw [he]
      refine iteF ?_
      have er : ord = reach sh T rs := by
        rw [← hb2, show T.length + 1 - k = (T.length - k) + 1 by omega, bfs_end (by omega)]
      subst er
      rw [hke, List.take_length] at ht3
      exact ⟨_, rfl, g q t H3 (hp3 k3) ht3⟩
def spGraph (CP : Addr) : Sp := fun vs H Q _ => ∃ (p : Addr) (v : V) (rs : List Int) (a : Pa) (sh : List (List Bool)) (T : List Thing), vs = [.ref p, v] ∧ PhAt CP H p a sh T ∧ OkW sh T ∧ Dv H v (inPy rs) ∧ rootsOk T.length rs ∧
  ∀ (u : V) (H' : Hp), Same H H' → Dv H' u (gPy sh T rs) → Q u H'
theorem reach_ok {sh : List (List Bool)} {T : List Thing} {rs : List Int} (W : OkW sh T) (hr : rootsOk T.length rs) : OrdOk T.length (reach sh T rs) := by
  have go : ∀ (n k : Nat) (ord : List Int), OrdOk T.length ord → OrdOk T.length (bfs sh T n k ord) := by
    intro n
    induction n with
    | zero => exact fun k ord h => h
    | succ n ih =>
      intro k ord h
      show OrdOk T.length (match ord[k]? with | none => ord | some a => bfs sh T n (k + 1) (visits ord (refs sh (thing T a))))
      cases e : ord[k]? with
      | none => exact h
      | some a => exact ih _ _ (h.visits (refs_rg W (h.rg _ (List.mem_of_getElem? e))))
  exact go _ _ _ (OrdOk.nil.visits hr)
theorem ok_graph {f : Addr} {fd : FuncData} (G : Md K C_PlainHeap "graph" "PlainHeap.graph" s_PlainHeap_graph ["self", "roots"] f fd) (X : Lw K mg C_Tracing C_PlainHeap) : FnOk P w K mg base CX0 5 f fd ["self", "roots"] (spGraph C_PlainHeap) := by
  obtain ⟨f_Tracing_graph, d_Tracing_graph, M_Tracing_graph⟩ := X.m_Tracing_graph
  have H_Tracing_graph : FnOk P w K mg base CX0 1 f_Tracing_graph d_Tracing_graph ["self"] (spTgraph C_Tracing) := ok_tgraph M_Tracing_graph X
  obtain ⟨f_PlainHeap_traced, d_PlainHeap_traced, M_PlainHeap_traced⟩ := X.m_PlainHeap_traced
  have H_PlainHeap_traced : FnOk P w K mg base CX0 4 f_PlainHeap_traced d_PlainHeap_traced ["self", "roots"] (spTraced C_Tracing C_PlainHeap) := ok_traced M_PlainHeap_traced X
  obtain ⟨f_PlainHeap_look_at, d_PlainHeap_look_at, M_PlainHeap_look_at⟩ := X.m_PlainHeap_look_at
  have H_PlainHeap_look_at : FnOk P w K mg base CX0 4 f_PlainHeap_look_at d_PlainHeap_look_at ["self", "roots"] (spLat C_PlainHeap) := ok_lat M_PlainHeap_look_at X
  refine G.F.ok sc_PlainHeap_graph (fun vs H Q E h => ?_) (fun cdv A outer s H vs Q E hr h => ?_)
  · obtain ⟨p, v, rs, a, sh, T, rfl, _⟩ := h; rfl
  · obtain ⟨p, v, rs, a, sh, T, rfl, hp, W, hv, hr2, g⟩ := h
    refine ⟨_, (pss_cons (ps_expr (pe_meth (pv 0) X.cl_PlainHeap M_PlainHeap_look_at.m H_PlainHeap_look_at hr M_PlainHeap_look_at.b .nil pass0 (pa_cons (pv 1) pa_nil)))
      (pss_one (ps_ret (pe_meth0 (pe_meth (pv 0) X.cl_PlainHeap M_PlainHeap_traced.m H_PlainHeap_traced hr M_PlainHeap_traced.b .nil pass0 (pa_cons (pv 1) pa_nil)) X.cl_Tracing M_Tracing_graph.m H_Tracing_graph (hr.mono (by decide)) M_Tracing_graph.b .nil pass0)))), ?_⟩
    have hl := (reach_ok W hr2).len
    have hT := W.t1
    refine ⟨_, rfl, p, _, _, rfl, hp.at_, phF_no rfl rfl rfl, _, rfl, p, v, rs, a, sh, T, rfl, hv, hr2, hp, ?_⟩
    refine ⟨_, rfl, p, _, _, rfl, hp.at_, phF_no rfl rfl rfl, _, rfl, p, v, rs, a, sh, T, rfl, hp, W, hv, hr2, fun q t H1 S1 ht => ?_⟩
    exact ⟨q, _, _, rfl, ht.at_, trF_no rfl rfl rfl rfl rfl, q, t, sh, _, _, _, rfl, ht, by rw [List.length_map]; omega, fun u H2 S2 hu => g u H2 (S1.trans S2) hu⟩
def spUnr (CP : Addr) : Sp := fun vs H Q _ => ∃ (p : Addr) (v : V) (rs : List Int) (a : Pa) (sh : List (List Bool)) (T : List Thing), vs = [.ref p, v] ∧ PhAt CP H p a sh T ∧ OkW sh T ∧ Dv H v (inPy rs) ∧ rootsOk T.length rs ∧
  ∀ (H' : Hp), Same H H' → Q (.int ((T.length : Int) - (reach sh T rs).length)) H'
theorem ok_unr {f : Addr} {fd : FuncData} (G : Md K C_PlainHeap "unreached" "PlainHeap.unreached" s_PlainHeap_unreached ["self", "roots"] f fd) (X : Lw K mg C_Tracing C_PlainHeap) : FnOk P w K mg base CX0 5 f fd ["self", "roots"] (spUnr C_PlainHeap) := by
  obtain ⟨f_Tracing_many, d_Tracing_many, M_Tracing_many⟩ := X.m_Tracing_many
  have H_Tracing_many : FnOk P w K mg base CX0 1 f_Tracing_many d_Tracing_many ["self"] (spMany C_Tracing) := ok_many M_Tracing_many X
  obtain ⟨f_PlainHeap_traced, d_PlainHeap_traced, M_PlainHeap_traced⟩ := X.m_PlainHeap_traced
  have H_PlainHeap_traced : FnOk P w K mg base CX0 4 f_PlainHeap_traced d_PlainHeap_traced ["self", "roots"] (spTraced C_Tracing C_PlainHeap) := ok_traced M_PlainHeap_traced X
  obtain ⟨f_PlainHeap_look_at, d_PlainHeap_look_at, M_PlainHeap_look_at⟩ := X.m_PlainHeap_look_at
  have H_PlainHeap_look_at : FnOk P w K mg base CX0 4 f_PlainHeap_look_at d_PlainHeap_look_at ["self", "roots"] (spLat C_PlainHeap) := ok_lat M_PlainHeap_look_at X
  refine G.F.ok sc_PlainHeap_unreached (fun vs H Q E h => ?_) (fun cdv A outer s H vs Q E hr h => ?_)
  · obtain ⟨p, v, rs, a, sh, T, rfl, _⟩ := h; rfl
  · obtain ⟨p, v, rs, a, sh, T, rfl, hp, W, hv, hr2, g⟩ := h
    refine ⟨_, (pss_cons (ps_expr (pe_meth (pv 0) X.cl_PlainHeap M_PlainHeap_look_at.m H_PlainHeap_look_at hr M_PlainHeap_look_at.b .nil pass0 (pa_cons (pv 1) pa_nil)))
      (pss_one (ps_ret (pe_op op_sub (pe_callB call_len (by rfl) X.b_len PySem.boot_len (pa_cons (pe_fld (pv 0) rfl) pa_nil)) (pe_meth0 (pe_meth (pv 0) X.cl_PlainHeap M_PlainHeap_traced.m H_PlainHeap_traced hr M_PlainHeap_traced.b .nil pass0 (pa_cons (pv 1) pa_nil)) X.cl_Tracing M_Tracing_many.m H_Tracing_many (hr.mono (by decide)) M_Tracing_many.b .nil pass0))))), ?_⟩
    refine ⟨_, rfl, p, _, _, rfl, hp.at_, phF_no rfl rfl rfl, _, rfl, p, v, rs, a, sh, T, rfl, hv, hr2, hp, ?_⟩
    refine ⟨_, rfl, p, C_PlainHeap, a.dx, PhF a, .ref a.aB, rfl, hp.at_, X.cl_PlainHeap, X.n_PlainHeap_bodies, rfl, .ref a.aB, T.length, rfl, .inl ⟨_, SqL.of hp.bodies, by rw [List.length_map, hp.len]⟩, ?_⟩
    refine ⟨_, rfl, p, _, _, rfl, hp.at_, phF_no rfl rfl rfl, _, rfl, p, v, rs, a, sh, T, rfl, hp, W, hv, hr2, fun q t H1 S1 ht => ?_⟩
    exact ⟨q, _, _, rfl, ht.at_, trF_no rfl rfl rfl rfl rfl, q, t, sh, _, _, _, rfl, ht, _, _, rfl, rfl, g H1 S1⟩
end
end PH

/-! What the law draws. -/
namespace PH
open PySem PySem.Spec PyProof.Rows L2 KA KI KK PV T ET
theorem keptL_of {p : Addr} {H H' : Hp} (b : But p H H') : KeptL [p] H H' := fun c o n h => (b c (by simpa using n)).trans h
theorem feedL {H : Hp} {p q : Addr} {n : Nat} {o : HO} (hF : FeedAt H p n) (h : H q = none) : FeedAt (upd H q o) p n := feed_new hF h
theorem feedS {H H' : Hp} {p : Addr} {n : Nat} (hF : FeedAt H p n) (s : Same H H') : FeedAt H' p n := by
  obtain ⟨a, b, c, e, r⟩ := hF
  exact ⟨a, b, c, s _ _ e, r⟩
theorem feed_tups {H H' : Hp} {p : Addr} {n : Nat} (k : KeptL [p] H H') (hF : FeedAt H p n) : TupSame H H' := k.tups fun b hb => by
  obtain ⟨x, y, z, e, _⟩ := hF
  have : b = p := by simpa using hb
  subst this
  exact ⟨_, e⟩
theorem kept_new {l : List Addr} {H H1 : Hp} {q : Addr} {o : HO} (k : KeptL l H H1) (h : H1 q = none) : KeptL l H (upd H1 q o) := k.trans (KeptL.of_same (same_new h))
theorem feed_at2 {H : Hp} {p L : Addr} {n : Nat} {o : HO} (hF : FeedAt H p n) (h : L ≠ p) : FeedAt (upd H L o) p n := by
  obtain ⟨a, b, c, e, r⟩ := hF
  exact ⟨a, b, c, by rw [upd_ne h.symm]; exact e, r⟩
theorem kept_at {l : List Addr} {H H1 : Hp} {q : Addr} {o : HO} (k : KeptL l H H1) (h : H q = none) : KeptL l H (upd H1 q o) := fun b u nb e => by
  rw [upd_ne (ne_of_none e h)]
  exact k b u nb e
theorem feed_mono {H : Hp} {p : Addr} {n m : Nat} (h : FeedAt H p n) (l : n ≤ m) : FeedAt H p m := by
  obtain ⟨a, b, c, e, h1, h2, h3, h4, h5⟩ := h
  exact ⟨a, b, c, e, h1, h2, h3, h4, by omega⟩
theorem kl_free {p a : Addr} {H H' : Hp} {m : Nat} (k : KeptL [p] H H') (hF : FeedAt H' p m) (h : H' a = none) : H a = none := by
  cases e : H a with
  | none => rfl
  | some o =>
    rw [k a o (by simpa using feed_ne hF h) e] at h
    cases h
section
variable {P : Program} {w : World} {K : PySem.W.Frag} {mg : Str → Option Value} {base : Heap} {C_Tracing C_PlainHeap : Addr}
def spDk : Sp := fun vs H Q _ => ∃ (p : Addr) (m : Int) (n : Nat), vs = [.ref p, .int m] ∧ FeedAt H p n ∧ n ≤ 2 ^ 60 ∧ 0 < m ∧ m < 2 ^ 40 ∧ ∀ (r : Int) (H' : Hp), 0 ≤ r → r < m → KeptL [p] H H' → FeedAt H' p (n + 1) → Q (.int r) H'
theorem ok_drw {f : Addr} {fd : FuncData} (G : Gd K mg "_law_draw" s_law_draw ["_law_feed_here", "_law_many"] f fd) (X : Lw K mg C_Tracing C_PlainHeap) : FnOk P w K mg base CX0 1 f fd ["_law_feed_here", "_law_many"] (spDk) := by
  refine (ok_draw G.F X.b_int).imp fun vs H Q E h => ?_
  obtain ⟨p, m, n, e, h1, h2, h3, h4, q⟩ := h
  exact ⟨p, m, n, e, h1, h2, h3, h4, fun r H' a b c d => q r H' a b (keptL_of c) d⟩
def spOl : Sp := fun vs H Q _ => ∃ (p L : Addr) (xs : List V) (n : Nat), vs = [.ref p, .ref L] ∧ FeedAt H p n ∧ n ≤ 2 ^ 60 ∧ H L = some (.lst xs) ∧ L ≠ p ∧ 0 < xs.length ∧ xs.length < 2 ^ 30 ∧ ∀ (x : V) (H' : Hp), x ∈ xs → KeptL [p] H H' → FeedAt H' p (n + 1) → Q x H'
theorem ok_oneL {f : Addr} {fd : FuncData} (G : Gd K mg "_law_one" s_law_one ["_law_feed_here", "_law_things"] f fd) (X : Lw K mg C_Tracing C_PlainHeap) : FnOk P w K mg base CX0 2 f fd ["_law_feed_here", "_law_things"] (spOl) := by
  obtain ⟨f_d, d_d, G_d⟩ := X.f__law_draw
  refine (ok_one G.F G_d.F G_d.b G_d.g X.b_int X.b_len).imp fun vs H Q E h => ?_
  obtain ⟨p, L, xs, n, e, h1, h2, hL, hne, h3, h4, q⟩ := h
  exact ⟨p, n, h1, h2, .inl ⟨L, xs, e, hne, SqL.of hL, h3, h4, fun x H' hx bt hF' => q x H' hx (keptL_of bt) hF'⟩⟩
theorem ok_fee {f : Addr} {fd : FuncData} (G : Gd K mg "_law_feed" s_law_feed ["_law_script", "_law_k"] f fd) (X : Lw K mg C_Tracing C_PlainHeap) : FnOk P w K mg base CX0 1 f fd ["_law_script", "_law_k"] (spFeed K) := by
  exact ok_feed G.F X.b_sum X.b_len X.b_max X.b_int
/-- one of a new list -/
theorem one_new {H : Hp} {p : Addr} {n : Nat} {xs : List V} {Q : VK} {E : XK} (hF : FeedAt H p n) (hn : n ≤ 2 ^ 60) (h0 : 0 < xs.length) (h1 : xs.length < 2 ^ 30) (k : ∀ (x : V) (H' : Hp), x ∈ xs → KeptL [p] H H' → FeedAt H' p (n + 1) → Q x H') :
    ∀ L : Addr, H L = none → spOl [.ref p, .ref L] (upd H L (.lst xs)) Q E := fun L nL =>
  ⟨p, L, xs, n, rfl, feed_new hF nL, hn, upd_same, feed_ne hF nL, h0, h1, fun x H' hx bt hF' => k x H' hx ((KeptL.of_same (same_new nL)).trans bt) hF'⟩
def spShapes : Sp := fun vs H Q _ => ∃ (p : Addr) (n : Nat), vs = [.ref p] ∧ FeedAt H p n ∧ n + 1000 ≤ 2 ^ 60 ∧ ∀ (v : V) (sh : List (List Bool)) (m : Nat) (H' : Hp), KeptL [p] H H' → FeedAt H' p m → m ≤ n + 1000 → Dv H' v (shPy sh) → 1 ≤ sh.length → sh.length ≤ 6 → (∀ r ∈ sh, r.length ≤ 100) → Q v H'
theorem ok_shapes {f : Addr} {fd : FuncData} (G : Gd K mg "_law_shapes" s_law_shapes ["_law_feed_here"] f fd) (X : Lw K mg C_Tracing C_PlainHeap) : FnOk P w K mg base CX0 2 f fd ["_law_feed_here"] (spShapes) := by
  obtain ⟨f__law_draw, d__law_draw, G__law_draw⟩ := X.f__law_draw
  have H__law_draw : FnOk P w K mg base CX0 1 f__law_draw d__law_draw ["_law_feed_here", "_law_many"] (spDk) := ok_drw G__law_draw X
  refine G.F.ok sc_law_shapes (fun vs H Q E h => ?_) (fun cdv A outer s H vs Q E hr h => ?_)
  · obtain ⟨p, n, rfl, _⟩ := h; rfl
  · obtain ⟨p, n, rfl, hF, hn, q⟩ := h
    refine ⟨_, (pss_cons (ps_par3 (i := 1) (j := 2) (l := 3) (by rfl) sc_law_shapes.nd rfl rfl rfl (by decide) (by decide) (by decide) rfl rfl rfl (pa_cons (pe_call H__law_draw hr (by rfl) G__law_draw.g G__law_draw.F.kp G__law_draw.b .nil pass0 (pa_cons (pv 0) (pa_cons pe_int pa_nil))) (pa_cons (pe_call H__law_draw hr (by rfl) G__law_draw.g G__law_draw.F.kp G__law_draw.b .nil pass0 (pa_cons (pv 0) (pa_cons pe_int pa_nil))) (pa_cons (pe_lst pa_nil) pa_nil))) (by rfl))
      (pss_cons (ps_for PassesOwn.never rfl (pi_range1 (by rfl) X.b_range (pa_cons (pe_op op_add (pe_op op_add pe_int (pe_call H__law_draw hr (by rfl) G__law_draw.g G__law_draw.F.kp G__law_draw.b .nil pass0 (pa_cons (pv 0) (pa_cons pe_int pa_nil)))) (pe_ifExp (pt_cmpR op_eq (pv 1) pe_int (nomark _)) pe_int pe_int)) pa_nil)) (pg_name (i := 4) sc_law_shapes.nd rfl (Or.inl rfl))
        (pss_cons (ps_set (i := 5) sc_law_shapes.nd rfl (Or.inl rfl) (pe_call H__law_draw hr (by rfl) G__law_draw.g G__law_draw.F.kp G__law_draw.b .nil pass0 (pa_cons (pv 0) (pa_cons pe_int pa_nil))))
      (C8.pss_cut (ps_if (PW.pt (pw_and (pt_cmpR op_eq (pv 4) (pv 2) (nomark _)) (pw_and1 (pt_cmpR op_lt (pv 1) pe_int (nomark _)))))
        (pss_one (ps_set (i := 5) sc_law_shapes.nd rfl (Or.inl rfl) (pe_op op_add pe_int (pe_call H__law_draw hr (by rfl) G__law_draw.g G__law_draw.F.kp G__law_draw.b .nil pass0 (pa_cons (pv 0) (pa_cons pe_int pa_nil)))))) pss_nil)
      (C8.pss_cut (ps_if (PW.pt (pw_and (pt_cmpR op_eq (pv 4) (pv 2) (nomark _)) (pw_and1 (pt_cmpR op_eq (pv 1) pe_int (nomark _)))))
        (pss_one (ps_set (i := 5) sc_law_shapes.nd rfl (Or.inl rfl) (pe_call H__law_draw hr (by rfl) G__law_draw.g G__law_draw.F.kp G__law_draw.b .nil pass0 (pa_cons (pv 0) (pa_cons pe_int pa_nil))))) pss_nil)
      (pss_one (ps_expr (pe_bm PySem.F.plainAttrs_list PySem.F.slot_list_append PySem.F.type_list_append mt_append (pv 3) (pa_cons (pe_callTy call_tuple_of (by rfl) X.b_tuple (by decide +kernel) (pa_cons (pe_lc (own := [("_law_field", 6)]) (g := (gName 6)) (tt := tYes) rfl sc_law_shapes.nd (pi_range1 (by rfl) X.b_range (pa_cons (pv 5) pa_nil)) (blkOk_by (own := [("_law_field", 6)]) (N := ["_law_feed_here", "_law_way", "_law_wide", "_law_shapes_here", "_law_turn", "_law_many", "_law_field"]) (sc := defScope s_law_shapes) (by decide +kernel)) (fun _ _ _ _ _ => (pg_name (i := 6) sc_law_shapes.nd rfl (Or.inl rfl))) (fun _ _ _ _ _ => pts_nil) (fun _ _ _ _ _ => (pe_cmpR op_eq (pe_call H__law_draw hr (by rfl) G__law_draw.g G__law_draw.F.kp G__law_draw.b .nil pass0 (pa_cons (pv 0) (pa_cons pe_int pa_nil))) pe_int (nomark _)))) pa_nil)) pa_nil))))))))
      (pss_one (ps_ret (pe_callTy call_tuple_of (by rfl) X.b_tuple (by decide +kernel) (pa_cons (pv 3) pa_nil)))))), ?_⟩
    refine ⟨_, rfl, p, 16, n, rfl, hF, by omega, by decide, by decide, fun way H1 w0 w1 k1 F1 => ?_⟩
    refine ⟨_, rfl, p, 2, n + 1, rfl, F1, by omega, by decide, by decide, fun wide H2 e0 e1 k2 F2 => ?_⟩
    refine ⟨by show 0 ≤ sizeLine; decide, fun S nS => ⟨_, _, _, rfl, ?_⟩⟩
    have k12 := k1.trans k2
    have nS0 := kl_free k12 F2 nS
    have Sp' : S ≠ p := feed_ne F2 nS
    have F3 := feed_at2 (o := .lst []) F2 Sp'
    have k3 := kept_at (q := S) (o := .lst []) k12 nS0
    refine ⟨_, rfl, p, 3, n + 2, rfl, F3, by omega, by decide, by decide, fun r H4 r0 r1 k4 F4 => ?_⟩
    refine ⟨_, _, rfl, rfl, _, rfl, rfl, _, rfl, ?_⟩
    have k34 := k3.trans k4
    have hS4 := k4 _ _ (show S ∉ [p] by simpa using Sp') (upd_same (H := H2) (a := S) (o := .lst []))
    have go : ∀ N : Int, 0 ≤ N → N ≤ 6 → 1 ≤ N → ∃ Pv : Nat → L2.St → Hp → Prop, Pv 0 [some (.ref p), some (.int way), some (.int wide), some (.ref S), none, none, none] H4 ∧
        (∀ i σ H5, Pv i σ H5 ↔ ∃ (o4 o5 o6 : Option V) (vs : List V) (sh : List (List Bool)), σ = [some (.ref p), some (.int way), some (.int wide), some (.ref S), o4, o5, o6] ∧ H5 S = some (.lst vs) ∧ DvAll H5 vs (sh.map fun r => .tuple (r.map .bool)) ∧ sh.length = i ∧ (∀ r ∈ sh, r.length ≤ 100) ∧ KeptL [p] H H5 ∧ FeedAt H5 p (n + 3 + 110 * i)) := fun N _ _ _ =>
      ⟨fun i σ H5 => _, ⟨none, none, none, [], [], rfl, hS4, .nil, rfl, (fun _ h => nomatch h), k34, F4⟩, fun _ _ _ => Iff.rfl⟩
    refine ite2 (fun e => ?_) (fun e => ?_)
    all_goals
      refine ⟨_, _, rfl, rfl, _, rfl, by omega, by omega, ?_⟩
      obtain ⟨Pv, p0, pi⟩ := go 1 (by decide) (by decide) (by decide)
      refine for_range (lo := 0) (n := (_ : Int).toNat) Pv p0 ?_ ?_
      · intro i σ H5 hi pv
        obtain ⟨o4, o5, o6, vs, sh, rfl, hS, hv, hl, hb, k5, F5⟩ := (pi i σ H5).mp pv
        have hi6 : i < 7 := by omega
        refine ⟨_, rfl, p, 5, _, rfl, F5, by omega, by decide, by decide, fun m H6 m0 m1 k6 F6 => ?_⟩
        -- between the tests: many is at most a hundred
        let Mid : Nat → L2.St → Hp → Prop := fun c0 σ' H' => ∃ (M : Int) (o6 : Option V), σ' = [some (.ref p), some (.int way), some (.int wide), some (.ref S), some (.int (0 + (i : Int))), some (.int M), o6] ∧ 0 ≤ M ∧ M ≤ 100 ∧ KeptL [p] H5 H' ∧ ∃ c, c ≤ c0 ∧ FeedAt H' p (n + 3 + 110 * i + c)
        refine ⟨Mid 2, ?_, fun σ7 H7 h7 => ⟨Mid 3, ?_, fun σ8 H8 h8 => ?_⟩⟩
        · refine ⟨_, rfl, _, rfl, rfl, _, rfl, ite2 (fun _ => ?_) (fun _ => ?_)⟩
          · refine ⟨_, rfl, _, _, rfl, rfl, _, rfl, ite2 (fun _ => ?_) (fun _ => ?_)⟩
            · refine ⟨_, rfl, p, 10, _, rfl, F6, by omega, by decide, by decide, fun y H7 y0 y1 k7 F7 => ?_⟩
              exact ⟨_, _, rfl, rfl, 5 + y, _, rfl, by omega, by omega, k6.trans k7, 2, by decide, F7⟩
            · exact ⟨m, _, rfl, m0, by omega, k6, 1, by decide, F6⟩
          · exact iteF ⟨m, _, rfl, m0, by omega, k6, 1, by decide, F6⟩
        · obtain ⟨M, o6', rfl, M0, M1, k7, c, hc, F7⟩ := h7
          have c1 : c + 1 ≤ 3 := by omega
          refine ⟨_, rfl, _, rfl, rfl, _, rfl, ite2 (fun _ => ?_) (fun _ => ?_)⟩
          · refine ⟨_, rfl, rfl, _, rfl, ite2 (fun _ => ?_) (fun _ => ?_)⟩
            · refine ⟨_, rfl, p, 100, _, rfl, F7, by omega, by decide, by decide, fun y H8 y0 y1 k8 F8 => ?_⟩
              exact ⟨y, _, rfl, y0, by omega, k7.trans k8, c + 1, c1, F8⟩
            · exact ⟨M, _, rfl, M0, M1, k7, c, by omega, F7⟩
          · exact iteF ⟨M, _, rfl, M0, M1, k7, c, by omega, F7⟩
        · obtain ⟨M, o6', rfl, M0, M1, k7, c, hc, F7⟩ := h8
          have hS8 := k7 _ _ (show S ∉ [p] by simpa using Sp') hS
          refine ⟨_, rfl, .inl ⟨rfl, _, SqL.of hS8⟩, _, rfl, M, rfl, by omega, by omega, fun D nD => ?_⟩
          have Dp : D ≠ p := feed_ne F7 nD
          have SD : S ≠ D := ne_of_none hS8 nD
          have nDH : H D = none := by
            have kk := k5.trans k7
            exact kl_free kk F7 nD
          refine lc_range (n := M.toNat) (lo := 0) (fun j H9 => ∃ bs : List Bool, H9 D = some (.lst (bs.map V.bl)) ∧ bs.length = j ∧ KeptL [p] H8 H9 ∧ FeedAt H9 p (n + 3 + 110 * i + c + j)) ⟨[], upd_same, rfl, kept_new (fun _ _ _ e => e) nD, feed_at2 F7 Dp⟩ ?_ ?_
          · rintro j H9 hj ⟨bs, hD, hl9, k9, F9⟩
            refine ⟨rfl, iteT (B := ∃ bs : List Bool, H9 D = some (.lst (bs.map V.bl)) ∧ bs.length = j + 1 ∧ KeptL [p] H8 H9 ∧ FeedAt H9 p (n + 3 + 110 * i + c + (j + 1))) ?_⟩
            refine ⟨_, rfl, p, 2, _, rfl, F9, by omega, by decide, by decide, fun x HA x0 x1 kA FA => ?_⟩
            have hDA := kA _ _ (by simpa using Dp) hD
            exact ⟨rfl, _, hDA, by rw [List.length_map]; exact small1000 (by omega), bs ++ [decide (V.int x = V.int 0)], by rw [upd_same]; simp, by simp [hl9], kept_at (k9.trans kA) nD, feed_at2 FA Dp⟩
          · rintro H9 ⟨bs, hD, hl9, k9, F9⟩
            have hS9 := k9 _ _ (show S ∉ [p] by simpa using Sp') hS8
            refine ⟨D, _, rfl, .inl ⟨SqL.of hD, fun t nt => ?_⟩⟩
            have St : S ≠ t := ne_of_none hS9 nt
            refine ⟨S, _, _, rfl, rfl, by rw [upd_ne St]; exact hS9, ?_, (pi _ _ _).mpr ⟨_, _, _, _, sh ++ [bs], rfl, upd_same, ?_, by simp [hl], fun r hr => ?_, ?_, ?_⟩⟩
            · have := hv.len
              rw [List.length_map] at this
              exact small1000 (by omega)
            · have t1 : TupSame H5 (upd (upd H9 t (.tup (bs.map V.bl))) S (.lst (vs ++ [.ref t]))) := fun b xs e => by
                have e1 := feed_tups k9 F7 _ _ (feed_tups k7 F5 _ _ e)
                rw [upd_ne (ne_of e1 hS9 (by intro z; cases z)), upd_ne (ne_of_none e1 nt)]
                exact e1
              rw [List.map_append]
              exact (hv.same t1).app (.cons (.tup (xs := bs.map V.bl) (by rw [upd_ne St.symm]; exact upd_same) (by rw [List.length_map]; omega) bools_dv) .nil)
            · rcases List.mem_append.mp hr with hr | hr
              · exact hb r hr
              · have : r = bs := by simpa using hr
                subst this
                omega
            · intro b o nb e
              rw [upd_ne (ne_of_none e nS0)]
              exact kept_new (k5.trans (k7.trans k9)) nt b o nb e
            · exact feed_mono (feed_at2 (feedL F9 nt) Sp') (by omega)
      · intro σ H5 pv
        obtain ⟨o4, o5, o6, vs, sh, rfl, hS, hv, hl, hb, k5, F5⟩ := (pi _ σ H5).mp pv
        refine ⟨_, rfl, S, vs, rfl, .inl ⟨SqL.of hS, fun t nt => ?_⟩⟩
        have hvl := hv.len
        rw [List.length_map] at hvl
        exact q _ sh _ _ (kept_new k5 nt) (feedL F5 nt) (by omega) (.tup (xs := vs) upd_same (by omega) (hv.same (TupSame.of (same_new nt)))) (by omega) (by omega) hb
def spKinds : Sp := fun vs H Q _ => ∃ (v : V) (sh : List (List Bool)), vs = [v] ∧ Dv H v (shPy sh) ∧ sh.length ≤ 6 ∧ ∀ (l : Addr) (ks : List Int) (H' : Hp), H l = none → Same H H' → H' l = some (.lst (ks.map V.int)) → 0 < ks.length → ks.length ≤ 9 → (∀ k ∈ ks, -3 ≤ k ∧ k < sh.length) → Q (.ref l) H'
theorem ok_kinds {f : Addr} {fd : FuncData} (G : Gd K mg "_law_kinds_of" s_law_kinds_of ["_law_shapes_here"] f fd) (X : Lw K mg C_Tracing C_PlainHeap) : FnOk P w K mg base CX0 1 f fd ["_law_shapes_here"] (spKinds) := by

  refine G.F.ok sc_law_kinds_of (fun vs H Q E h => ?_) (fun cdv A outer s H vs Q E hr h => ?_)
  · obtain ⟨v, sh, rfl, _⟩ := h; rfl
  · obtain ⟨v, sh, rfl, hv, h1, q⟩ := h
    obtain ⟨a, vs, rfl, ha, hl, he⟩ := shPy_at hv
    refine ⟨_, (pss_one (ps_ret (pe_op op_cat (pe_listRg rfl (by rfl) X.b_list (prg_1 (by rfl) X.b_range (pe_callB call_len (by rfl) X.b_len PySem.boot_len (pa_cons (pv 0) pa_nil)))) (pe_lst (pa_cons (pe_un un_neg pe_int) (pa_cons (pe_un un_neg pe_int) (pa_cons (pe_un un_neg pe_int) pa_nil))))))), ?_⟩
    refine ⟨_, rfl, .ref a, vs.length, rfl, .inr ⟨_, SqT.of ha, rfl⟩, _, rfl, ⟨by decide, by decide, by omega, by omega, by omega⟩, fun l1 n1 => ?_⟩
    refine ⟨_, rfl, _, rfl, _, rfl, by show 3 ≤ sizeLine; decide, fun l2 n2 => ?_⟩
    have l12 : l1 ≠ l2 := ne_of_none upd_same n2
    refine ⟨l1, l2, _, _, rfl, rfl, by rw [upd_ne l12]; exact upd_same, upd_same, ?_, fun l3 n3 => ?_⟩
    · unfold rgV
      rw [List.length_map, List.length_range]
      exact Nat.le_of_lt (small1000 (by show ((vs.length : Int) - 0).toNat + 3 ≤ 1000; omega))
    have n2' : H l2 = none := by rw [upd_ne l12.symm] at n2; exact n2
    have l23 : l2 ≠ l3 := ne_of_none upd_same n3
    rw [upd_ne l23.symm] at n3
    have l13 : l1 ≠ l3 := ne_of_none upd_same n3
    rw [upd_ne l13.symm] at n3
    refine q l3 ((List.range vs.length).map (fun i : Nat => (i : Int)) ++ [-1, -2, -3]) _ n3 (same_at n3 (same_at n2' (same_new n1))) ?_ (by simp) ?_ ?_
    · rw [upd_same]
      unfold rgV
      rw [show ((vs.length : Int) - 0).toNat = vs.length by omega, List.map_append, List.map_map]
      congr 3
      refine List.map_congr_left fun i _ => ?_
      show V.int (0 + (i : Int)) = V.int (i : Int)
      rw [Int.zero_add]
    · simp
      omega
    · intro k hk
      rcases List.mem_append.mp hk with hk | hk
      · obtain ⟨i, hi, rfl⟩ := List.mem_map.mp hk
        have := List.mem_range.mp hi
        omega
      · rcases (by simpa using hk : k = -1 ∨ k = -2 ∨ k = -3) with rfl | rfl | rfl <;> omega
def spWorth : Sp := fun vs H Q _ => ∃ (p : Addr) (n : Nat), vs = [.ref p] ∧ FeedAt H p n ∧ n + 2 ≤ 2 ^ 60 ∧ ∀ (x : Int) (H' : Hp), -2147483648 ≤ x → x ≤ 2147483647 → KeptL [p] H H' → FeedAt H' p (n + 2) → Q (.int x) H'
theorem ok_worth {f : Addr} {fd : FuncData} (G : Gd K mg "_law_worth" s_law_worth ["_law_feed_here"] f fd) (X : Lw K mg C_Tracing C_PlainHeap) : FnOk P w K mg base CX0 3 f fd ["_law_feed_here"] (spWorth) := by
  obtain ⟨f__law_one, d__law_one, G__law_one⟩ := X.f__law_one
  have H__law_one : FnOk P w K mg base CX0 2 f__law_one d__law_one ["_law_feed_here", "_law_things"] (spOl) := ok_oneL G__law_one X
  obtain ⟨f__law_draw, d__law_draw, G__law_draw⟩ := X.f__law_draw
  have H__law_draw : FnOk P w K mg base CX0 1 f__law_draw d__law_draw ["_law_feed_here", "_law_many"] (spDk) := ok_drw G__law_draw X
  refine G.F.ok sc_law_worth (fun vs H Q E h => ?_) (fun cdv A outer s H vs Q E hr h => ?_)
  · obtain ⟨p, n, rfl, _⟩ := h; rfl
  · obtain ⟨p, n, rfl, hF, hn, q⟩ := h
    refine ⟨_, (pss_one (ps_ret (pe_call H__law_one hr (by rfl) G__law_one.g G__law_one.F.kp G__law_one.b .nil pass0 (pa_cons (pv 0) (pa_cons (pe_lst (pa_cons pe_int (pa_cons pe_int (pa_cons (pe_un un_neg pe_int) (pa_cons (pe_op op_sub (pe_op op_pow pe_int pe_int) pe_int) (pa_cons (pe_un un_neg (pe_op op_pow pe_int pe_int)) (pa_cons pe_int (pa_cons (pe_op op_sub (pe_call H__law_draw (hr.mono (by decide)) (by rfl) G__law_draw.g G__law_draw.F.kp G__law_draw.b .nil pass0 (pa_cons (pv 0) (pa_cons (pe_op op_pow pe_int pe_int) pa_nil))) (pe_op op_pow pe_int pe_int)) pa_nil)))))))) pa_nil))))), ?_⟩
    refine ⟨_, rfl, _, rfl, _, _, rfl, rfl, ⟨by decide, by decide, by decide⟩, _, _, rfl, rfl, _, _, rfl, rfl, ⟨by decide, by decide, by decide⟩, _, rfl, ?_⟩
    refine ⟨_, rfl, _, _, rfl, rfl, ⟨by decide, by decide, by decide⟩, p, _, n, rfl, hF, by omega, by decide +kernel, by decide +kernel, fun r H1 r0 r1 k1 F1 => ?_⟩
    refine ⟨_, _, rfl, rfl, ⟨by decide, by decide, by decide⟩, _, _, rfl, rfl, by show 7 ≤ sizeLine; decide, fun L nL => ?_⟩
    refine one_new (E := E0) F1 (by omega) (by simp) (by simp) (fun x H2 hx k2 F2 => ?_) L nL
    have r1' : r < 4294967296 := r1
    have kk := k1.trans k2
    have e31 : (2 : Int) ^ (31 : Int).toNat = 2147483648 := by decide +kernel
    simp only [List.mem_cons, List.not_mem_nil, or_false, e31] at hx
    rcases hx with rfl | rfl | rfl | rfl | rfl | rfl | rfl
    · exact q 0 H2 (by decide) (by decide) kk F2
    · exact q 1 H2 (by decide) (by decide) kk F2
    · exact q (-1) H2 (by decide) (by decide) kk F2
    · exact q _ H2 (by decide) (by decide) kk F2
    · exact q _ H2 (by decide) (by decide) kk F2
    · exact q 65 H2 (by decide) (by decide) kk F2
    · exact q _ H2 (by omega) (by omega) kk F2
def spRoots : Sp := fun vs H Q _ => ∃ (p : Addr) (k n : Nat), vs = [.ref p, .int k] ∧ FeedAt H p n ∧ n + 8 ≤ 2 ^ 60 ∧ k ≤ 1000 ∧ ∀ (v : V) (rs : List Int) (m : Nat) (H' : Hp), KeptL [p] H H' → FeedAt H' p m → m ≤ n + 8 → Dv H' v (inPy rs) → rootsOk k rs → rs.length ≤ 7 → Q v H'
theorem ok_roots {f : Addr} {fd : FuncData} (G : Gd K mg "_law_roots" s_law_roots ["_law_feed_here", "_law_many"] f fd) (X : Lw K mg C_Tracing C_PlainHeap) : FnOk P w K mg base CX0 2 f fd ["_law_feed_here", "_law_many"] (spRoots) := by
  obtain ⟨f__law_draw, d__law_draw, G__law_draw⟩ := X.f__law_draw
  have H__law_draw : FnOk P w K mg base CX0 1 f__law_draw d__law_draw ["_law_feed_here", "_law_many"] (spDk) := ok_drw G__law_draw X
  refine G.F.ok sc_law_roots (fun vs H Q E h => ?_) (fun cdv A outer s H vs Q E hr h => ?_)
  · obtain ⟨p, k, n, rfl, _⟩ := h; rfl
  · obtain ⟨p, k, n, rfl, hF, hn, hk, q⟩ := h
    refine ⟨_, (pss_one (ps_ret (pe_callTy call_tuple_of (by rfl) X.b_tuple (by decide +kernel) (pa_cons (pe_lc (own := [("_law_turn", 2)]) (g := (gName 2)) (tt := tYes) rfl sc_law_roots.nd (pi_range1 (by rfl) X.b_range (pa_cons (pe_call H__law_draw hr (by rfl) G__law_draw.g G__law_draw.F.kp G__law_draw.b .nil pass0 (pa_cons (pv 0) (pa_cons pe_int pa_nil))) pa_nil)) (blkOk_by (own := [("_law_turn", 2)]) (N := ["_law_feed_here", "_law_many", "_law_turn"]) (sc := defScope s_law_roots) (by decide +kernel)) (fun _ _ _ _ _ => (pg_name (i := 2) sc_law_roots.nd rfl (Or.inl rfl))) (fun _ _ _ _ _ => pts_nil) (fun _ _ _ _ _ => (pe_call H__law_draw hr (by rfl) G__law_draw.g G__law_draw.F.kp G__law_draw.b .nil pass0 (pa_cons (pv 0) (pa_cons (pe_op op_add (pv 1) pe_int) pa_nil))))) pa_nil)))), ?_⟩
    refine ⟨_, rfl, p, 8, n, rfl, hF, by omega, by decide, by decide, fun r H1 r0 r1 k1 F1 => ⟨r, rfl, by omega, by omega, fun D nD => ?_⟩⟩
    have nD0 := kl_free k1 F1 nD
    have Dp : D ≠ p := feed_ne F1 nD
    refine lc_range (n := r.toNat) (lo := 0) (fun i H2 => ∃ rs : List Int, H2 D = some (.lst (rs.map V.int)) ∧ rs.length = i ∧ rootsOk k rs ∧ KeptL [p] H H2 ∧ FeedAt H2 p (n + 1 + i)) ⟨[], upd_same, rfl, (fun _ h => nomatch h), kept_at k1 nD0, feed_at2 F1 Dp⟩ ?_ ?_
    · rintro i H2 hi ⟨rs, hD, hl, ho, k2, F2⟩
      refine ⟨rfl, iteT (B := ∃ rs : List Int, H2 D = some (.lst (rs.map V.int)) ∧ rs.length = i + 1 ∧ rootsOk k rs ∧ KeptL [p] H H2 ∧ FeedAt H2 p (n + 1 + (i + 1))) ?_⟩
      refine ⟨_, rfl, _, rfl, _, _, rfl, rfl, p, _, _, rfl, F2, by omega, by omega, by omega, fun x H3 x0 x1 k3 F3 => ?_⟩
      have hD3 := k3 _ _ (by simpa using Dp) hD
      exact ⟨_, hD3, by rw [List.length_map]; exact small1000 (by omega), rs ++ [x], by rw [upd_same]; simp, by simp [hl], fun y hy => by
        rcases List.mem_append.mp hy with hy | hy
        · exact ho y hy
        · have : y = x := by simpa using hy
          omega, kept_at (k2.trans k3) nD0, feed_at2 F3 Dp⟩
    · rintro H2 ⟨rs, hD, hl, ho, k2, F2⟩
      refine ⟨D, _, rfl, .inl ⟨SqL.of hD, fun t nt => ?_⟩⟩
      exact q _ rs _ _ (kept_new k2 nt) (feedL F2 nt) (by omega) (.tup upd_same (by rw [List.length_map]; omega) ints_dv) ho (by omega)
end
end PH

/-! What is made, collections, equal things. -/
namespace PH
open PySem PySem.Spec PyProof.Rows L2 KA KI KK PV T ET
/-- whole numbers and tuples of such, so deep -/
def dOk : Nat → PyData → Prop
  | _, .int _ => True
  | n + 1, .tuple ds => ∀ d ∈ ds, dOk n d
  | _, _ => False
theorem dOk_cases {n : Nat} {d : PyData} (h : dOk n d) : (∃ i, d = .int i) ∨ ∃ m ds, n = m + 1 ∧ d = .tuple ds ∧ ∀ e ∈ ds, dOk m e := by
  cases d with
  | int i => exact .inl ⟨i, rfl⟩
  | tuple ds =>
    cases n with
    | zero => exact absurd h (by simp [dOk])
    | succ m => exact .inr ⟨m, ds, rfl, rfl, h⟩
  | _ => exact absurd h (by cases n <;> simp [dOk])
section
variable {P : Program} {w : World} {K : PySem.W.Frag} {mg : Str → Option Value} {base : Heap} {C_Tracing C_PlainHeap : Addr}
def spNewk : Sp := fun vs H Q _ => ∃ (p bg : Addr) (v : V) (sh : List (List Bool)) (z : Int) (n : Nat), vs = [.ref p, v, .ref bg] ∧ FeedAt H p n ∧ n + 2 ≤ 2 ^ 60 ∧ Dv H v (shPy sh) ∧ sh.length ≤ 6 ∧ (∀ r ∈ sh, r.length ≤ 100) ∧ H bg = some (.lst [.int z]) ∧ bg ≠ p ∧
  (∀ (H' : Hp), KeptL [p, bg] H H' → FeedAt H' p (n + 2) → (∃ z, H' bg = some (.lst [.int z])) → Q .non H') ∧
  ∀ (t : Addr) (k : Int) (m : Nat) (H' : Hp), KeptL [p, bg] H H' → FeedAt H' p (n + 2) → (∃ z, H' bg = some (.lst [.int z])) → H' t = some (.tup [.int k, .int m]) → -3 ≤ k → k < sh.length → sizeOk sh k m → Q (.ref t) H'
theorem ok_newk {f : Addr} {fd : FuncData} (G : Gd K mg "_law_new_kind" s_law_new_kind ["_law_feed_here", "_law_shapes_here", "_law_budget"] f fd) (X : Lw K mg C_Tracing C_PlainHeap) : FnOk P w K mg base CX0 3 f fd ["_law_feed_here", "_law_shapes_here", "_law_budget"] (spNewk) := by
  obtain ⟨f__law_one, d__law_one, G__law_one⟩ := X.f__law_one
  have H__law_one : FnOk P w K mg base CX0 2 f__law_one d__law_one ["_law_feed_here", "_law_things"] (spOl) := ok_oneL G__law_one X
  obtain ⟨f__law_kinds_of, d__law_kinds_of, G__law_kinds_of⟩ := X.f__law_kinds_of
  have H__law_kinds_of : FnOk P w K mg base CX0 1 f__law_kinds_of d__law_kinds_of ["_law_shapes_here"] (spKinds) := ok_kinds G__law_kinds_of X
  refine G.F.ok sc_law_new_kind (fun vs H Q E h => ?_) (fun cdv A outer s H vs Q E hr h => ?_)
  · obtain ⟨p, bg, v, sh, z, n, rfl, _⟩ := h; rfl
  · obtain ⟨p, bg, v, sh, z, n, rfl, hF, hn, hv, h1, h2, hb, hbp, q1, q2⟩ := h
    refine ⟨_, (pss_cons (ps_set (i := 3) sc_law_new_kind.nd rfl (Or.inl rfl) (pe_call H__law_one hr (by rfl) G__law_one.g G__law_one.F.kp G__law_one.b .nil pass0 (pa_cons (pv 0) (pa_cons (pe_call H__law_kinds_of (hr.mono (by decide)) (by rfl) G__law_kinds_of.g G__law_kinds_of.F.kp G__law_kinds_of.b .nil pass0 (pa_cons (pv 1) pa_nil)) pa_nil))))
      (C8.pss_cut (ps_set (i := 4) sc_law_new_kind.nd rfl (Or.inl rfl) (pe_ifExp (pt_cmpR op_ge (pv 3) pe_int (nomark _)) (pe_callB call_len (by rfl) X.b_len PySem.boot_len (pa_cons (pe_ix ix_tup (pv 1) (pv 3) (fun _ _ => rfl)) pa_nil)) (pe_call H__law_one hr (by rfl) G__law_one.g G__law_one.F.kp G__law_one.b .nil pass0 (pa_cons (pv 0) (pa_cons (pe_lst (pa_cons pe_int (pa_cons pe_int (pa_cons pe_int (pa_cons pe_int (pa_cons pe_int (pa_cons pe_int (pa_cons pe_int (pa_cons pe_int (pa_cons pe_int (pa_cons pe_int (pa_cons pe_int (pa_cons pe_int pa_nil))))))))))))) pa_nil)))))
      (pss_cons (ps_if (pt_cmpR op_gt (pe_op op_add (pv 4) pe_int) (pe_ix ix_list (pv 2) pe_int (fun _ _ => rfl)) (nomark _))
        (pss_one (ps_ret pe_non)) pss_nil)
      (pss_cons (ps_asg (pe_op op_sub (pe_op op_sub (pe_ix ix_list (pv 2) pe_int (fun _ _ => rfl)) (pv 4)) pe_int) (pg_sub (pv 2) pe_int set_list))
      (pss_one (ps_ret (pe_tup (pa_cons (pv 3) (pa_cons (pv 4) pa_nil))))))))), ?_⟩
    refine ⟨_, rfl, _, rfl, v, sh, rfl, hv, h1, fun l ks H1 nl S1 hl l0 l9 hk => ?_⟩
    have F1 := feedS hF S1
    refine ⟨p, l, _, n, rfl, F1, by omega, hl, feed_ne hF nl, by simpa using l0, by rw [List.length_map]; omega, fun x H2 hx k2 F2 => ?_⟩
    obtain ⟨k, hkm, rfl⟩ := List.mem_map.mp hx
    obtain ⟨ka, kb⟩ := hk k hkm
    have k02 : KeptL [p] H H2 := (KeptL.of_same S1).trans k2
    have hv2 := hv.same (feed_tups k02 hF)
    have hb2 := k02 _ _ (by simpa using hbp) hb
    refine ⟨fun σ' H' => ∃ m : Nat, σ' = [some (.ref p), some v, some (.ref bg), some (.int k), some (.int m)] ∧ sizeOk sh k m ∧ KeptL [p] H H' ∧ FeedAt H' p (n + 2), ?_, ?_⟩
    · refine ⟨_, rfl, k, 0, rfl, rfl, _, rfl, ite2 (fun e => ?_) (fun e => ?_)⟩
      · have e1 : 0 ≤ k := of_decide_eq_true e
        obtain ⟨a, vs, rfl, ha, hl2, he⟩ := shPy_at hv2
        obtain ⟨j, rfl⟩ : ∃ j : Nat, k = j := ⟨k.toNat, by omega⟩
        have hj : j < sh.length := by omega
        obtain ⟨b, eb, hbb⟩ := he j sh[j] (List.getElem?_eq_getElem hj)
        refine ⟨_, rfl, _, rfl, a, _, j, .ref b, rfl, rfl, SqT.of ha, atI_nat eb, .ref b, sh[j].length, rfl, .inr ⟨_, SqT.of hbb, by simp⟩, sh[j].length, rfl, ⟨?_, fun _ => ⟨sh[j], ?_, rfl⟩⟩, k02, feed_mono F2 (by omega)⟩
        · have := h2 sh[j] (List.getElem_mem hj)
          omega
        · rw [show (j : Int).toNat = j by omega]
          exact List.getElem?_eq_getElem hj
      · have e1 : ¬ 0 ≤ k := fun z => e (decide_eq_true z)
        refine ⟨_, rfl, by show 12 ≤ sizeLine; decide, fun L nL => ?_⟩
        refine one_new (E := E0) F2 (by omega) (by simp) (by simp) (fun x H3 hx k3 F3 => ?_) L nL
        have go : ∀ m : Nat, m ≤ 1000 → x = .int m → ∃ m : Nat, [some (V.ref p), some v, some (V.ref bg), some (V.int k), some x] = [some (V.ref p), some v, some (V.ref bg), some (V.int k), some (V.int m)] ∧ sizeOk sh k m ∧ KeptL [p] H H3 ∧ FeedAt H3 p (n + 2) := fun m hm ex =>
          ⟨m, by rw [ex], ⟨hm, fun z => absurd z e1⟩, k02.trans k3, F3⟩
        simp only [List.mem_cons, List.not_mem_nil, or_false] at hx
        rcases hx with h | h | h | h | h | h | h | h | h | h | h | h
        · exact go 0 (by decide) h
        · exact go 1 (by decide) h
        · exact go 1 (by decide) h
        · exact go 2 (by decide) h
        · exact go 2 (by decide) h
        · exact go 3 (by decide) h
        · exact go 4 (by decide) h
        · exact go 6 (by decide) h
        · exact go 9 (by decide) h
        · exact go 14 (by decide) h
        · exact go 30 (by decide) h
        · exact go 1000 (by decide) h
    · rintro σ3 H3 ⟨m, rfl, hs, k3, F3⟩
      have hb3 := k3 _ _ (by simpa using hbp) hb
      have k3' : KeptL [p, bg] H H3 := k3.mono (fun b hb => List.mem_cons.mpr (.inl (by simpa using hb)))
      refine ⟨_, rfl, _, _, rfl, rfl, _, rfl, bg, _, 0, .int z, rfl, rfl, SqL.of hb3, rfl, _, _, rfl, rfl, _, rfl, ite2 (fun _ => ?_) (fun _ => ?_)⟩
      · exact q1 H3 k3' F3 ⟨z, hb3⟩
      · refine ⟨_, rfl, bg, _, 0, .int z, rfl, rfl, SqL.of hb3, rfl, _, rfl, _, _, rfl, rfl, _, _, rfl, rfl, ?_⟩
        refine ⟨_, rfl, bg, _, 0, 0, rfl, rfl, hb3, rfl, ?_⟩
        refine ⟨_, rfl, _, rfl, by show 2 ≤ sizeLine; decide, fun t nt => ?_⟩
        have tb : bg ≠ t := ne_of_none upd_same nt
        refine q2 t k m _ ?_ (feedL (feed_at2 F3 hbp) nt) ⟨_, by rw [upd_ne tb]; exact upd_same⟩ upd_same ka kb hs
        intro b o nb e
        have nb1 : b ≠ bg := fun z => nb (by simp [z])
        have e3 := k3' _ _ nb e
        have e4 : (upd H3 bg (.lst [.int (z - m - 2)])) b = some o := by rw [upd_ne nb1]; exact e3
        rw [upd_ne (ne_of_none e4 nt)]
        exact e4
def spColl (C : Addr) : Sp := fun vs H Q _ => ∃ (hp p : Addr) (v : V) (rs : List Int) (a : Pa) (sh : List (List Bool)) (T : List Thing) (n : Nat), vs = [.ref hp, .ref p, v] ∧ FeedAt H p n ∧ n + 3 ≤ 2 ^ 60 ∧ p ∉ a.aK :: a.aB :: a.bs ∧ Dv H v (inPy rs) ∧ rootsOk T.length rs ∧ PhAt C H hp a sh T ∧
  ∀ (H' : Hp), KeptL [p] H H' → FeedAt H' p (n + 3) → Q v H'
theorem PhAt.kept {C : Addr} {H H' : Hp} {p q : Addr} {a : Pa} {sh : List (List Bool)} {T : List Thing} {n : Nat} (h : PhAt C H p a sh T) (k : KeptL [q] H H') (hF : FeedAt H q n) (hn : q ∉ a.aK :: a.aB :: a.bs) : PhAt C H' p a sh T := by
  have e : ∀ {b : Addr} {o : HO}, (b ≠ q) → H b = some o → H' b = some o := fun nb e => k _ _ (by simpa using nb) e
  have hn1 : a.aK ≠ q := fun z => hn (by simp [z])
  have hn2 : a.aB ≠ q := fun z => hn (by simp [z])
  refine ⟨e ?_ h.at_, h.sh.same (feed_tups k hF), e hn1 h.kinds, e hn2 h.bodies, h.len, fun i t b e1 e2 => e (fun z => hn (by
    have := List.mem_of_getElem? e2
    subst z
    simp [this])) (h.each i t b e1 e2), h.nd⟩
  obtain ⟨x, y, z, hq, _⟩ := hF
  exact ne_of h.at_ hq (by intro z; cases z)
theorem kb_PlainHeap_minor_roots {K : PySem.W.Frag} {f : Addr} {fd : FuncData} (F : L2.Fun K "minor" "PlainHeap.minor" s_PlainHeap_minor f fd) : KBn K fd ["self", "roots"] 1 ["roots"] (fun us ws => us ++ ws.reverse) (fun vs zs => vs ++ zs.reverse) :=
  kb_rev F fun _ _ _ _ _ _ u ws hl => match ws, hl with | [_], _ => rfl
theorem kb_PlainHeap_settle_roots {K : PySem.W.Frag} {f : Addr} {fd : FuncData} (F : L2.Fun K "settle" "PlainHeap.settle" s_PlainHeap_settle f fd) : KBn K fd ["self", "roots"] 1 ["roots"] (fun us ws => us ++ ws.reverse) (fun vs zs => vs ++ zs.reverse) :=
  kb_rev F fun _ _ _ _ _ _ u ws hl => match ws, hl with | [_], _ => rfl
theorem kb_PlainHeap_begin_roots {K : PySem.W.Frag} {f : Addr} {fd : FuncData} (F : L2.Fun K "begin" "PlainHeap.begin" s_PlainHeap_begin f fd) : KBn K fd ["self", "roots"] 1 ["roots"] (fun us ws => us ++ ws.reverse) (fun vs zs => vs ++ zs.reverse) :=
  kb_rev F fun _ _ _ _ _ _ u ws hl => match ws, hl with | [_], _ => rfl
theorem kb_PlainHeap_whole_roots {K : PySem.W.Frag} {f : Addr} {fd : FuncData} (F : L2.Fun K "whole" "PlainHeap.whole" s_PlainHeap_whole f fd) : KBn K fd ["self", "roots"] 1 ["roots"] (fun us ws => us ++ ws.reverse) (fun vs zs => vs ++ zs.reverse) :=
  kb_rev F fun _ _ _ _ _ _ u ws hl => match ws, hl with | [_], _ => rfl
theorem kb_PlainHeap_slice_roots_count {K : PySem.W.Frag} {f : Addr} {fd : FuncData} (F : L2.Fun K "slice" "PlainHeap.slice" s_PlainHeap_slice f fd) : KBn K fd ["self", "count", "roots"] 1 ["roots", "count"] (fun us ws => us ++ ws.reverse) (fun vs zs => vs ++ zs.reverse) :=
  kb_rev F fun _ _ _ _ _ _ u ws hl => match ws, hl with | [_, _], _ => rfl
theorem kb_PlainHeap_kind_address {K : PySem.W.Frag} {f : Addr} {fd : FuncData} (F : L2.Fun K "kind" "PlainHeap.kind" s_PlainHeap_kind f fd) : KBn K fd ["self", "address"] 1 ["address"] (fun us ws => us ++ ws.reverse) (fun vs zs => vs ++ zs.reverse) :=
  kb_rev F fun _ _ _ _ _ _ u ws hl => match ws, hl with | [_], _ => rfl
theorem kb_PlainHeap_slots_address {K : PySem.W.Frag} {f : Addr} {fd : FuncData} (F : L2.Fun K "slots" "PlainHeap.slots" s_PlainHeap_slots f fd) : KBn K fd ["self", "address"] 1 ["address"] (fun us ws => us ++ ws.reverse) (fun vs zs => vs ++ zs.reverse) :=
  kb_rev F fun _ _ _ _ _ _ u ws hl => match ws, hl with | [_], _ => rfl
theorem kb_PlainHeap_graph_roots {K : PySem.W.Frag} {f : Addr} {fd : FuncData} (F : L2.Fun K "graph" "PlainHeap.graph" s_PlainHeap_graph f fd) : KBn K fd ["self", "roots"] 1 ["roots"] (fun us ws => us ++ ws.reverse) (fun vs zs => vs ++ zs.reverse) :=
  kb_rev F fun _ _ _ _ _ _ u ws hl => match ws, hl with | [_], _ => rfl
theorem kb_PlainHeap_unreached_roots {K : PySem.W.Frag} {f : Addr} {fd : FuncData} (F : L2.Fun K "unreached" "PlainHeap.unreached" s_PlainHeap_unreached f fd) : KBn K fd ["self", "roots"] 1 ["roots"] (fun us ws => us ++ ws.reverse) (fun vs zs => vs ++ zs.reverse) :=
  kb_rev F fun _ _ _ _ _ _ u ws hl => match ws, hl with | [_], _ => rfl
theorem kb_PlainHeap_make_roots_slots_kind {K : PySem.W.Frag} {f : Addr} {fd : FuncData} (F : L2.Fun K "make" "PlainHeap.make" s_PlainHeap_make f fd) : KBn K fd ["self", "kind", "slots", "roots"] 1 ["roots", "slots", "kind"] (fun us ws => us ++ ws.reverse) (fun vs zs => vs ++ zs.reverse) :=
  kb_rev F fun _ _ _ _ _ _ u ws hl => match ws, hl with | [_, _, _], _ => rfl
theorem kb_PlainHeap_put_value_slot_address {K : PySem.W.Frag} {f : Addr} {fd : FuncData} (F : L2.Fun K "put" "PlainHeap.put" s_PlainHeap_put f fd) : KBn K fd ["self", "address", "slot", "value"] 1 ["value", "slot", "address"] (fun us ws => us ++ ws.reverse) (fun vs zs => vs ++ zs.reverse) :=
  kb_rev F fun _ _ _ _ _ _ u ws hl => match ws, hl with | [_, _, _], _ => rfl
theorem ok_coll {f : Addr} {fd : FuncData} (G : Gd K mg "_law_collection" s_law_collection ["_law_heap", "_law_feed_here", "_law_roots_here"] f fd) (X : Lw K mg C_Tracing C_PlainHeap) : FnOk P w K mg base CX0 6 f fd ["_law_heap", "_law_feed_here", "_law_roots_here"] (spColl C_PlainHeap) := by
  obtain ⟨f_PlainHeap_slice, d_PlainHeap_slice, M_PlainHeap_slice⟩ := X.m_PlainHeap_slice
  have H_PlainHeap_slice : FnOk P w K mg base CX0 5 f_PlainHeap_slice d_PlainHeap_slice ["self", "count", "roots"] (spSlice C_PlainHeap) := ok_slice M_PlainHeap_slice X
  obtain ⟨f__law_one, d__law_one, G__law_one⟩ := X.f__law_one
  have H__law_one : FnOk P w K mg base CX0 2 f__law_one d__law_one ["_law_feed_here", "_law_things"] (spOl) := ok_oneL G__law_one X
  obtain ⟨f_PlainHeap_begin, d_PlainHeap_begin, M_PlainHeap_begin⟩ := X.m_PlainHeap_begin
  have H_PlainHeap_begin : FnOk P w K mg base CX0 5 f_PlainHeap_begin d_PlainHeap_begin ["self", "roots"] (spRet C_PlainHeap) := ok_begin M_PlainHeap_begin X
  obtain ⟨f_PlainHeap_whole, d_PlainHeap_whole, M_PlainHeap_whole⟩ := X.m_PlainHeap_whole
  have H_PlainHeap_whole : FnOk P w K mg base CX0 5 f_PlainHeap_whole d_PlainHeap_whole ["self", "roots"] (spRet C_PlainHeap) := ok_whole M_PlainHeap_whole X
  obtain ⟨f_PlainHeap_settle, d_PlainHeap_settle, M_PlainHeap_settle⟩ := X.m_PlainHeap_settle
  have H_PlainHeap_settle : FnOk P w K mg base CX0 5 f_PlainHeap_settle d_PlainHeap_settle ["self", "roots"] (spRet C_PlainHeap) := ok_settle M_PlainHeap_settle X
  obtain ⟨f_PlainHeap_minor, d_PlainHeap_minor, M_PlainHeap_minor⟩ := X.m_PlainHeap_minor
  have H_PlainHeap_minor : FnOk P w K mg base CX0 5 f_PlainHeap_minor d_PlainHeap_minor ["self", "roots"] (spRet C_PlainHeap) := ok_minor M_PlainHeap_minor X
  obtain ⟨f__law_draw, d__law_draw, G__law_draw⟩ := X.f__law_draw
  have H__law_draw : FnOk P w K mg base CX0 1 f__law_draw d__law_draw ["_law_feed_here", "_law_many"] (spDk) := ok_drw G__law_draw X
  refine G.F.ok sc_law_collection (fun vs H Q E h => ?_) (fun cdv A outer s H vs Q E hr h => ?_)
  · obtain ⟨hp, p, v, rs, a, sh, T, n, rfl, _⟩ := h; rfl
  · obtain ⟨hp, p, v, rs, a, sh, T, n, rfl, hF, hn, hnp, hv, hr2, hh, q⟩ := h
    refine ⟨_, (pss_cons (ps_par (i := 3) (j := 4) (by rfl) sc_law_collection.nd rfl rfl (by decide) rfl rfl (pa_cons (pe_call H__law_draw (hr.mono (by decide)) (by rfl) G__law_draw.g G__law_draw.F.kp G__law_draw.b .nil pass0 (pa_cons (pv 1) (pa_cons pe_int pa_nil))) (pa_cons (pe_cmpR op_eq (pe_call H__law_draw (hr.mono (by decide)) (by rfl) G__law_draw.g G__law_draw.F.kp G__law_draw.b .nil pass0 (pa_cons (pv 1) (pa_cons pe_int pa_nil))) pe_int (nomark _)) pa_nil)) (by rfl))
      (pss_cons (ps_if (pt_cmpR op_eq (pv 3) pe_int (nomark _))
        (pss_one (ps_ret (pe_ifExp (pt_val (pv 4)) (pe_methK0 (pv 0) X.cl_PlainHeap M_PlainHeap_minor.m H_PlainHeap_minor hr (kb_PlainHeap_minor_roots M_PlainHeap_minor.F) M_PlainHeap_minor.F.kp pass0 (pk_cons (pv 2) pk_nil)) (pe_meth (pv 0) X.cl_PlainHeap M_PlainHeap_minor.m H_PlainHeap_minor hr M_PlainHeap_minor.b .nil pass0 (pa_cons (pv 2) pa_nil))))) pss_nil)
      (pss_cons (ps_if (pt_cmpR op_eq (pv 3) pe_int (nomark _))
        (pss_one (ps_ret (pe_ifExp (pt_val (pv 4)) (pe_methK0 (pv 0) X.cl_PlainHeap M_PlainHeap_settle.m H_PlainHeap_settle hr (kb_PlainHeap_settle_roots M_PlainHeap_settle.F) M_PlainHeap_settle.F.kp pass0 (pk_cons (pv 2) pk_nil)) (pe_meth (pv 0) X.cl_PlainHeap M_PlainHeap_settle.m H_PlainHeap_settle hr M_PlainHeap_settle.b .nil pass0 (pa_cons (pv 2) pa_nil))))) pss_nil)
      (pss_cons (ps_if (pt_cmpR op_eq (pv 3) pe_int (nomark _))
        (pss_one (ps_ret (pe_ifExp (pt_val (pv 4)) (pe_methK0 (pv 0) X.cl_PlainHeap M_PlainHeap_whole.m H_PlainHeap_whole hr (kb_PlainHeap_whole_roots M_PlainHeap_whole.F) M_PlainHeap_whole.F.kp pass0 (pk_cons (pv 2) pk_nil)) (pe_meth (pv 0) X.cl_PlainHeap M_PlainHeap_whole.m H_PlainHeap_whole hr M_PlainHeap_whole.b .nil pass0 (pa_cons (pv 2) pa_nil))))) pss_nil)
      (pss_cons (ps_if (pt_cmpR op_eq (pv 3) pe_int (nomark _))
        (pss_one (ps_ret (pe_ifExp (pt_val (pv 4)) (pe_methK0 (pv 0) X.cl_PlainHeap M_PlainHeap_begin.m H_PlainHeap_begin hr (kb_PlainHeap_begin_roots M_PlainHeap_begin.F) M_PlainHeap_begin.F.kp pass0 (pk_cons (pv 2) pk_nil)) (pe_meth (pv 0) X.cl_PlainHeap M_PlainHeap_begin.m H_PlainHeap_begin hr M_PlainHeap_begin.b .nil pass0 (pa_cons (pv 2) pa_nil))))) pss_nil)
      (pss_cons (ps_set (i := 5) sc_law_collection.nd rfl (Or.inl rfl) (pe_call H__law_one (hr.mono (by decide)) (by rfl) G__law_one.g G__law_one.F.kp G__law_one.b .nil pass0 (pa_cons (pv 1) (pa_cons (pe_lst (pa_cons pe_int (pa_cons pe_int (pa_cons pe_int (pa_cons (pe_op op_pow pe_int pe_int) pa_nil))))) pa_nil))))
      (pss_one (ps_ret (pe_ifExp (pt_val (pv 4)) (pe_methK0 (pv 0) X.cl_PlainHeap M_PlainHeap_slice.m H_PlainHeap_slice hr (kb_PlainHeap_slice_roots_count M_PlainHeap_slice.F) M_PlainHeap_slice.F.kp pass0 (pk_cons (pv 2) (pk_cons (pv 5) pk_nil))) (pe_meth (pv 0) X.cl_PlainHeap M_PlainHeap_slice.m H_PlainHeap_slice hr M_PlainHeap_slice.b .nil pass0 (pa_cons (pv 5) (pa_cons (pv 2) pa_nil)))))))))))), ?_⟩
    refine ⟨_, rfl, p, 6, n, rfl, hF, by omega, by decide, by decide, fun way H1 w0 w1 k1 F1 => ?_⟩
    refine ⟨_, rfl, p, 2, n + 1, rfl, F1, by omega, by decide, by decide, fun nm H2 n0 n1 k2 F2 => ?_⟩
    refine ⟨rfl, _, _, rfl, ?_⟩
    have k12 := k1.trans k2
    have hv2 := hv.same (feed_tups k12 hF)
    have hh2 := hh.kept k12 hF hnp
    have fin : ∀ (H3 : Hp), KeptL [p] H2 H3 → FeedAt H3 p (n + 3) → Q v H3 := fun H3 k3 F3 => q H3 (k12.trans k3) F3
    have qq := fin H2 (fun _ _ _ e => e) (feed_mono F2 (by omega))
    have r2 : spRet C_PlainHeap [.ref hp, v] H2 Q E0 := ⟨hp, v, rs, a, sh, T, rfl, hv2, hr2, hh2, qq⟩
    refine ⟨_, rfl, rfl, _, rfl, ite2 (fun _ => ?_) (fun _ => ?_)⟩
    · refine ⟨_, rfl, _, rfl, ite2 (fun _ => ?_) (fun _ => ?_)⟩
      · exact ⟨_, rfl, hp, _, _, rfl, hh2.at_, phF_no rfl rfl rfl, _, rfl, rfl, r2⟩
      · exact ⟨_, rfl, hp, _, _, rfl, hh2.at_, phF_no rfl rfl rfl, _, rfl, r2⟩
    refine ⟨_, rfl, rfl, _, rfl, ite2 (fun _ => ?_) (fun _ => ?_)⟩
    · refine ⟨_, rfl, _, rfl, ite2 (fun _ => ?_) (fun _ => ?_)⟩
      · exact ⟨_, rfl, hp, _, _, rfl, hh2.at_, phF_no rfl rfl rfl, _, rfl, rfl, r2⟩
      · exact ⟨_, rfl, hp, _, _, rfl, hh2.at_, phF_no rfl rfl rfl, _, rfl, r2⟩
    refine ⟨_, rfl, rfl, _, rfl, ite2 (fun _ => ?_) (fun _ => ?_)⟩
    · refine ⟨_, rfl, _, rfl, ite2 (fun _ => ?_) (fun _ => ?_)⟩
      · exact ⟨_, rfl, hp, _, _, rfl, hh2.at_, phF_no rfl rfl rfl, _, rfl, rfl, r2⟩
      · exact ⟨_, rfl, hp, _, _, rfl, hh2.at_, phF_no rfl rfl rfl, _, rfl, r2⟩
    refine ⟨_, rfl, rfl, _, rfl, ite2 (fun _ => ?_) (fun _ => ?_)⟩
    · refine ⟨_, rfl, _, rfl, ite2 (fun _ => ?_) (fun _ => ?_)⟩
      · exact ⟨_, rfl, hp, _, _, rfl, hh2.at_, phF_no rfl rfl rfl, _, rfl, rfl, r2⟩
      · exact ⟨_, rfl, hp, _, _, rfl, hh2.at_, phF_no rfl rfl rfl, _, rfl, r2⟩
    refine ⟨_, rfl, _, _, rfl, rfl, ⟨by decide, by decide, by decide⟩, by show 4 ≤ sizeLine; decide, fun L nL => ?_⟩
    refine one_new (E := E0) F2 (by omega) (by simp) (by simp) (fun x H3 hx k3 F3 => ?_) L nL
    have hv3 := hv2.same (feed_tups k3 F2)
    have hh3 := hh2.kept k3 F2 hnp
    have q3 := fin H3 k3 F3
    obtain ⟨c, rfl, c0, c1⟩ : ∃ c : Int, x = .int c ∧ 0 ≤ c ∧ c ≤ 1000000 := by
      have e6 : (10 : Int) ^ (6 : Int).toNat = 1000000 := by decide +kernel
      simp only [List.mem_cons, List.not_mem_nil, or_false, e6] at hx
      rcases hx with h | h | h | h
      · exact ⟨0, h, by decide, by decide⟩
      · exact ⟨1, h, by decide, by decide⟩
      · exact ⟨7, h, by decide, by decide⟩
      · exact ⟨1000000, h, by decide, by decide⟩
    have r3 : spSlice C_PlainHeap [.ref hp, .int c, v] H3 Q E0 := ⟨hp, c, v, rs, a, sh, T, rfl, c0, c1, hv3, hr2, hh3, q3⟩
    refine ⟨_, rfl, _, rfl, ite2 (fun _ => ?_) (fun _ => ?_)⟩
    · exact ⟨_, rfl, hp, _, _, rfl, hh3.at_, phF_no rfl rfl rfl, _, rfl, _, rfl, rfl, r3⟩
    · exact ⟨_, rfl, hp, _, _, rfl, hh3.at_, phF_no rfl rfl rfl, _, rfl, _, rfl, r3⟩
def spEq (n : Nat) : Sp := fun vs H Q _ => ∃ (x y : V) (d : PyData), vs = [x, y] ∧ Dv H x d ∧ Dv H y d ∧ dOk n d ∧ ∀ H', Same H H' → Q (.bl true) H'
theorem ok_equal (X : Lw K mg C_Tracing C_PlainHeap) {f : Addr} {fd : FuncData} (G : Gd K mg "_law_equal" s_law_equal ["_law_found", "_law_due"] f fd) : ∀ n : Nat, FnOk P w K mg base CX0 (n + 1) f fd ["_law_found", "_law_due"] (spEq n) := by
  have leaf : ∀ (i : Int) (H : Hp) (Q : VK), (∀ H', Same H H' → Q (.bl true) H') → ∃ t : String, TyX K H (.int i) (.type t) ∧ PySem.W.kitOne K (.type t) (.type "int") = some true ∧ PySem.W.kitOne K (.type t) (.type "bool") = some false ∧ PySem.W.kitOne K (.type t) (.type "str") = some false ∧ PySem.W.kitOne K (.type t) (.type "tuple") = some false ∧ Q (.bl true) H := fun i H Q q => by
    obtain ⟨t, t1, t2, t3, t4, t5⟩ := intTy (K := K) (H := H) (i := i)
    exact ⟨t, t1, t2, t3, t4, t5, q H (Same.refl H)⟩
  intro n
  induction n with
  | zero =>
    refine G.F.ok sc_law_equal (fun vs H Q E h => ?_) (fun cdv A outer s H vs Q E hr h => ?_)
    · obtain ⟨x, y, d, rfl, _⟩ := h; rfl
    · obtain ⟨x, y, d, rfl, hx, hy, hd, q⟩ := h
      refine ⟨_, (pss_cons (ps_if (pt_val (pe_callB call_isi (by rfl) X.b_isinstance (by decide +kernel) (pa_cons (pv 1) (pa_cons (pe_bltn (by rfl) X.b_tuple (v := .ty "tuple") (by decide +kernel) rfl) pa_nil))))
        pss_never pss_nil)
      (pss_cons (ps_if (pt_cmpR op_isN (pv 1) pe_non (nomark _))
        (pss_one (ps_ret (pe_cmpR op_isN (pv 0) pe_non (nomark _)))) pss_nil)
      (pss_cons (ps_if (PW.pt (pw_or (pt_val (pe_callB call_isi (by rfl) X.b_isinstance (by decide +kernel) (pa_cons (pv 1) (pa_cons (pe_bltn (by rfl) X.b_bool (v := .ty "bool") (by decide +kernel) rfl) pa_nil)))) (pw_or1 (pt_val (pe_callB call_isi (by rfl) X.b_isinstance (by decide +kernel) (pa_cons (pv 1) (pa_cons (pe_bltn (by rfl) X.b_str (v := .ty "str") (by decide +kernel) rfl) pa_nil)))))))
        (pss_one (ps_ret (pe_and (pe_cmpR op_eq (pe_callB call_isi (by rfl) X.b_isinstance (by decide +kernel) (pa_cons (pv 0) (pa_cons (pe_bltn (by rfl) X.b_bool (v := .ty "bool") (by decide +kernel) rfl) pa_nil))) (pe_callB call_isi (by rfl) X.b_isinstance (by decide +kernel) (pa_cons (pv 1) (pa_cons (pe_bltn (by rfl) X.b_bool (v := .ty "bool") (by decide +kernel) rfl) pa_nil))) (nomark _)) (pe_and (pe_cmpR op_eq (pe_callB call_isi (by rfl) X.b_isinstance (by decide +kernel) (pa_cons (pv 0) (pa_cons (pe_bltn (by rfl) X.b_str (v := .ty "str") (by decide +kernel) rfl) pa_nil))) (pe_callB call_isi (by rfl) X.b_isinstance (by decide +kernel) (pa_cons (pv 1) (pa_cons (pe_bltn (by rfl) X.b_str (v := .ty "str") (by decide +kernel) rfl) pa_nil))) (nomark _)) (pe_one (pe_cmpR op_eq (pv 0) (pv 1) (nomark _))))))) pss_nil)
      (pss_one (ps_ret (pe_and (pe_callB call_isi (by rfl) X.b_isinstance (by decide +kernel) (pa_cons (pv 0) (pa_cons (pe_bltn (by rfl) X.b_int (v := .ty "int") (by decide +kernel) rfl) pa_nil))) (pe_and (pe_not (pe_callB call_isi (by rfl) X.b_isinstance (by decide +kernel) (pa_cons (pv 0) (pa_cons (pe_bltn (by rfl) X.b_bool (v := .ty "bool") (by decide +kernel) rfl) pa_nil)))) (pe_one (pe_cmpR op_eq (pv 0) (pv 1) (nomark _)))))))))), ?_⟩
      obtain ⟨i, rfl⟩ : ∃ i, d = .int i := (dOk_cases hd).resolve_right fun ⟨m, ds, e, _⟩ => by cases e
      cases hx
      cases hy
      obtain ⟨t, t1, t2, t3, t4, t5, qq⟩ := leaf i H Q q
      refine ⟨_, rfl, _, _, _, _, _, rfl, .ty _, t1, t5, false, rfl, iteF ?_⟩
      refine ⟨_, rfl, rfl, _, rfl, iteF ?_⟩
      refine ⟨_, rfl, _, _, _, _, _, rfl, .ty _, t1, t3, false, rfl, iteF ⟨_, rfl, _, _, _, _, _, rfl, .ty _, t1, t4, false, rfl, iteF ?_⟩⟩
      refine ⟨_, rfl, _, _, _, _, _, rfl, .ty _, t1, t2, true, rfl, iteT ⟨_, rfl, _, _, _, _, _, rfl, .ty _, t1, t3, false, rfl, _, rfl, iteT ⟨_, rfl, _, rfl, rfl, ?_⟩⟩⟩
      rw [decide_eq_true rfl]
      exact qq
  | succ n ih =>
    have G__law_equal := G
    have H__law_equal := ih
    refine G.F.ok sc_law_equal (fun vs H Q E h => ?_) (fun cdv A outer s H vs Q E hr h => ?_)
    · obtain ⟨x, y, d, rfl, _⟩ := h; rfl
    · obtain ⟨x, y, d, rfl, hx, hy, hd, q⟩ := h
      refine ⟨_, (pss_cons (ps_if (pt_val (pe_callB call_isi (by rfl) X.b_isinstance (by decide +kernel) (pa_cons (pv 1) (pa_cons (pe_bltn (by rfl) X.b_tuple (v := .ty "tuple") (by decide +kernel) rfl) pa_nil))))
        (pss_cons (ps_if (PW.pt (pw_or (pt_not (pt_val (pe_callB call_isi (by rfl) X.b_isinstance (by decide +kernel) (pa_cons (pv 0) (pa_cons (pe_bltn (by rfl) X.b_tuple (v := .ty "tuple") (by decide +kernel) rfl) pa_nil))))) (pw_or1 (pt_cmpR op_ne (pe_callB call_len (by rfl) X.b_len PySem.boot_len (pa_cons (pv 0) pa_nil)) (pe_callB call_len (by rfl) X.b_len PySem.boot_len (pa_cons (pv 1) pa_nil)) (nomark _)))))
        (pss_one (ps_ret pe_bl)) pss_nil)
      (pss_one (ps_ret (pe_callB (cr_all rfl) (by rfl) X.b_all (by decide +kernel) (pa_cons (pe_lc (own := [("_law_k", 2)]) (g := (gName 2)) (te := (tCall (spEq n) [] E0 (tCons (tOp (rIxT K) (tVar 0) (tVar 2)) (tCons (tOp (rIxT K) (tVar 1) (tVar 2)) tNil)))) (tt := tYes) rfl sc_law_equal.nd (pi_range1 (by rfl) X.b_range (pa_cons (pe_callB call_len (by rfl) X.b_len PySem.boot_len (pa_cons (pv 1) pa_nil)) pa_nil)) (blkOk_by (own := [("_law_k", 2)]) (N := ["_law_found", "_law_due", "_law_k"]) (sc := defScope s_law_equal) (by decide +kernel)) (fun _ _ _ _ _ => (pg_name (i := 2) sc_law_equal.nd rfl (Or.inl rfl))) (fun _ _ _ _ _ => pts_nil) (fun _ _ _ _ _ => (pe_call H__law_equal hr (by rfl) G__law_equal.g G__law_equal.F.kp G__law_equal.b .nil pass0 (pa_cons (pe_ix ix_tup (pv 0) (pv 2) (fun _ _ => rfl)) (pa_cons (pe_ix ix_tup (pv 1) (pv 2) (fun _ _ => rfl)) pa_nil))))) pa_nil))))) pss_nil)
      (pss_cons (ps_if (pt_cmpR op_isN (pv 1) pe_non (nomark _))
        (pss_one (ps_ret (pe_cmpR op_isN (pv 0) pe_non (nomark _)))) pss_nil)
      (pss_cons (ps_if (PW.pt (pw_or (pt_val (pe_callB call_isi (by rfl) X.b_isinstance (by decide +kernel) (pa_cons (pv 1) (pa_cons (pe_bltn (by rfl) X.b_bool (v := .ty "bool") (by decide +kernel) rfl) pa_nil)))) (pw_or1 (pt_val (pe_callB call_isi (by rfl) X.b_isinstance (by decide +kernel) (pa_cons (pv 1) (pa_cons (pe_bltn (by rfl) X.b_str (v := .ty "str") (by decide +kernel) rfl) pa_nil)))))))
        (pss_one (ps_ret (pe_and (pe_cmpR op_eq (pe_callB call_isi (by rfl) X.b_isinstance (by decide +kernel) (pa_cons (pv 0) (pa_cons (pe_bltn (by rfl) X.b_bool (v := .ty "bool") (by decide +kernel) rfl) pa_nil))) (pe_callB call_isi (by rfl) X.b_isinstance (by decide +kernel) (pa_cons (pv 1) (pa_cons (pe_bltn (by rfl) X.b_bool (v := .ty "bool") (by decide +kernel) rfl) pa_nil))) (nomark _)) (pe_and (pe_cmpR op_eq (pe_callB call_isi (by rfl) X.b_isinstance (by decide +kernel) (pa_cons (pv 0) (pa_cons (pe_bltn (by rfl) X.b_str (v := .ty "str") (by decide +kernel) rfl) pa_nil))) (pe_callB call_isi (by rfl) X.b_isinstance (by decide +kernel) (pa_cons (pv 1) (pa_cons (pe_bltn (by rfl) X.b_str (v := .ty "str") (by decide +kernel) rfl) pa_nil))) (nomark _)) (pe_one (pe_cmpR op_eq (pv 0) (pv 1) (nomark _))))))) pss_nil)
      (pss_one (ps_ret (pe_and (pe_callB call_isi (by rfl) X.b_isinstance (by decide +kernel) (pa_cons (pv 0) (pa_cons (pe_bltn (by rfl) X.b_int (v := .ty "int") (by decide +kernel) rfl) pa_nil))) (pe_and (pe_not (pe_callB call_isi (by rfl) X.b_isinstance (by decide +kernel) (pa_cons (pv 0) (pa_cons (pe_bltn (by rfl) X.b_bool (v := .ty "bool") (by decide +kernel) rfl) pa_nil)))) (pe_one (pe_cmpR op_eq (pv 0) (pv 1) (nomark _)))))))))), ?_⟩
      rcases dOk_cases hd with ⟨i, rfl⟩ | ⟨m, ds, e, rfl, hds⟩
      · cases hx
        cases hy
        obtain ⟨t, t1, t2, t3, t4, t5, qq⟩ := leaf i H Q q
        refine ⟨_, rfl, _, _, _, _, _, rfl, .ty _, t1, t5, false, rfl, iteF ?_⟩
        refine ⟨_, rfl, rfl, _, rfl, iteF ?_⟩
        refine ⟨_, rfl, _, _, _, _, _, rfl, .ty _, t1, t3, false, rfl, iteF ⟨_, rfl, _, _, _, _, _, rfl, .ty _, t1, t4, false, rfl, iteF ?_⟩⟩
        refine ⟨_, rfl, _, _, _, _, _, rfl, .ty _, t1, t2, true, rfl, iteT ⟨_, rfl, _, _, _, _, _, rfl, .ty _, t1, t3, false, rfl, _, rfl, iteT ⟨_, rfl, _, rfl, rfl, ?_⟩⟩⟩
        rw [decide_eq_true rfl]
        exact qq
      · cases e
        obtain ⟨a, xs, rfl, ha, la, ra⟩ := hx.tupE
        obtain ⟨b, ys, rfl, hb, lb, rb⟩ := hy.tupE
        obtain ⟨t, t1, t2⟩ := tpTy (K := K) ha
        obtain ⟨u, u1, u2⟩ := tpTy (K := K) hb
        refine ⟨_, rfl, _, _, _, _, _, rfl, .ty _, u1, u2, true, rfl, iteT ?_⟩
        refine ⟨_, rfl, _, _, _, _, _, rfl, .ty _, t1, t2, true, rfl, iteF ?_⟩
        have el : xs.length = ys.length := by rw [ra.len, rb.len]
        refine ⟨_, rfl, .ref a, xs.length, rfl, .inr ⟨_, SqT.of ha, rfl⟩, _, rfl, .ref b, ys.length, rfl, .inr ⟨_, SqT.of hb, rfl⟩, rfl, _, rfl, ?_⟩
        have e2 : (!decide (V.int (xs.length : Int) = V.int (ys.length : Int))) = false := by simp [el]
        rw [e2]
        refine iteF ?_
        refine ⟨_, rfl, .ref b, ys.length, rfl, .inr ⟨_, SqT.of hb, rfl⟩, _, rfl, by omega, by omega, fun D nD => ?_⟩
        refine lc_range (n := (ys.length : Int).toNat) (lo := 0) (fun i H2 => H2 D = some (.lst ((List.replicate i true).map V.bl)) ∧ Same H H2) ⟨upd_same, same_new nD⟩ ?_ ?_
        · rintro i H2 hi ⟨hD, S2⟩
          have hiy : i < ys.length := by omega
          have hix : i < xs.length := by omega
          have hid : i < ds.length := by rw [← rb.len]; exact hiy
          refine ⟨rfl, iteT (B := H2 D = some (.lst ((List.replicate (i + 1) true).map V.bl)) ∧ Same H H2) ?_⟩
          refine ⟨_, rfl, _, rfl, a, xs, _, xs[i], rfl, rfl, SqT.of (S2 _ _ ha), atI_nat (by simp [hix]), ?_⟩
          refine ⟨_, rfl, _, rfl, b, ys, _, ys[i], rfl, rfl, SqT.of (S2 _ _ hb), atI_nat (by simp [hiy]), ?_⟩
          refine ⟨xs[i], ys[i], ds[i], rfl, (get2 ra (List.getElem?_eq_getElem hix) (List.getElem?_eq_getElem hid)).same (TupSame.of S2), (get2 rb (List.getElem?_eq_getElem hiy) (List.getElem?_eq_getElem hid)).same (TupSame.of S2), hds _ (List.getElem_mem hid), fun H3 S3 => ?_⟩
          exact ⟨_, S3 _ _ hD, by simp; exact small1000 (by omega), by rw [upd_same, List.replicate_succ', List.map_append]; rfl, same_at nD (S2.trans S3)⟩
        · rintro H2 ⟨hD, S2⟩
          refine ⟨D, _, rfl, SqL.of hD, ?_⟩
          have : (List.replicate (ys.length : Int).toNat true).all id = true := by simp
          rw [this]
          exact q H2 S2
theorem ok_equal5 {f : Addr} {fd : FuncData} (G : Gd K mg "_law_equal" s_law_equal ["_law_found", "_law_due"] f fd) (X : Lw K mg C_Tracing C_PlainHeap) : FnOk P w K mg base CX0 6 f fd ["_law_found", "_law_due"] (spEq 5) := ok_equal X G 5
end
end PH

/-! The law's own things: flags, what is held, what is come to. -/
namespace PH
open PySem PySem.Spec PyProof.Rows L2 KA KI KK PV T ET
structure Oa where
  aS : Addr
  aT : Addr
  ts : List Addr
  os : List Addr
def owK (o : Oa) : List (Key × V) := [(Sum.inr "shapes", .ref o.aS), (Sum.inr "things", .ref o.aT)]
/-- the law's own things stand at d; the first one is nothing -/
structure OwAt (H : Hp) (d : Addr) (o : Oa) (sh : List (List Bool)) (T : List Thing) : Prop where
  at_ : H d = some (.dK (owK o))
  sh : Dv H (.ref o.aS) (shPy sh)
  things : H o.aT = some (.lst (o.ts.map V.ref))
  lt : o.ts.length = T.length + 1
  lo : o.os.length = T.length + 1
  each : ∀ (i : Nat) (t : Thing) (b c : Addr), (((0, []) : Thing) :: T)[i]? = some t → o.ts[i]? = some b → o.os[i]? = some c → H b = some (.lst [.int t.1, .ref c]) ∧ H c = some (.lst (t.2.map V.int))
  nd : (o.aT :: (o.ts ++ o.os)).Nodup
theorem OwAt.same {H H' : Hp} {d : Addr} {o : Oa} {sh : List (List Bool)} {T : List Thing} (h : OwAt H d o sh T) (s : Same H H') : OwAt H' d o sh T :=
  ⟨s _ _ h.at_, h.sh.same (TupSame.of s), s _ _ h.things, h.lt, h.lo, fun i t b c e1 e2 e3 => ⟨s _ _ (h.each i t b c e1 e2 e3).1, s _ _ (h.each i t b c e1 e2 e3).2⟩, h.nd⟩
theorem OwAt.getT {H : Hp} {d : Addr} {o : Oa} {sh : List (List Bool)} {T : List Thing} (h : OwAt H d o sh T) : DGet H d (.str "things") (some (.ref o.aT)) := by
  have := DGet.k (k := Sum.inr "things") h.at_
  have e : valV (owK o) (Sum.inr "things" : Key) = some (.ref o.aT) := by
    unfold owK
    rw [valV_neg (show ¬ (Sum.inr "shapes" : Key) = (Sum.inr "things" : Key) by decide +kernel), valV_pos rfl]
  rw [e] at this
  exact this
theorem OwAt.getS {H : Hp} {d : Addr} {o : Oa} {sh : List (List Bool)} {T : List Thing} (h : OwAt H d o sh T) : DGet H d (.str "shapes") (some (.ref o.aS)) := by
  have := DGet.k (k := Sum.inr "shapes") h.at_
  have e : valV (owK o) (Sum.inr "shapes" : Key) = some (.ref o.aS) := valV_pos rfl
  rw [e] at this
  exact this
theorem OwAt.one {H : Hp} {d : Addr} {o : Oa} {sh : List (List Bool)} {T : List Thing} (h : OwAt H d o sh T) {i : Nat} {t : Thing} (e : (((0, []) : Thing) :: T)[i]? = some t) :
    ∃ b c, o.ts[i]? = some b ∧ o.os[i]? = some c ∧ H b = some (.lst [.int t.1, .ref c]) ∧ H c = some (.lst (t.2.map V.int)) := by
  have hi := (List.getElem?_eq_some_iff.mp e).1
  have h1 : i < o.ts.length := by rw [h.lt]; simpa using hi
  have h2 : i < o.os.length := by rw [h.lo]; simpa using hi
  have := h.each i t _ _ e (List.getElem?_eq_getElem h1) (List.getElem?_eq_getElem h2)
  exact ⟨_, _, List.getElem?_eq_getElem h1, List.getElem?_eq_getElem h2, this.1, this.2⟩
def flagsV (sh : List (List Bool)) (t : Thing) : List V := (List.range t.2.length).map fun i => V.bl (flag sh t.1 i)
theorem flagsV_get {sh : List (List Bool)} {t : Thing} {i : Nat} (h : i < t.2.length) : (flagsV sh t)[i]? = some (.bl (flag sh t.1 i)) := by
  unfold flagsV
  rw [List.getElem?_map, List.getElem?_range h]
  rfl
theorem flagsV_len (sh : List (List Bool)) (t : Thing) : (flagsV sh t).length = t.2.length := by unfold flagsV; simp
theorem flagsV_eq {sh : List (List Bool)} {t : Thing} {vs : List V} (hl : vs.length = t.2.length) (h : ∀ i, i < t.2.length → vs[i]? = some (.bl (flag sh t.1 i))) : vs = flagsV sh t := by
  refine List.ext_getElem? fun i => ?_
  by_cases hi : i < t.2.length
  · rw [h i hi, flagsV_get hi]
  · rw [List.getElem?_eq_none (by omega), List.getElem?_eq_none (by rw [flagsV_len]; omega)]
theorem nat0 {xs : List V} {i : Nat} {v : V} (h : xs[i]? = some v) : atI xs (0 + (i : Int)) = some v := by
  rw [Int.zero_add]
  exact atI_nat h
theorem rep_flat {α : Type} (n : Nat) (x : α) : (List.replicate n [x]).flatten = List.replicate n x := by
  induction n with
  | zero => rfl
  | succ m ih => rw [List.replicate_succ, List.replicate_succ, List.flatten_cons, ih]; rfl
theorem trans_range (f : Nat → Bool) (R body : List Int) : trans f R body = (List.range body.length).map fun i => if f i = true then num R (body.getD i 0) else body.getD i 0 := by
  unfold trans
  refine List.ext_getElem? fun i => ?_
  rw [List.getElem?_mapIdx, List.getElem?_map]
  by_cases hi : i < body.length
  · have h : body.getD i 0 = body[i] := by rw [List.getD_eq_getElem?_getD, List.getElem?_eq_getElem hi]; rfl
    rw [List.getElem?_range hi, List.getElem?_eq_getElem hi]
    show some (if f i = true then num R body[i] else body[i]) = some (if f i = true then num R (body.getD i 0) else body.getD i 0)
    rw [h]
  · rw [List.getElem?_eq_none (by omega : body.length ≤ i), List.getElem?_eq_none (by simp; omega)]
    rfl
def kv0 (ord : List Int) : List (Key × V) := (Sum.inl 0, V.int 0) :: kv ord
theorem kv0_get {ord : List Int} (x : Int) : valV (kv0 ord) (Sum.inl x : Key) = if x = 0 ∨ x ∈ ord then some (.int (num ord x)) else none := by
  by_cases e : x = 0
  · subst e
    rw [if_pos (.inl rfl), kv0, valV_pos rfl, num, if_pos rfl]
  · rw [kv0, valV_neg (fun z => e (by injection z with z; exact z.symm))]
    by_cases hm : x ∈ ord
    · rw [if_pos (.inr hm), kv_num hm e]
    · rw [if_neg (fun z => z.elim e hm), kv, kv_get, if_neg hm]
theorem kv0_put {ord : List Int} {x : Int} (h : ¬ (x = 0 ∨ x ∈ ord)) : putK (kv0 ord) (Sum.inl x : Key) (V.int ((ord.length + 1 : Nat) : Int)) = kv0 (ord ++ [x]) := by
  have h1 : x ≠ 0 := fun z => h (.inl z)
  have h2 : x ∉ ord := fun z => h (.inr z)
  rw [putK_new _ (by rw [kv0_get, if_neg h])]
  have := kv_put h2
  rw [putK_new _ (by rw [kv, kv_get, if_neg h2])] at this
  unfold kv0
  rw [← this]
  rfl
theorem kv0_len (ord : List Int) : (kv0 ord).length = ord.length + 1 := by
  unfold kv0 kv
  rw [List.length_cons, kvFrom_len]
theorem bfs_closed {sh : List (List Bool)} {T : List Thing} (W : OkW sh T) : ∀ (n k : Nat) (ord : List Int), n = T.length + 1 - k → k ≤ ord.length → OrdOk T.length ord → (∀ (i : Nat) (a : Int), i < k → ord[i]? = some a → ∀ x ∈ refs sh (thing T a), x = 0 ∨ x ∈ ord) →
    (∃ m, bfs sh T n k ord = ord ++ m) ∧ ∀ a ∈ bfs sh T n k ord, ∀ x ∈ refs sh (thing T a), x = 0 ∨ x ∈ bfs sh T n k ord := by
  intro n
  induction n with
  | zero =>
    intro k ord e hk ho _
    have := ho.len
    omega
  | succ n ih =>
    intro k ord e hk ho hc
    by_cases hlt : k < ord.length
    · obtain ⟨aa, eaa⟩ : ∃ aa, aa = ord[k] := ⟨_, rfl⟩
      have ha : ord[k]? = some aa := by rw [eaa]; exact List.getElem?_eq_getElem hlt
      have har := ho.rg _ (List.mem_of_getElem? ha)
      rw [bfs_step ha]
      obtain ⟨mm, em⟩ := visits_pre (refs sh (thing T aa)) ord
      have h := ih (k + 1) (visits ord (refs sh (thing T aa))) (by omega) (by rw [em, List.length_append]; omega) (ho.visits (refs_rg W har)) fun i c hi hc2 x hx => by
        by_cases e : i = k
        · subst e
          rw [em, List.getElem?_append_left hlt, ha] at hc2
          cases hc2
          exact visits_mem hx
        · have hi2 : i < ord.length := by omega
          rw [em, List.getElem?_append_left hi2] at hc2
          rw [em]
          exact mem_pre (hc i c (by omega) hc2 x hx)
      obtain ⟨⟨m2, e2⟩, h2⟩ := h
      exact ⟨⟨mm ++ m2, by rw [e2, em, List.append_assoc]⟩, h2⟩
    · rw [bfs_end (by omega)]
      refine ⟨⟨[], (List.append_nil _).symm⟩, fun a ham x hx => ?_⟩
      obtain ⟨i, hi, ei⟩ := List.getElem_of_mem ham
      exact hc i a (by omega) (by rw [List.getElem?_eq_getElem hi, ei]) x hx
theorem reach_closed {sh : List (List Bool)} {T : List Thing} {rs : List Int} (W : OkW sh T) (hr : rootsOk T.length rs) {a : Int} (h : a ∈ reach sh T rs) : ∀ x ∈ refs sh (thing T a), x = 0 ∨ x ∈ reach sh T rs :=
  (bfs_closed W (T.length + 1) 0 (visits [] rs) rfl (Nat.zero_le _) (OrdOk.nil.visits hr) (fun i a hi => absurd hi (Nat.not_lt_zero _))).2 a h
theorem reach_roots0 {sh : List (List Bool)} {T : List Thing} {rs : List Int} (W : OkW sh T) (hr : rootsOk T.length rs) {x : Int} (h : x ∈ rs) : x = 0 ∨ x ∈ reach sh T rs := by
  obtain ⟨m, e⟩ := (bfs_closed W (T.length + 1) 0 (visits [] rs) rfl (Nat.zero_le _) (OrdOk.nil.visits hr) (fun i a hi => absurd hi (Nat.not_lt_zero _))).1
  have e2 : reach sh T rs = visits [] rs ++ m := e
  rw [e2]
  exact mem_pre (visits_mem h)
section
variable {P : Program} {w : World} {K : PySem.W.Frag} {mg : Str → Option Value} {base : Heap} {C_Tracing C_PlainHeap : Addr}
def spFlags : Sp := fun vs H Q _ => ∃ (d : Addr) (n : Nat) (t : Thing) (o : Oa) (sh : List (List Bool)) (T : List Thing), vs = [.ref d, .int ((n + 1 : Nat) : Int)] ∧ OwAt H d o sh T ∧ T[n]? = some t ∧ sizeOk sh t.1 t.2.length ∧
  ∀ (l : Addr) (H' : Hp), Same H H' → H l = none → H' l = some (.lst (flagsV sh t)) → Q (.ref l) H'
theorem ok_flags {f : Addr} {fd : FuncData} (G : Gd K mg "_law_flags" s_law_flags ["_law_own", "_law_number"] f fd) (X : Lw K mg C_Tracing C_PlainHeap) : FnOk P w K mg base CX0 1 f fd ["_law_own", "_law_number"] (spFlags) := by

  refine G.F.ok sc_law_flags (fun vs H Q E h => ?_) (fun cdv A outer s H vs Q E hr h => ?_)
  · obtain ⟨d, n, t, o, sh, T, rfl, _⟩ := h; rfl
  · obtain ⟨d, n, t, o, sh, T, rfl, ho, ht, ⟨s1, s2⟩, q⟩ := h
    refine ⟨_, (pss_cons (ps_par (i := 2) (j := 3) (by rfl) sc_law_flags.nd rfl rfl (by decide) rfl rfl (pa_cons (pe_ix ix_list (pe_ix ix_list (pe_dget (hu_of hr) (pv 0) pe_str (fun _ _ => rfl)) (pv 1) (fun _ _ => rfl)) pe_int (fun _ _ => rfl)) (pa_cons (pe_callB call_len (by rfl) X.b_len PySem.boot_len (pa_cons (pe_ix ix_list (pe_ix ix_list (pe_dget (hu_of hr) (pv 0) pe_str (fun _ _ => rfl)) (pv 1) (fun _ _ => rfl)) pe_int (fun _ _ => rfl)) pa_nil)) pa_nil)) (by rfl))
      (pss_cons (ps_if (pt_cmpR op_lt (pv 2) pe_int (nomark _))
        (pss_one (ps_ret (pe_op op_rep (pe_lst (pa_cons (pe_cmpR op_eq (pv 2) (pe_un un_neg pe_int) (nomark _)) pa_nil)) (pv 3)))) pss_nil)
      (pss_one (ps_ret (pe_callTy call_list_of (by rfl) X.b_list (by decide +kernel) (pa_cons (pe_ix ix_tup (pe_dget (hu_of hr) (pv 0) pe_str (fun _ _ => rfl)) (pv 2) (fun _ _ => rfl)) pa_nil)))))), ?_⟩
    have ht0 : (((0, []) : Thing) :: T)[n + 1]? = some t := ht
    obtain ⟨b, c, eb, ec, hb, hc⟩ := ho.one ht0
    have nat : ∀ {xs : List V} {v : V}, xs[n + 1]? = some v → atI xs (((n + 1 : Nat) : Int)) = some v := fun e => atI_nat e
    refine ⟨_, rfl, d, _, rfl, ho.getT, _, rfl, o.aT, _, _, .ref b, rfl, rfl, SqL.of ho.things, nat (by simp [eb]), b, _, 0, .int t.1, rfl, rfl, SqL.of hb, rfl, ?_⟩
    refine ⟨_, rfl, d, _, rfl, ho.getT, _, rfl, o.aT, _, _, .ref b, rfl, rfl, SqL.of ho.things, nat (by simp [eb]), b, _, 1, .ref c, rfl, rfl, SqL.of hb, rfl, .ref c, t.2.length, rfl, .inl ⟨_, SqL.of hc, by simp⟩, _, _, rfl, ?_⟩
    refine ⟨_, rfl, _, _, rfl, rfl, _, rfl, ite2 (fun e => ?_) (fun e => ?_)⟩
    · have e1 : t.1 < 0 := of_decide_eq_true e
      refine ⟨_, rfl, _, rfl, rfl, by show 1 ≤ sizeLine; decide, fun l1 n1 => ⟨_, rfl, l1, (t.2.length : Int), _, rfl, rfl, upd_same, by omega, by omega, ?_, fun l n2 => ?_⟩⟩
      · show 1 * (t.2.length : Int).toNat ≤ sizeLine
        exact Nat.le_of_lt (small1000 (by omega))
      · have l1l : l1 ≠ l := ne_of_none upd_same n2
        rw [upd_ne l1l.symm] at n2
        refine q l _ (same_at n2 (same_new n1)) n2 ?_
        rw [upd_same, show (t.2.length : Int).toNat = t.2.length by omega, rep_flat]
        congr 2
        refine flagsV_eq (by simp) fun i hi => ?_
        rw [List.getElem?_replicate_of_lt hi]
        unfold flag
        rw [if_pos e1]
        simp
    · have e1 : 0 ≤ t.1 := by
        have : ¬ t.1 < 0 := fun z => e (decide_eq_true z)
        omega
      obtain ⟨r, er, hr⟩ := s2 e1
      obtain ⟨a, vs, ea, ha, hl, he⟩ := shPy_at ho.sh
      cases ea
      obtain ⟨u, eu, hu⟩ := he _ r er
      obtain ⟨j, hj⟩ : ∃ j : Nat, t.1 = j := ⟨t.1.toNat, by omega⟩
      rw [hj, show ((j : Int)).toNat = j by omega] at eu
      refine ⟨_, rfl, d, _, rfl, ho.getS, _, rfl, o.aS, _, t.1, .ref u, rfl, rfl, SqT.of ha, by rw [hj]; exact atI_nat eu, u, _, rfl, .inr (SqT.of hu), fun l n2 => ?_⟩
      refine q l _ (same_new n2) n2 ?_
      rw [upd_same]
      congr 2
      refine flagsV_eq (by simp [hr]) fun i hi => ?_
      have : i < r.length := by omega
      rw [flag_pos e1 er i]
      simp [this]
def spHeld : Sp := fun vs H Q _ => ∃ (d : Addr) (n : Nat) (t : Thing) (o : Oa) (sh : List (List Bool)) (T : List Thing), vs = [.ref d, .int ((n + 1 : Nat) : Int)] ∧ OwAt H d o sh T ∧ T[n]? = some t ∧ sizeOk sh t.1 t.2.length ∧
  ∀ (l : Addr) (H' : Hp), Same H H' → H l = none → H' l = some (.lst ((refs sh t).map V.int)) → Q (.ref l) H'
theorem ok_held {f : Addr} {fd : FuncData} (G : Gd K mg "_law_held" s_law_held ["_law_own", "_law_number"] f fd) (X : Lw K mg C_Tracing C_PlainHeap) : FnOk P w K mg base CX0 2 f fd ["_law_own", "_law_number"] (spHeld) := by
  obtain ⟨f__law_flags, d__law_flags, G__law_flags⟩ := X.f__law_flags
  have H__law_flags : FnOk P w K mg base CX0 1 f__law_flags d__law_flags ["_law_own", "_law_number"] (spFlags) := ok_flags G__law_flags X
  refine G.F.ok sc_law_held (fun vs H Q E h => ?_) (fun cdv A outer s H vs Q E hr h => ?_)
  · obtain ⟨d, n, t, o, sh, T, rfl, _⟩ := h; rfl
  · obtain ⟨d, n, t, o, sh, T, rfl, ho, ht, hs, q⟩ := h
    refine ⟨_, (pss_cons (ps_asg (pe_tup (pa_cons (pe_call H__law_flags hr (by rfl) G__law_flags.g G__law_flags.F.kp G__law_flags.b .nil pass0 (pa_cons (pv 0) (pa_cons (pv 1) pa_nil))) (pa_cons (pe_ix ix_list (pe_ix ix_list (pe_dget (hu_of hr) (pv 0) pe_str (fun _ _ => rfl)) (pv 1) (fun _ _ => rfl)) pe_int (fun _ _ => rfl)) pa_nil))) (pg_tup rfl (pgs_cons (pg_name (i := 2) sc_law_held.nd rfl (Or.inr rfl)) (pgs_cons (pg_name (i := 3) sc_law_held.nd rfl (Or.inr rfl)) pgs_nil))))
      (pss_one (ps_ret (pe_lc (own := [("_law_slot", 4)]) (g := (gName 4)) (te := (tOp (rIxL K) (tVar 3) (tVar 4))) (tt := tB (tOp (rIxL K) (tVar 2) (tVar 4))) rfl sc_law_held.nd (pi_range1 (by rfl) X.b_range (pa_cons (pe_callB call_len (by rfl) X.b_len PySem.boot_len (pa_cons (pv 3) pa_nil)) pa_nil)) (blkOk_by (own := [("_law_slot", 4)]) (N := ["_law_own", "_law_number", "_law_flags_here", "_law_body", "_law_slot"]) (sc := defScope s_law_held) (by decide +kernel)) (fun _ _ _ _ _ => (pg_name (i := 4) sc_law_held.nd rfl (Or.inl rfl))) (fun _ _ _ _ _ => (pts_one (pt_val (pe_ix ix_list (pv 2) (pv 4) (fun _ _ => rfl))))) (fun _ _ _ _ _ => (pe_ix ix_list (pv 3) (pv 4) (fun _ _ => rfl))))))), ?_⟩
    have ht0 : (((0, []) : Thing) :: T)[n + 1]? = some t := ht
    have nat : ∀ {xs : List V} {v : V}, xs[n + 1]? = some v → atI xs (((n + 1 : Nat) : Int)) = some v := fun e => atI_nat e
    refine ⟨_, rfl, _, rfl, d, n, t, o, sh, T, rfl, ho, ht, hs, fun f H1 S1 nf hf => ?_⟩
    have ho1 := ho.same S1
    obtain ⟨b, c, eb, ec, hb, hc⟩ := ho1.one ht0
    refine ⟨_, rfl, d, _, rfl, ho1.getT, _, rfl, o.aT, _, _, .ref b, rfl, rfl, SqL.of ho1.things, nat (by simp [eb]), b, _, 1, .ref c, rfl, rfl, SqL.of hb, rfl, ?_⟩
    refine ⟨by show 2 ≤ sizeLine; decide, fun tp ntp => ⟨tp, _, rfl, SqT.of upd_same, rfl, _, _, rfl, _, _, rfl, rfl, ?_⟩⟩
    have S2 : Same H1 (upd H1 tp (.tup [.ref f, .ref c])) := same_new ntp
    have hf2 := S2 _ _ hf
    have hc2 := S2 _ _ hc
    have S12 := S1.trans S2
    obtain ⟨H2, eH2⟩ : ∃ H2, H2 = upd H1 tp (.tup [.ref f, .ref c]) := ⟨_, rfl⟩
    rw [← eH2] at hf2 hc2 S12
    refine ⟨_, rfl, .ref c, t.2.length, rfl, .inl ⟨_, SqL.of (by rw [← eH2]; exact hc2), by simp⟩, (t.2.length : Int), rfl, by have := hs.1; omega, by have := hs.1; omega, fun D nD => ?_⟩
    rw [← eH2] at nD
    have nD0 : H D = none := S12.free nD
    refine lc_range (n := (t.2.length : Int).toNat) (lo := 0) (fun i H3 => H3 D = some (.lst (((idxOf i (flag sh t.1)).map fun i => t.2.getD i 0).map V.int)) ∧ Same H2 H3) ⟨upd_same, by rw [← eH2]; exact same_new nD⟩ ?_ ?_
    · rintro i H3 hi ⟨hD, S3⟩
      have hil : i < t.2.length := by omega
      have hfi : (flagsV sh t)[i]? = some (.bl (flag sh t.1 i)) := by
        unfold flagsV
        rw [List.getElem?_map, List.getElem?_range hil]
        rfl
      have ei : idxOf (i + 1) (flag sh t.1) = idxOf i (flag sh t.1) ++ if flag sh t.1 i = true then [i] else [] := by
        unfold idxOf
        rw [List.range_succ, List.filter_append]
        congr 1
        cases e : flag sh t.1 i <;> simp [e]
      refine ⟨rfl, _, rfl, _, rfl, f, _, _, _, rfl, rfl, SqL.of (S3 _ _ hf2), nat0 hfi, _, rfl, ?_⟩
      have hci : (t.2.map V.int)[i]? = some (.int (t.2.getD i 0)) := by
        rw [List.getElem?_map, List.getD_eq_getElem?_getD, List.getElem?_eq_getElem hil]
        rfl
      cases e : flag sh t.1 i with
      | true =>
        rw [e] at ei
        refine iteT ⟨_, rfl, _, rfl, c, _, _, _, rfl, rfl, SqL.of (S3 _ _ hc2), nat0 hci, _, hD, ?_, ?_, fun b o e2 => ?_⟩
        · rw [List.length_map, List.length_map]
          have : (idxOf i (flag sh t.1)).length ≤ i := by
            unfold idxOf
            exact Nat.le_trans (List.length_filter_le _ _) (by simp)
          have := hs.1
          exact small1000 (by omega)
        · rw [upd_same, ei]
          simp
        · rw [upd_ne (ne_of_none e2 nD)]
          exact S3 _ _ e2
      | false =>
        rw [e] at ei
        refine iteF ⟨?_, S3⟩
        rw [hD, ei]
        simp
    · rintro H3 ⟨hD, S3⟩
      refine q D H3 (S12.trans S3) nD0 ?_
      rw [hD]
      unfold refs idx
      rw [show (t.2.length : Int).toNat = t.2.length by omega]
def spReach : Sp := fun vs H Q _ => ∃ (d : Addr) (v : V) (rs : List Int) (o : Oa) (sh : List (List Bool)) (T : List Thing), vs = [.ref d, v] ∧ OwAt H d o sh T ∧ OkW sh T ∧ Dv H v (inPy rs) ∧ rootsOk T.length rs ∧
  ∀ (r lo ln : Addr) (H' : Hp), Same H H' → H' r = some (.tup [.ref lo, .ref ln]) → H' lo = some (.lst ((reach sh T rs).map V.int)) → H' ln = some (.dK (kv0 (reach sh T rs))) → Q (.ref r) H'
theorem ok_reach {f : Addr} {fd : FuncData} (G : Gd K mg "_law_reach" s_law_reach ["_law_own", "_law_hands"] f fd) (X : Lw K mg C_Tracing C_PlainHeap) : FnOk P w K mg base CX0 3 f fd ["_law_own", "_law_hands"] (spReach) := by
  obtain ⟨f__law_held, d__law_held, G__law_held⟩ := X.f__law_held
  have H__law_held : FnOk P w K mg base CX0 2 f__law_held d__law_held ["_law_own", "_law_number"] (spHeld) := ok_held G__law_held X
  refine G.F.ok sc_law_reach (fun vs H Q E h => ?_) (fun cdv A outer s H vs Q E hr h => ?_)
  · obtain ⟨d, v, rs, o, sh, T, rfl, _⟩ := h; rfl
  · obtain ⟨d, v, rs, o, sh, T, rfl, ho, W, hv, hr2, q⟩ := h
    refine ⟨_, (pss_cons (ps_par (i := 2) (j := 3) (by rfl) sc_law_reach.nd rfl rfl (by decide) rfl rfl (pa_cons (pe_disp (pps_cons pe_int pe_int pps_nil) (by rfl) (by rfl) (fun z => by cases z) (by decide)) (pa_cons (pe_lst pa_nil) pa_nil)) (by rfl))
      (pss_cons (ps_for PassesOwn.never rfl (pi_tup (pv 1)) (pg_name (i := 4) sc_law_reach.nd rfl (Or.inl rfl))
        (pss_one (ps_if (pt_cmp (pc_dnotin (hu_of hr) (pv 4) (pv 2)))
        (pss_cons (ps_expr (pe_bm PySem.F.plainAttrs_list PySem.F.slot_list_append PySem.F.type_list_append mt_append (pv 3) (pa_cons (pv 4) pa_nil)))
      (pss_one (ps_dput (hu_of hr) (pv 2) (pv 4) (pe_callB call_len (by rfl) X.b_len PySem.boot_len (pa_cons (pv 3) pa_nil)) rfl))) pss_nil)))
      (pss_cons (ps_set (i := 5) sc_law_reach.nd rfl (Or.inl rfl) pe_int)
      (pss_cons (ps_while PassesOwn.never (pt_cmpR op_lt (pv 5) (pe_callB call_len (by rfl) X.b_len PySem.boot_len (pa_cons (pv 3) pa_nil)) (nomark _))
        (pss_cons (ps_for PassesOwn.never rfl (pi_list (pe_call H__law_held hr (by rfl) G__law_held.g G__law_held.F.kp G__law_held.b .nil pass0 (pa_cons (pv 0) (pa_cons (pe_ix ix_list (pv 3) (pv 5) (fun _ _ => rfl)) pa_nil)))) (pg_name (i := 4) sc_law_reach.nd rfl (Or.inl rfl))
        (pss_one (ps_if (pt_cmp (pc_dnotin (hu_of hr) (pv 4) (pv 2)))
        (pss_cons (ps_expr (pe_bm PySem.F.plainAttrs_list PySem.F.slot_list_append PySem.F.type_list_append mt_append (pv 3) (pa_cons (pv 4) pa_nil)))
      (pss_one (ps_dput (hu_of hr) (pv 2) (pv 4) (pe_callB call_len (by rfl) X.b_len PySem.boot_len (pa_cons (pv 3) pa_nil)) rfl))) pss_nil)))
      (pss_one (ps_set (i := 5) sc_law_reach.nd rfl (Or.inl rfl) (pe_op op_add (pv 5) pe_int)))))
      (pss_one (ps_ret (pe_tup (pa_cons (pv 3) (pa_cons (pv 2) pa_nil))))))))), ?_⟩
    obtain ⟨u, rfl, hu, hul⟩ := inPy_at hv
    have hT := W.t1
    refine fun ln nln => ⟨upd_same, [(Sum.inl 0, .int 0)], rfl, by decide, ?_⟩
    have hnn : (upd (upd H ln (.dK [])) ln (.dK (mergeK [] [(Sum.inl 0, V.int 0)]))) ln = some (.dK (kv0 [])) := upd_same
    have S0 : Same H (upd (upd H ln (.dK [])) ln (.dK (mergeK [] [(Sum.inl 0, V.int 0)]))) := same_at nln (same_new nln)
    refine ⟨by show 0 ≤ sizeLine; decide, fun lo nlo => ⟨_, _, rfl, ?_⟩⟩
    have nlo0 : H lo = none := S0.free nlo
    have nll : ln ≠ lo := ne_of_none hnn nlo
    refine ⟨_, rfl, u, rfl, ⟨_, SqT.of (same_at nlo0 S0 _ _ hu)⟩, for_tup (xs := rs.map V.int) (fun i σ H1 => ∃ (o4 : Option V), σ = [some (.ref d), some (.ref u), some (.ref ln), some (.ref lo), o4, none] ∧ H1 ln = some (.dK (kv0 (visits [] (rs.take i)))) ∧ H1 lo = some (.lst ((visits [] (rs.take i)).map V.int)) ∧ OrdOk T.length (visits [] (rs.take i)) ∧ Same H H1)
      ⟨none, rfl, by rw [upd_ne nll]; exact hnn, upd_same, OrdOk.nil, same_at nlo0 S0⟩ ?_ ?_ ?_⟩
    · rintro i σ H1 _ ⟨_, _, _, _, _, S1⟩
      exact SqT.of (S1 _ _ hu)
    · rintro i x σ H1 hxi ⟨o4, rfl, hn1, hl1, O1, S1⟩
      · rw [List.getElem?_map] at hxi
        obtain ⟨r, er, rfl⟩ := Option.map_eq_some_iff.mp hxi
        have O2 := O1.visit (hr2 r (List.mem_of_getElem? er))
        have et := visits_take er
        refine ⟨_, rfl, _, rfl, ln, _, rfl, DGet.k (k := Sum.inl r) hn1, _, rfl, ?_⟩
        rw [kv0_get]
        by_cases hm : r = 0 ∨ r ∈ visits [] (rs.take i)
        · rw [if_pos hm]
          have ev : visit (visits [] (rs.take i)) r = visits [] (rs.take i) := by unfold visit; rw [if_pos hm]
          exact iteF (by rw [et, ev]; exact ⟨_, rfl, hn1, hl1, O1, S1⟩)
        · rw [if_neg hm]
          have ev : visit (visits [] (rs.take i)) r = visits [] (rs.take i) ++ [r] := by unfold visit; rw [if_neg hm]
          refine iteT ⟨_, rfl, .inl ⟨rfl, _, SqL.of hl1⟩, _, rfl, lo, _, _, rfl, rfl, hl1, by rw [List.length_map]; exact small1000 (by have := O1.len; omega), ?_⟩
          have nl : ln ≠ lo := ne_of hn1 hl1 (by intro z; cases z)
          have hn2 : (upd H1 lo (.lst ((visits [] (rs.take i)).map V.int ++ [V.int r]))) ln = some (.dK (kv0 (visits [] (rs.take i)))) := by rw [upd_ne nl]; exact hn1
          refine ⟨_, rfl, .ref lo, (visits [] (rs.take i)).length + 1, rfl, .inl ⟨_, SqL.of upd_same, by simp⟩, _, rfl, _, rfl, ln, _, rfl, DPut.k (k := Sum.inl r) hn2 (by rw [kv0_len]; exact small1000 (by have := O1.len; omega)), ?_⟩
          rw [kv0_put hm]
          have el : (upd (upd H1 lo (.lst ((visits [] (rs.take i)).map V.int ++ [V.int r]))) ln (.dK (kv0 (visits [] (rs.take i) ++ [r])))) lo = some (.lst ((visits [] (rs.take i) ++ [r]).map V.int)) := by rw [upd_ne nl.symm, upd_same]; simp
          have es : Same H (upd (upd H1 lo (.lst ((visits [] (rs.take i)).map V.int ++ [V.int r]))) ln (.dK (kv0 (visits [] (rs.take i) ++ [r])))) := same_at nln (same_at nlo0 S1)
          exact by rw [et]; rw [ev] at O2; rw [ev]; exact ⟨_, rfl, upd_same, el, O2, es⟩
    rintro σ H1 ⟨o4, rfl, hn1, hl1, O1, S1⟩
    rw [List.length_map, List.take_length] at hn1 hl1 O1
    refine ⟨fun m σ H2 => ∃ (k : Nat) (ord : List Int) (o4 : Option V), σ = [some (.ref d), some (.ref u), some (.ref ln), some (.ref lo), o4, some (.int k)] ∧ m = T.length + 1 - k ∧ k ≤ ord.length ∧ OrdOk T.length ord ∧ bfs sh T (T.length + 1 - k) k ord = reach sh T rs ∧
        H2 ln = some (.dK (kv0 ord)) ∧ H2 lo = some (.lst (ord.map V.int)) ∧ Same H H2, ⟨_, 0, visits [] rs, _, rfl, rfl, Nat.zero_le _, O1, rfl, hn1, hl1, S1⟩, ?_⟩
    rintro m σ H2 ⟨k, ord, o4, rfl, rfl, hk, ho2, hb2, hn2, hl2, S2⟩
    have hol := ho2.len
    refine ⟨_, rfl, _, rfl, .ref lo, ord.length, rfl, .inl ⟨_, SqL.of hl2, by simp⟩, _, _, rfl, rfl, _, rfl, ite2 (fun e => ?_) (fun e => ?_)⟩
    · have hlt : k < ord.length := by
        have := of_decide_eq_true e
        omega
      obtain ⟨aa, eaa⟩ : ∃ aa, aa = ord[k] := ⟨_, rfl⟩
      have ha : ord[k]? = some aa := by rw [eaa]; exact List.getElem?_eq_getElem hlt
      have har := ho2.rg _ (List.mem_of_getElem? ha)
      have hth := thing_mem har
      have hmem : thing T aa ∈ T := List.mem_of_getElem? hth
      have eI : aa = (((aa - 1).toNat + 1 : Nat) : Int) := by omega
      refine ⟨fun σ' H' => ∃ (k' : Nat) (ord' : List Int) (o4 : Option V), σ' = [some (.ref d), some (.ref u), some (.ref ln), some (.ref lo), o4, some (.int k')] ∧ k' = k + 1 ∧ k' ≤ ord'.length ∧ OrdOk T.length ord' ∧ bfs sh T (T.length + 1 - k') k' ord' = reach sh T rs ∧
        H' ln = some (.dK (kv0 ord')) ∧ H' lo = some (.lst (ord'.map V.int)) ∧ Same H H', ?_, ?_⟩
      · rintro σ' H' ⟨k', ord', o4', rfl, rfl, h1, h2, h3, h4, h5, h6⟩
        exact ⟨_, by omega, k + 1, ord', o4', rfl, rfl, h1, h2, h3, h4, h5, h6⟩
      refine ⟨_, rfl, _, rfl, _, rfl, lo, _, k, .int aa, rfl, rfl, SqL.of hl2, atI_nat (by rw [List.getElem?_map, ha]; rfl), d, (aa - 1).toNat, thing T aa, o, sh, T, congrArg (fun z => [V.ref d, V.int z]) eI, ho.same S2, hth, W.z _ hmem, fun l H3 S3 nl3 hl3 => ?_⟩
      have hn3 := S3 _ _ hn2
      have hlo3 := S3 _ _ hl2
      have S03 := S2.trans S3
      have llo : lo ≠ l := ne_of_none hl2 nl3
      have lln : ln ≠ l := ne_of_none hn2 nl3
      refine ⟨l, rfl, ⟨_, SqL.of hl3⟩, for_list (xs := (refs sh (thing T aa)).map V.int) (fun i σ H4 => ∃ (o4 : Option V), σ = [some (.ref d), some (.ref u), some (.ref ln), some (.ref lo), o4, some (.int k)] ∧ H4 ln = some (.dK (kv0 (visits ord ((refs sh (thing T aa)).take i)))) ∧ H4 lo = some (.lst ((visits ord ((refs sh (thing T aa)).take i)).map V.int)) ∧ OrdOk T.length (visits ord ((refs sh (thing T aa)).take i)) ∧ Same H H4 ∧ H4 l = some (.lst ((refs sh (thing T aa)).map V.int)))
        ⟨_, rfl, hn3, hlo3, ho2, S03, hl3⟩ ?_ ?_ ?_⟩
      · rintro i σ H4 _ ⟨_, _, _, _, _, _, h⟩
        exact SqL.of h
      · rintro i x σ H4 hxi ⟨o4, rfl, hn4, hl4, O4, S4, hll⟩
        rw [List.getElem?_map] at hxi
        obtain ⟨r, er, rfl⟩ := Option.map_eq_some_iff.mp hxi
        have O5 := O4.visit (refs_rg W har r (List.mem_of_getElem? er))
        have et : visits ord ((refs sh (thing T aa)).take (i + 1)) = visit (visits ord ((refs sh (thing T aa)).take i)) r := by
          rw [List.take_add_one, er]
          unfold visits
          rw [List.foldl_append]
          rfl
        refine ⟨_, rfl, _, rfl, ln, _, rfl, DGet.k (k := Sum.inl r) hn4, _, rfl, ?_⟩
        rw [kv0_get]
        by_cases hm : r = 0 ∨ r ∈ visits ord ((refs sh (thing T aa)).take i)
        · rw [if_pos hm]
          have ev : visit (visits ord ((refs sh (thing T aa)).take i)) r = visits ord ((refs sh (thing T aa)).take i) := by unfold visit; rw [if_pos hm]
          exact iteF (by rw [et, ev]; exact ⟨_, rfl, hn4, hl4, O4, S4, hll⟩)
        · rw [if_neg hm]
          have ev : visit (visits ord ((refs sh (thing T aa)).take i)) r = visits ord ((refs sh (thing T aa)).take i) ++ [r] := by unfold visit; rw [if_neg hm]
          refine iteT ⟨_, rfl, .inl ⟨rfl, _, SqL.of hl4⟩, _, rfl, lo, _, _, rfl, rfl, hl4, by rw [List.length_map]; exact small1000 (by have := O4.len; omega), ?_⟩
          have nl : ln ≠ lo := ne_of hn4 hl4 (by intro z; cases z)
          have hn2 : (upd H4 lo (.lst ((visits ord ((refs sh (thing T aa)).take i)).map V.int ++ [V.int r]))) ln = some (.dK (kv0 (visits ord ((refs sh (thing T aa)).take i)))) := by rw [upd_ne nl]; exact hn4
          refine ⟨_, rfl, .ref lo, (visits ord ((refs sh (thing T aa)).take i)).length + 1, rfl, .inl ⟨_, SqL.of upd_same, by simp⟩, _, rfl, _, rfl, ln, _, rfl, DPut.k (k := Sum.inl r) hn2 (by rw [kv0_len]; exact small1000 (by have := O4.len; omega)), ?_⟩
          rw [kv0_put hm]
          have el : (upd (upd H4 lo (.lst ((visits ord ((refs sh (thing T aa)).take i)).map V.int ++ [V.int r]))) ln (.dK (kv0 (visits ord ((refs sh (thing T aa)).take i) ++ [r])))) lo = some (.lst ((visits ord ((refs sh (thing T aa)).take i) ++ [r]).map V.int)) := by rw [upd_ne nl.symm, upd_same]; simp
          have es : Same H (upd (upd H4 lo (.lst ((visits ord ((refs sh (thing T aa)).take i)).map V.int ++ [V.int r]))) ln (.dK (kv0 (visits ord ((refs sh (thing T aa)).take i) ++ [r])))) := same_at nln (same_at nlo0 S4)
          exact by rw [et]; rw [ev] at O5; rw [ev]; exact ⟨_, rfl, upd_same, el, O5, es, by rw [upd_ne lln.symm, upd_ne llo.symm]; exact hll⟩
      · rintro σ H4 ⟨o4, rfl, hn4, hl4, O4, S4, hll⟩
        rw [List.length_map, List.take_length] at hn4 hl4 O4
        obtain ⟨mm, em⟩ := visits_pre (refs sh (thing T aa)) ord
        refine ⟨_, rfl, _, _, rfl, rfl, k + 1, _, _, rfl, rfl, by rw [em, List.length_append]; omega, O4, ?_, hn4, hl4, S4⟩
        rw [← hb2, show T.length + 1 - k = (T.length + 1 - (k + 1)) + 1 by omega, bfs_step ha]
    · have hge : ¬ k < ord.length := fun z => e (decide_eq_true (by omega))
      have er : ord = reach sh T rs := by
        rw [← hb2, show T.length + 1 - k = (T.length - k) + 1 by omega, bfs_end (by omega)]
      subst er
      refine ⟨_, rfl, _, rfl, by show 2 ≤ sizeLine; decide, fun r nr => ?_⟩
      exact q r lo ln _ (S2.trans (same_new nr)) upd_same (by rw [upd_ne (ne_of_none hl2 nr)]; exact hl2) (by rw [upd_ne (ne_of_none hn2 nr)]; exact hn2)
def spLgraph : Sp := fun vs H Q _ => ∃ (d : Addr) (v : V) (rs : List Int) (o : Oa) (sh : List (List Bool)) (T : List Thing), vs = [.ref d, v] ∧ OwAt H d o sh T ∧ OkW sh T ∧ Dv H v (inPy rs) ∧ rootsOk T.length rs ∧
  ∀ (u : V) (H' : Hp), Same H H' → Dv H' u (gPy sh T rs) → Q u H'
theorem ok_lgraph {f : Addr} {fd : FuncData} (G : Gd K mg "_law_graph" s_law_graph ["_law_own", "_law_hands"] f fd) (X : Lw K mg C_Tracing C_PlainHeap) : FnOk P w K mg base CX0 4 f fd ["_law_own", "_law_hands"] (spLgraph) := by
  obtain ⟨f__law_flags, d__law_flags, G__law_flags⟩ := X.f__law_flags
  have H__law_flags : FnOk P w K mg base CX0 1 f__law_flags d__law_flags ["_law_own", "_law_number"] (spFlags) := ok_flags G__law_flags X
  obtain ⟨f__law_reach, d__law_reach, G__law_reach⟩ := X.f__law_reach
  have H__law_reach : FnOk P w K mg base CX0 3 f__law_reach d__law_reach ["_law_own", "_law_hands"] (spReach) := ok_reach G__law_reach X
  refine G.F.ok sc_law_graph (fun vs H Q E h => ?_) (fun cdv A outer s H vs Q E hr h => ?_)
  · obtain ⟨d, v, rs, o, sh, T, rfl, _⟩ := h; rfl
  · obtain ⟨d, v, rs, o, sh, T, rfl, ho, W, hv, hr2, q⟩ := h
    refine ⟨_, (pss_cons (ps_asg (pe_call H__law_reach hr (by rfl) G__law_reach.g G__law_reach.F.kp G__law_reach.b .nil pass0 (pa_cons (pv 0) (pa_cons (pv 1) pa_nil))) (pg_tup rfl (pgs_cons (pg_name (i := 2) sc_law_graph.nd rfl (Or.inl rfl)) (pgs_cons (pg_name (i := 3) sc_law_graph.nd rfl (Or.inr rfl)) pgs_nil))))
      (pss_cons (ps_set (i := 4) sc_law_graph.nd rfl (Or.inl rfl) (pe_lst pa_nil))
      (pss_cons (ps_for PassesOwn.never rfl (pi_list (pv 2)) (pg_name (i := 5) sc_law_graph.nd rfl (Or.inl rfl))
        (pss_cons (ps_asg (pe_tup (pa_cons (pe_ix ix_list (pe_ix ix_list (pe_dget (hu_of hr) (pv 0) pe_str (fun _ _ => rfl)) (pv 5) (fun _ _ => rfl)) pe_int (fun _ _ => rfl)) (pa_cons (pe_ix ix_list (pe_ix ix_list (pe_dget (hu_of hr) (pv 0) pe_str (fun _ _ => rfl)) (pv 5) (fun _ _ => rfl)) pe_int (fun _ _ => rfl)) (pa_cons (pe_call H__law_flags (hr.mono (by decide)) (by rfl) G__law_flags.g G__law_flags.F.kp G__law_flags.b .nil pass0 (pa_cons (pv 0) (pa_cons (pv 5) pa_nil))) pa_nil)))) (pg_tup rfl (pgs_cons (pg_name (i := 6) sc_law_graph.nd rfl (Or.inl rfl)) (pgs_cons (pg_name (i := 7) sc_law_graph.nd rfl (Or.inr rfl)) (pgs_cons (pg_name (i := 8) sc_law_graph.nd rfl (Or.inr rfl)) pgs_nil)))))
      (pss_one (ps_expr (pe_bm PySem.F.plainAttrs_list PySem.F.slot_list_append PySem.F.type_list_append mt_append (pv 4) (pa_cons (pe_tup (pa_cons (pv 6) (pa_cons (pe_callTy call_tuple_of (by rfl) X.b_tuple (by decide +kernel) (pa_cons (pe_lc (own := [("_law_slot", 9)]) (g := (gName 9)) (te := (tIf (tB (tOp (rIxL K) (tVar 8) (tVar 9))) (tDGet (tVar 3) (tOp (rIxL K) (tVar 7) (tVar 9))) (tOp (rIxL K) (tVar 7) (tVar 9)))) (tt := tYes) rfl sc_law_graph.nd (pi_range1 (by rfl) X.b_range (pa_cons (pe_callB call_len (by rfl) X.b_len PySem.boot_len (pa_cons (pv 7) pa_nil)) pa_nil)) (blkOk_by (own := [("_law_slot", 9)]) (N := ["_law_own", "_law_hands", "_law_order", "_law_names", "_law_things", "_law_number", "_law_kind", "_law_body", "_law_flags_here", "_law_slot"]) (sc := defScope s_law_graph) (by decide +kernel)) (fun _ _ _ _ _ => (pg_name (i := 9) sc_law_graph.nd rfl (Or.inl rfl))) (fun _ _ _ _ _ => pts_nil) (fun _ _ _ _ _ => (pe_ifExp (pt_val (pe_ix ix_list (pv 8) (pv 9) (fun _ _ => rfl))) (pe_dget (hu_of hr) (pv 3) (pe_ix ix_list (pv 7) (pv 9) (fun _ _ => rfl)) (fun _ _ => rfl)) (pe_ix ix_list (pv 7) (pv 9) (fun _ _ => rfl))))) pa_nil)) pa_nil))) pa_nil))))))
      (pss_one (ps_ret (pe_tup (pa_cons (pe_callTy call_tuple_of (by rfl) X.b_tuple (by decide +kernel) (pa_cons (pe_lc (own := [("_law_number", 5)]) (g := (gName 5)) (te := (tDGet (tVar 3) (tVar 5))) (tt := tYes) rfl sc_law_graph.nd (pi_tup (pv 1)) (blkOk_by (own := [("_law_number", 5)]) (N := ["_law_own", "_law_hands", "_law_order", "_law_names", "_law_things", "_law_number", "_law_kind", "_law_body", "_law_flags_here", "_law_slot"]) (sc := defScope s_law_graph) (by decide +kernel)) (fun _ _ _ _ _ => (pg_name (i := 5) sc_law_graph.nd rfl (Or.inl rfl))) (fun _ _ _ _ _ => pts_nil) (fun _ _ _ _ _ => (pe_dget (hu_of hr) (pv 3) (pv 5) (fun _ _ => rfl)))) pa_nil)) (pa_cons (pe_callTy call_tuple_of (by rfl) X.b_tuple (by decide +kernel) (pa_cons (pv 4) pa_nil)) pa_nil)))))))), ?_⟩
    obtain ⟨u, rfl, hu, hul⟩ := inPy_at hv
    have hT := W.t1
    have hR := reach_ok W hr2
    have hRl := hR.len
    refine ⟨_, rfl, _, rfl, d, .ref u, rs, o, sh, T, rfl, ho, W, hv, hr2, fun r lo ln H1 S1 hr1 hlo1 hln1 => ?_⟩
    refine ⟨r, _, rfl, SqT.of hr1, rfl, _, _, rfl, _, _, rfl, rfl, ?_⟩
    refine ⟨by show 0 ≤ sizeLine; decide, fun S nS => ?_⟩
    have S2 := S1.trans (same_new nS (o := .lst []))
    have hlo2 := same_new nS (o := .lst []) _ _ hlo1
    have hln2 := same_new nS (o := .lst []) _ _ hln1
    have nS0 : H S = none := S1.free nS
    -- the keys that are looked up are there
    have look : ∀ {x : Int} {Hx : Hp}, (x = 0 ∨ x ∈ reach sh T rs) → Hx ln = some (.dK (kv0 (reach sh T rs))) → DGet Hx ln (.int x) (some (.int (num (reach sh T rs) x))) := by
      intro x Hx hx he
      have := DGet.k (k := Sum.inl x) he
      rw [kv0_get, if_pos hx] at this
      exact this
    have nat : ∀ {xs : List V} {v : V} {a : Int} {n : Nat}, a = ((n + 1 : Nat) : Int) → xs[n + 1]? = some v → atI xs a = some v := fun e h => by rw [e]; exact atI_nat h
    refine ⟨_, rfl, lo, rfl, ⟨_, SqL.of hlo2⟩, for_list (xs := (reach sh T rs).map V.int) (fun i σ H2 => ∃ (o5 o6 o7 o8 o9 : Option V) (vs : List V), σ = [some (.ref d), some (.ref u), some (.ref lo), some (.ref ln), some (.ref S), o5, o6, o7, o8, o9] ∧ H2 S = some (.lst vs) ∧ DvAll H2 vs (((reach sh T rs).take i).map (gth sh T (reach sh T rs))) ∧ H2 lo = some (.lst ((reach sh T rs).map V.int)) ∧ H2 ln = some (.dK (kv0 (reach sh T rs))) ∧ Same H H2)
      ⟨_, _, _, _, _, [], rfl, upd_same, .nil, hlo2, hln2, S2⟩ ?_ ?_ ?_⟩
    · rintro i σ H2 _ ⟨_, _, _, _, _, _, _, _, _, h, _⟩
      exact SqL.of h
    · rintro i x σ H2 hxi ⟨o5, o6, o7, o8, o9, vs, rfl, hS, hv2, hlo, hln, S3⟩
      rw [List.getElem?_map] at hxi
      obtain ⟨aa, ha, rfl⟩ := Option.map_eq_some_iff.mp hxi
      have har := hR.rg _ (List.mem_of_getElem? ha)
      have hth := thing_mem har
      have hmem : thing T aa ∈ T := List.mem_of_getElem? hth
      have hs := W.z _ hmem
      have eI : aa = (((aa - 1).toNat + 1 : Nat) : Int) := by omega
      have ho2 := ho.same S3
      have ht0 : (((0, []) : Thing) :: T)[(aa - 1).toNat + 1]? = some (thing T aa) := hth
      obtain ⟨b, c, eb, ec, hb, hc⟩ := ho2.one ht0
      refine ⟨_, rfl, d, _, rfl, ho2.getT, _, rfl, o.aT, _, _, .ref b, rfl, rfl, SqL.of ho2.things, nat eI (by rw [List.getElem?_map, eb]; rfl), b, _, 0, .int (thing T aa).1, rfl, rfl, SqL.of hb, rfl, ?_⟩
      refine ⟨_, rfl, d, _, rfl, ho2.getT, _, rfl, o.aT, _, _, .ref b, rfl, rfl, SqL.of ho2.things, nat eI (by rw [List.getElem?_map, eb]; rfl), b, _, 1, .ref c, rfl, rfl, SqL.of hb, rfl, ?_⟩
      refine ⟨_, rfl, _, rfl, d, (aa - 1).toNat, thing T aa, o, sh, T, congrArg (fun z => [V.ref d, V.int z]) eI, ho2, hth, hs, fun f H3 S4 nf hf => ?_⟩
      refine ⟨by show 3 ≤ sizeLine; decide, fun tp ntp => ⟨tp, _, rfl, SqT.of upd_same, rfl, _, _, rfl, _, _, rfl, _, _, rfl, rfl, ?_⟩⟩
      have S5 : Same H2 (upd H3 tp (.tup [.int (thing T aa).1, .ref c, .ref f])) := S4.trans (same_new ntp)
      have hf5 := same_new ntp (o := .tup [.int (thing T aa).1, .ref c, .ref f]) _ _ hf
      obtain ⟨H5, eH5⟩ : ∃ H5, H5 = upd H3 tp (.tup [.int (thing T aa).1, .ref c, .ref f]) := ⟨_, rfl⟩
      rw [← eH5] at S5 hf5
      refine at_nx eH5 ?_
      clear eH5
      have hS5 := S5 _ _ hS
      have hc5 := S5 _ _ hc
      have hlo5 := S5 _ _ hlo
      have hln5 := S5 _ _ hln
      have hs1 := hs.1
      refine ⟨_, rfl, .inl ⟨rfl, _, SqL.of hS5⟩, _, rfl, _, rfl, .ref c, (thing T aa).2.length, rfl, .inl ⟨_, SqL.of hc5, by simp⟩, ((thing T aa).2.length : Int), rfl, by omega, by omega, fun D nD => ?_⟩
      have nD0 : H D = none := (S3.trans S5).free nD
      refine lc_range (n := ((thing T aa).2.length : Int).toNat) (lo := 0) (fun j H6 => H6 D = some (.lst (((List.range j).map fun m => if flag sh (thing T aa).1 m = true then num (reach sh T rs) ((thing T aa).2.getD m 0) else (thing T aa).2.getD m 0).map V.int)) ∧ Same H5 H6) ⟨upd_same, same_new nD⟩ ?_ ?_
      · rintro j H6 hj ⟨hD, S6⟩
        have hjl : j < (thing T aa).2.length := by omega
        have hcj : ((thing T aa).2.map V.int)[j]? = some (.int ((thing T aa).2.getD j 0)) := by
          rw [List.getElem?_map, List.getD_eq_getElem?_getD, List.getElem?_eq_getElem hjl]
          rfl
        have nx : ∀ (z : Int), z = (if flag sh (thing T aa).1 j = true then num (reach sh T rs) ((thing T aa).2.getD j 0) else (thing T aa).2.getD j 0) → ∃ acc, H6 D = some (.lst acc) ∧ acc.length < sizeLine ∧ (upd H6 D (.lst (acc ++ [V.int z]))) D = some (.lst (((List.range (j + 1)).map fun m => if flag sh (thing T aa).1 m = true then num (reach sh T rs) ((thing T aa).2.getD m 0) else (thing T aa).2.getD m 0).map V.int)) ∧ Same H5 (upd H6 D (.lst (acc ++ [V.int z]))) := by
          intro z ez
          refine ⟨_, hD, by simp; exact small1000 (by omega), ?_, same_at nD S6⟩
          rw [upd_same, ez, List.range_succ, List.map_append, List.map_append]
          rfl
        refine ⟨rfl, iteT (B := H6 D = some (.lst (((List.range (j + 1)).map fun m => if flag sh (thing T aa).1 m = true then num (reach sh T rs) ((thing T aa).2.getD m 0) else (thing T aa).2.getD m 0).map V.int)) ∧ Same H5 H6) ?_⟩
        refine ⟨_, rfl, _, rfl, f, _, _, _, rfl, rfl, SqL.of (S6 _ _ hf5), nat0 (flagsV_get hjl), _, rfl, ?_⟩
        cases ef : flag sh (thing T aa).1 j with
        | true =>
          have hx : (thing T aa).2.getD j 0 = 0 ∨ (thing T aa).2.getD j 0 ∈ reach sh T rs := reach_closed W hr2 (List.mem_of_getElem? ha) _ (refs_mem (by rw [List.getD_eq_getElem?_getD, List.getElem?_eq_getElem hjl]; rfl) ef)
          exact iteT ⟨_, rfl, _, rfl, _, rfl, c, _, _, _, rfl, rfl, SqL.of (S6 _ _ hc5), nat0 hcj, ln, _, rfl, look hx (S6 _ _ hln5), nx _ (by rw [if_pos ef])⟩
        | false => exact iteF ⟨_, rfl, _, rfl, c, _, _, _, rfl, rfl, SqL.of (S6 _ _ hc5), nat0 hcj, nx _ (by rw [if_neg (by rw [ef]; decide)])⟩
      · rintro H6 ⟨hD, S6⟩
        rw [show ((thing T aa).2.length : Int).toNat = (thing T aa).2.length by omega, ← trans_range] at hD
        refine ⟨D, _, rfl, .inl ⟨SqL.of hD, fun t nt => ⟨by show 2 ≤ sizeLine; decide, fun r nr => ?_⟩⟩⟩
        have hS6 := S6 _ _ hS5
        have St : S ≠ t := ne_of_none hS6 nt
        have hS7 := same_new nt (o := .tup ((trans (flag sh (thing T aa).1) (reach sh T rs) (thing T aa).2).map V.int)) _ _ hS6
        have Sr : S ≠ r := ne_of_none hS7 nr
        have S8 : Same H5 (upd (upd H6 t (.tup ((trans (flag sh (thing T aa).1) (reach sh T rs) (thing T aa).2).map V.int))) r (.tup [.int (thing T aa).1, .ref t])) := S6.trans ((same_new nt).trans (same_new nr))
        have ht8 := same_new nr (o := .tup [.int (thing T aa).1, .ref t]) _ _ (upd_same (H := H6) (a := t) (o := .tup ((trans (flag sh (thing T aa).1) (reach sh T rs) (thing T aa).2).map V.int)))
        have hr8 : (upd (upd H6 t (.tup ((trans (flag sh (thing T aa).1) (reach sh T rs) (thing T aa).2).map V.int))) r (.tup [.int (thing T aa).1, .ref t])) r = some (.tup [.int (thing T aa).1, .ref t]) := upd_same
        generalize upd (upd H6 t (.tup ((trans (flag sh (thing T aa).1) (reach sh T rs) (thing T aa).2).map V.int))) r (.tup [.int (thing T aa).1, .ref t]) = H8 at S8 ht8 hr8
        have hS8 := S8 _ _ hS5
        have hvl := hv2.len
        rw [List.length_map, List.length_take] at hvl
        have t9 : TupSame H8 (upd H8 S (.lst (vs ++ [.ref r]))) := tupL hS8
        have lt : (trans (flag sh (thing T aa).1) (reach sh T rs) (thing T aa).2).length = (thing T aa).2.length := by unfold trans; exact List.length_mapIdx
        have nlo : lo ≠ S := fun z => by rw [z, nS] at hlo1; cases hlo1
        have nln : ln ≠ S := fun z => by rw [z, nS] at hln1; cases hln1
        refine ⟨S, _, _, rfl, rfl, hS8, small1000 (by omega), _, _, _, _, _, _, rfl, upd_same, ?_, by rw [upd_ne nlo]; exact S8 _ _ hlo5, by rw [upd_ne nln]; exact S8 _ _ hln5, same_at nS0 (S3.trans (S5.trans S8))⟩
        rw [List.take_add_one, ha, List.map_append]
        refine (hv2.same (fun c xs e => t9 _ _ (S8 _ _ (S5 _ _ e)))).app (.cons ?_ .nil)
        exact .tup (xs := [.int (thing T aa).1, .ref t]) (t9 _ _ hr8) (by show 2 ≤ 1000; decide) (.cons (.int _) (.cons (.tup (t9 _ _ ht8) (by rw [List.length_map, lt]; exact hs1) ints_dv) .nil))
    · rintro σ H2 ⟨o5, o6, o7, o8, o9, vs, rfl, hS, hv2, hlo, hln, S3⟩
      rw [List.length_map, List.take_length] at hv2
      have hu2 := S3 _ _ hu
      refine ⟨_, rfl, u, rfl, ⟨_, SqT.of hu2⟩, fun D nD => ?_⟩
      have nD0 : H D = none := S3.free nD
      refine lc_tup (K := K) (a := u) (xs := rs.map V.int) (fun i H3 => H3 D = some (.lst ((rs.take i).map fun x => V.int (num (reach sh T rs) x))) ∧ Same H2 H3) ⟨upd_same, same_new nD⟩ ?_ ?_ ?_
      · rintro i H3 _ ⟨_, S4⟩
        exact SqT.of (S4 _ _ hu2)
      · rintro i x H3 hxi ⟨hD, S4⟩
        rw [List.getElem?_map] at hxi
        obtain ⟨r, er, rfl⟩ := Option.map_eq_some_iff.mp hxi
        have hi := (List.getElem?_eq_some_iff.mp er).1
        refine ⟨rfl, iteT (B := H3 D = some (.lst ((rs.take (i + 1)).map fun x => V.int (num (reach sh T rs) x))) ∧ Same H2 H3) ?_⟩
        refine ⟨_, rfl, _, rfl, ln, _, rfl, look (reach_roots0 W hr2 (List.mem_of_getElem? er)) (S4 _ _ hln), _, hD, by rw [List.length_map, List.length_take]; exact small1000 (by omega), ?_, same_at nD S4⟩
        rw [upd_same, List.take_add_one, er, List.map_append]
        rfl
      · rintro H3 ⟨hD, S4⟩
        rw [List.length_map, List.take_length] at hD
        refine ⟨D, _, rfl, .inl ⟨SqL.of hD, fun t nt => ?_⟩⟩
        have S5 : Same H2 (upd H3 t (.tup (rs.map fun x => V.int (num (reach sh T rs) x)))) := S4.trans (same_new nt)
        have ht5 : (upd H3 t (.tup (rs.map fun x => V.int (num (reach sh T rs) x)))) t = some (.tup (rs.map fun x => V.int (num (reach sh T rs) x))) := upd_same
        obtain ⟨H5, eH5⟩ : ∃ H5, H5 = upd H3 t (.tup (rs.map fun x => V.int (num (reach sh T rs) x))) := ⟨_, rfl⟩
        rw [← eH5] at S5 ht5
        have hS5 := S5 _ _ hS
        refine ⟨_, rfl, S, _, rfl, .inl ⟨SqL.of (by rw [← eH5]; exact hS5), fun t2 nt2 => ⟨by show 2 ≤ sizeLine; decide, fun r nr => ?_⟩⟩⟩
        rw [← eH5] at nt2 nr ⊢
        have S6 : Same H5 (upd (upd H5 t2 (.tup vs)) r (.tup [.ref t, .ref t2])) := (same_new nt2).trans (same_new nr)
        have ht6 := S6 _ _ ht5
        have h26 := same_new nr (o := .tup [.ref t, .ref t2]) _ _ (upd_same (H := H5) (a := t2) (o := .tup vs))
        have hvl := hv2.len
        rw [List.length_map] at hvl
        refine q _ _ (S3.trans (S5.trans S6)) (.tup (xs := [.ref t, .ref t2]) upd_same (by show 2 ≤ 1000; decide) (.cons (.tup ht6 (by rw [List.length_map]; exact hul) ?_) (.cons (.tup h26 (by omega) (hv2.same (TupSame.of (S5.trans S6)))) .nil)))
        have := ints_dv (H := upd (upd H5 t2 (.tup vs)) r (.tup [.ref t, .ref t2])) (xs := rs.map (num (reach sh T rs)))
        rw [List.map_map] at this
        exact this
end
end PH

/-! One deed on both. -/
namespace PH
open PySem PySem.Spec PyProof.Rows L2 KA KI KK PV T ET
theorem PhAt.lst {C : Addr} {H : Hp} {p : Addr} {a : Pa} {sh : List (List Bool)} {T : List Thing} (h : PhAt C H p a sh T) : ∀ b ∈ a.aK :: a.aB :: a.bs, ∃ xs, H b = some (.lst xs) := fun b hb => by
  rcases List.mem_cons.mp hb with rfl | hb
  · exact ⟨_, h.kinds⟩
  rcases List.mem_cons.mp hb with rfl | hb
  · exact ⟨_, h.bodies⟩
  obtain ⟨i, hi, e⟩ := List.getElem_of_mem hb
  have hT : i < T.length := by rw [← h.len]; exact hi
  exact ⟨_, h.each i T[i] b (List.getElem?_eq_getElem hT) (by rw [List.getElem?_eq_getElem hi, e])⟩
theorem OwAt.lst {H : Hp} {d : Addr} {o : Oa} {sh : List (List Bool)} {T : List Thing} (h : OwAt H d o sh T) : ∀ b ∈ o.aT :: (o.ts ++ o.os), ∃ xs, H b = some (.lst xs) := fun b hb => by
  rcases List.mem_cons.mp hb with rfl | hb
  · exact ⟨_, h.things⟩
  have lt := h.lt
  have lo := h.lo
  rcases List.mem_append.mp hb with hb | hb
  · obtain ⟨i, hi, e⟩ := List.getElem_of_mem hb
    have h1 : i < (((0, []) : Thing) :: T).length := by simp; omega
    have h2 : i < o.os.length := by omega
    exact ⟨_, (h.each i _ b _ (List.getElem?_eq_getElem h1) (by rw [List.getElem?_eq_getElem hi, e]) (List.getElem?_eq_getElem h2)).1⟩
  · obtain ⟨i, hi, e⟩ := List.getElem_of_mem hb
    have h1 : i < (((0, []) : Thing) :: T).length := by simp; omega
    have h2 : i < o.ts.length := by omega
    exact ⟨_, (h.each i _ _ b (List.getElem?_eq_getElem h1) (List.getElem?_eq_getElem h2) (by rw [List.getElem?_eq_getElem hi, e])).2⟩
theorem PhAt.keptL {C : Addr} {H H' : Hp} {p : Addr} {a : Pa} {sh : List (List Bool)} {T : List Thing} {l : List Addr} (h : PhAt C H p a sh T) (k : KeptL l H H') (hl : ∀ b ∈ l, ∃ xs, H b = some (.lst xs)) (hn : ∀ b ∈ a.aK :: a.aB :: a.bs, b ∉ l) : PhAt C H' p a sh T := by
  refine ⟨k _ _ (fun z => ?_) h.at_, h.sh.same (k.tups hl), k _ _ (hn _ (by simp)) h.kinds, k _ _ (hn _ (by simp)) h.bodies, h.len, fun i t b e1 e2 => k _ _ (hn _ ?_) (h.each i t b e1 e2), h.nd⟩
  · obtain ⟨xs, hx⟩ := hl _ z
    rw [h.at_] at hx
    cases hx
  · have := List.mem_of_getElem? e2
    simp [this]
theorem OwAt.keptL {H H' : Hp} {d : Addr} {o : Oa} {sh : List (List Bool)} {T : List Thing} {l : List Addr} (h : OwAt H d o sh T) (k : KeptL l H H') (hl : ∀ b ∈ l, ∃ xs, H b = some (.lst xs)) (hn : ∀ b ∈ o.aT :: (o.ts ++ o.os), b ∉ l) : OwAt H' d o sh T := by
  refine ⟨k _ _ (fun z => ?_) h.at_, h.sh.same (k.tups hl), k _ _ (hn _ (by simp)) h.things, h.lt, h.lo, fun i t b c e1 e2 e3 => ⟨k _ _ (hn _ ?_) (h.each i t b c e1 e2 e3).1, k _ _ (hn _ ?_) (h.each i t b c e1 e2 e3).2⟩, h.nd⟩
  · obtain ⟨xs, hx⟩ := hl _ z
    rw [h.at_] at hx
    cases hx
  · have := List.mem_of_getElem? e2
    simp [this]
  · have := List.mem_of_getElem? e3
    simp [this]
theorem OwAt.put {H : Hp} {d : Addr} {o : Oa} {sh : List (List Bool)} {T : List Thing} (h : OwAt H d o sh T) {n : Nat} {t : Thing} {c : Addr} {ys : List Int} (ht : T[n]? = some t) (ec : o.os[n + 1]? = some c) :
    OwAt (upd H c (.lst (ys.map V.int))) d o sh (T.set n (t.1, ys)) := by
  have hn := (List.getElem?_eq_some_iff.mp ht).1
  have nc := (List.getElem?_eq_some_iff.mp ec).1
  have nt1 : n + 1 < o.ts.length := by rw [h.lt]; omega
  have ht0 : (((0, []) : Thing) :: T)[n + 1]? = some t := ht
  have hc := (h.each _ t _ c ht0 (List.getElem?_eq_getElem nt1) ec).2
  have mc : c ∈ o.os := List.mem_of_getElem? ec
  have nd := h.nd
  rw [List.nodup_cons, List.nodup_append] at nd
  obtain ⟨n1, n2, n3, n4⟩ := nd
  refine ⟨?_, h.sh.same (tupL hc), ?_, by rw [h.lt, List.length_set], by rw [h.lo, List.length_set], ?_, h.nd⟩
  · rw [upd_ne (ne_of h.at_ hc (by intro z; cases z))]
    exact h.at_
  · rw [upd_ne (fun z => n1 (by rw [z]; exact List.mem_append_right _ mc))]
    exact h.things
  · intro i u b c' hu eb ec'
    have hbc : b ≠ c := fun z => n4 b (List.mem_of_getElem? eb) c mc z
    rw [upd_ne hbc]
    cases i with
    | zero =>
      have : c' ≠ c := fun z => by
        have := (List.getElem?_inj nc n3).mp (ec.trans (by rw [← z, ec']))
        omega
      rw [upd_ne this]
      exact h.each 0 u b c' (by simpa using hu) eb ec'
    | succ i =>
      have hu : (T.set n (t.1, ys))[i]? = some u := hu
      rw [List.getElem?_set] at hu
      by_cases e : n = i
      · subst e
        rw [if_pos rfl, if_pos hn] at hu
        cases hu
        rw [ec] at ec'
        cases ec'
        exact ⟨(h.each _ t b c ht0 eb ec).1, upd_same⟩
      · rw [if_neg e] at hu
        have : c' ≠ c := fun z => by
          have := (List.getElem?_inj nc n3).mp (ec.trans (by rw [← z, ec']))
          omega
        rw [upd_ne this]
        exact h.each (i + 1) u b c' hu eb ec'
theorem OwAt.make {H H1 : Hp} {d : Addr} {o : Oa} {sh : List (List Bool)} {T : List Thing} (h : OwAt H d o sh T) {k : Int} {ys : List Int} {tn cn : Addr} (nt : H tn = none) (nc : H cn = none) (ne : tn ≠ cn) (kp : KeptL [o.aT] H H1)
    (e1 : H1 tn = some (.lst [.int k, .ref cn])) (e2 : H1 cn = some (.lst (ys.map V.int))) (e3 : H1 o.aT = some (.lst ((o.ts ++ [tn]).map V.ref))) :
    OwAt H1 d { o with ts := o.ts ++ [tn], os := o.os ++ [cn] } sh (T ++ [(k, ys)]) := by
  have hl : ∀ b ∈ [o.aT], ∃ xs, H b = some (.lst xs) := fun b hb => by
    have : b = o.aT := by simpa using hb
    subst this
    exact ⟨_, h.things⟩
  have nd := h.nd
  rw [List.nodup_cons, List.nodup_append] at nd
  obtain ⟨n1, n2, n3, n4⟩ := nd
  have fr : ∀ {b : Addr}, b ∈ o.aT :: (o.ts ++ o.os) → b ≠ tn ∧ b ≠ cn := fun hb => by
    obtain ⟨xs, hx⟩ := h.lst _ hb
    exact ⟨ne_of_none hx nt, ne_of_none hx nc⟩
  have lt := h.lt
  have lo := h.lo
  refine ⟨kp _ _ (fun z => ?_) h.at_, h.sh.same (kp.tups hl), e3, by simp [lt], by simp [lo], ?_, ?_⟩
  · obtain ⟨xs, hx⟩ := hl _ z
    rw [h.at_] at hx
    cases hx
  · intro i t b c ht hb hc
    have hb : (o.ts ++ [tn])[i]? = some b := hb
    have hc : (o.os ++ [cn])[i]? = some c := hc
    have ht : (((0, []) : Thing) :: T ++ [(k, ys)])[i]? = some t := ht
    rw [List.getElem?_append] at ht hb hc
    have e0 : (((0, []) : Thing) :: T).length = T.length + 1 := rfl
    by_cases hi : i < T.length + 1
    · rw [if_pos (by rw [e0]; exact hi)] at ht
      rw [if_pos (by omega)] at hb hc
      have hbc := h.each i t b c ht hb hc
      have mb : b ∈ o.ts := List.mem_of_getElem? hb
      have mc : c ∈ o.os := List.mem_of_getElem? hc
      exact ⟨kp _ _ (fun z => n1 (by have : b = o.aT := by simpa using z
                                     rw [← this]; exact List.mem_append_left _ mb)) hbc.1, kp _ _ (fun z => n1 (by have : c = o.aT := by simpa using z
                                                                                                                   rw [← this]; exact List.mem_append_right _ mc)) hbc.2⟩
    · rw [if_neg (by rw [e0]; exact hi)] at ht
      rw [if_neg (by omega)] at hb hc
      have h0 : i - (T.length + 1) = 0 := by
        have := (List.getElem?_eq_some_iff.mp ht).1
        simp at this
        omega
      rw [e0, h0] at ht
      rw [lt, h0] at hb
      rw [lo, h0] at hc
      cases ht
      cases hb
      cases hc
      exact ⟨e1, e2⟩
  · show (o.aT :: ((o.ts ++ [tn]) ++ (o.os ++ [cn]))).Nodup
    rw [List.nodup_cons, List.nodup_append, List.nodup_append, List.nodup_append]
    have f1 : ∀ b ∈ o.ts, b ≠ tn ∧ b ≠ cn := fun b hb => fr (List.mem_cons_of_mem _ (List.mem_append_left _ hb))
    have f2 : ∀ b ∈ o.os, b ≠ tn ∧ b ≠ cn := fun b hb => fr (List.mem_cons_of_mem _ (List.mem_append_right _ hb))
    have f0 := fr (b := o.aT) List.mem_cons_self
    refine ⟨fun z => ?_, ⟨n2, by simp, fun a ha b hb => by rw [List.mem_singleton.mp hb]; exact (f1 a ha).1⟩, ⟨n3, by simp, fun a ha b hb => by rw [List.mem_singleton.mp hb]; exact (f2 a ha).2⟩, fun a ha b hb => ?_⟩
    · rcases List.mem_append.mp z with z | z
      · rcases List.mem_append.mp z with z | z
        · exact n1 (List.mem_append_left _ z)
        · exact f0.1 (List.mem_singleton.mp z)
      · rcases List.mem_append.mp z with z | z
        · exact n1 (List.mem_append_right _ z)
        · exact f0.2 (List.mem_singleton.mp z)
    · rcases List.mem_append.mp ha with ha | ha
      · rcases List.mem_append.mp hb with hb | hb
        · exact n4 a ha b hb
        · rw [List.mem_singleton.mp hb]; exact (f1 a ha).2
      · rw [List.mem_singleton.mp ha]
        rcases List.mem_append.mp hb with hb | hb
        · exact fun z => (f2 b hb).1 z.symm
        · rw [List.mem_singleton.mp hb]; exact ne
theorem OkW.put {sh : List (List Bool)} {T : List Thing} (W : OkW sh T) {n i : Nat} {t : Thing} {x : Int} (ht : T[n]? = some t) (hx : if flag sh t.1 i = true then 0 ≤ x ∧ x ≤ T.length else -2147483648 ≤ x ∧ x ≤ 2147483647) : OkW sh (T.set n (t.1, t.2.set i x)) := by
  have mt : t ∈ T := List.mem_of_getElem? ht
  have hm : ∀ u ∈ T.set n (t.1, t.2.set i x), u ∈ T ∨ u = (t.1, t.2.set i x) := fun u hu => List.mem_or_eq_of_mem_set hu
  refine ⟨W.s1, W.s2, by rw [List.length_set]; exact W.t1, fun u hu => ?_, fun u hu => ?_, fun u hu j y hy => ?_⟩
  · rcases hm u hu with h | rfl
    · exact W.k u h
    · exact W.k t mt
  · rcases hm u hu with h | rfl
    · exact W.z u h
    · show sizeOk sh t.1 (t.2.set i x).length
      rw [List.length_set]
      exact W.z t mt
  · rw [List.length_set]
    rcases hm u hu with h | rfl
    · exact W.v u h j y hy
    · have hy : (t.2.set i x)[j]? = some y := hy
      rw [List.getElem?_set] at hy
      by_cases e : i = j
      · subst e
        rw [if_pos rfl] at hy
        split at hy
        · cases hy
          exact hx
        · cases hy
      · rw [if_neg e] at hy
        exact W.v t mt j y hy
theorem OkW.make {sh : List (List Bool)} {T : List Thing} (W : OkW sh T) {k : Int} {n : Nat} (hl : T.length + 1 ≤ 500) (k1 : -3 ≤ k) (k2 : k < sh.length) (hs : sizeOk sh k n) : OkW sh (T ++ [(k, List.replicate n 0)]) := by
  have hm : ∀ u ∈ T ++ [(k, List.replicate n (0 : Int))], u ∈ T ∨ u = (k, List.replicate n 0) := fun u hu => (List.mem_append.mp hu).imp id List.mem_singleton.mp
  refine ⟨W.s1, W.s2, by rw [List.length_append]; exact hl, fun u hu => ?_, fun u hu => ?_, fun u hu j y hy => ?_⟩
  · rcases hm u hu with h | rfl
    · exact W.k u h
    · exact ⟨k1, k2⟩
  · rcases hm u hu with h | rfl
    · exact W.z u h
    · show sizeOk sh k (List.replicate n (0 : Int)).length
      rw [List.length_replicate]
      exact hs
  · rw [List.length_append]
    rcases hm u hu with h | rfl
    · have := W.v u h j y hy
      split
      · rename_i e
        rw [if_pos e] at this
        simp
        omega
      · rename_i e
        rw [if_neg e] at this
        exact this
    · have hy : (List.replicate n (0 : Int))[j]? = some y := hy
      have : y = 0 := List.eq_of_mem_replicate (List.mem_of_getElem? hy)
      subst this
      split
      · simp
        omega
      · exact ⟨by decide, by decide⟩
/-- the addresses of what changes -/
def adr (a : Pa) (o : Oa) (bg b : Addr) : Prop := b = bg ∨ b ∈ a.aK :: a.aB :: a.bs ∨ b ∈ o.aT :: (o.ts ++ o.os)
structure Wd (C : Addr) (H : Hp) (hp d bg : Addr) (a : Pa) (o : Oa) (sh : List (List Bool)) (T : List Thing) : Prop where
  ph : PhAt C H hp a sh T
  ow : OwAt H d o sh T
  bud : ∃ z, H bg = some (.lst [.int z])
  dis : ∀ b ∈ a.aK :: a.aB :: a.bs, b ∉ o.aT :: (o.ts ++ o.os)
  bgA : bg ∉ a.aK :: a.aB :: a.bs
  bgO : bg ∉ o.aT :: (o.ts ++ o.os)
  ok : OkW sh T
theorem Wd.lst {C : Addr} {H : Hp} {hp d bg : Addr} {a : Pa} {o : Oa} {sh : List (List Bool)} {T : List Thing} (w : Wd C H hp d bg a o sh T) {b : Addr} (h : adr a o bg b) : ∃ xs, H b = some (.lst xs) := by
  rcases h with rfl | h | h
  · obtain ⟨z, hz⟩ := w.bud
    exact ⟨_, hz⟩
  · exact w.ph.lst b h
  · exact w.ow.lst b h
/-- nothing of these is touched -/
theorem Wd.keptL {C : Addr} {H H' : Hp} {hp d bg : Addr} {a : Pa} {o : Oa} {sh : List (List Bool)} {T : List Thing} {l : List Addr} (w : Wd C H hp d bg a o sh T) (k : KeptL l H H') (hl : ∀ b ∈ l, ∃ xs, H b = some (.lst xs)) (hn : ∀ b ∈ l, ¬ adr a o bg b) : Wd C H' hp d bg a o sh T := by
  refine ⟨w.ph.keptL k hl fun b hb z => hn b z (.inr (.inl hb)), w.ow.keptL k hl fun b hb z => hn b z (.inr (.inr hb)), ?_, w.dis, w.bgA, w.bgO, w.ok⟩
  obtain ⟨z, hz⟩ := w.bud
  exact ⟨z, k _ _ (fun y => hn _ y (.inl rfl)) hz⟩
theorem Wd.same {C : Addr} {H H' : Hp} {hp d bg : Addr} {a : Pa} {o : Oa} {sh : List (List Bool)} {T : List Thing} (w : Wd C H hp d bg a o sh T) (s : Same H H') : Wd C H' hp d bg a o sh T :=
  w.keptL (l := []) (KeptL.of_same s) (fun _ h => nomatch h) (fun _ h => nomatch h)
def KeptW (p : Addr) (a : Pa) (o : Oa) (bg : Addr) (H H' : Hp) : Prop := ∀ b u, b ≠ p → ¬ adr a o bg b → H b = some u → H' b = some u
end PH

/-! One deed on both: the reading. -/
namespace PH
open PySem PySem.Spec PyProof.Rows L2 KA KI KK PV T ET
section
variable {P : Program} {w : World} {K : PySem.W.Frag} {mg : Str → Option Value} {base : Heap} {C_Tracing C_PlainHeap : Addr}
def PlQ (C hp d bg p : Addr) (a : Pa) (o : Oa) (sh : List (List Bool)) (T : List Thing) (n : Nat) (H : Hp) (Q : VK) : Prop :=
  ∀ (a' : Pa) (o' : Oa) (T' : List Thing) (H' : Hp) (m : Nat), Wd C H' hp d bg a' o' sh T' → FeedAt H' p m → m ≤ n + 40 → (∀ b, adr a' o' bg b → adr a o bg b ∨ H b = none) → T'.length ≤ T.length + 1 → KeptW p a o bg H H' → Q (.bl true) H'
def spPlain (C : Addr) : Sp := fun vs H Q _ => ∃ (hp d p bg : Addr) (a : Pa) (o : Oa) (sh : List (List Bool)) (T : List Thing) (n : Nat), vs = [.ref hp, .ref d, .ref p, .ref bg] ∧ FeedAt H p n ∧ n + 40 ≤ 2 ^ 60 ∧ Wd C H hp d bg a o sh T ∧ ¬ adr a o bg p ∧ T.length + 1 ≤ 500 ∧ PlQ C hp d bg p a o sh T n H Q
/-- nothing but draws and what is new -/
theorem plq_same {C hp d bg p : Addr} {a : Pa} {o : Oa} {sh : List (List Bool)} {T : List Thing} {n m : Nat} {H H' : Hp} {Q : VK} (q : PlQ C hp d bg p a o sh T n H Q) (w : Wd C H' hp d bg a o sh T) (F : FeedAt H' p m) (hm : m ≤ n + 40) (k : KeptL [p] H H') : Q (.bl true) H' :=
  q a o T H' m w F hm (fun b h => .inl h) (Nat.le_succ _) fun b u nb _ e => k b u (by simpa using nb) e
theorem Wd.feed {C : Addr} {H H' : Hp} {hp d bg p : Addr} {a : Pa} {o : Oa} {sh : List (List Bool)} {T : List Thing} {n : Nat} (w : Wd C H hp d bg a o sh T) (k : KeptL [p] H H') (F : FeedAt H p n) (hp2 : ¬ adr a o bg p) : Wd C H' hp d bg a o sh T :=
  w.keptL k (fun b hb => by
    obtain ⟨x, y, z, e, _⟩ := F
    have : b = p := by simpa using hb
    subst this
    exact ⟨_, e⟩) fun b hb => by
    have : b = p := by simpa using hb
    subst this
    exact hp2
theorem Wd.bgt {C : Addr} {H H' : Hp} {hp d bg p : Addr} {a : Pa} {o : Oa} {sh : List (List Bool)} {T : List Thing} (w : Wd C H hp d bg a o sh T) (k : KeptL [p, bg] H H') (pb : ∀ b ∈ [p, bg], ∃ xs, H b = some (.lst xs)) (np : ¬ adr a o bg p) (hz : ∃ z, H' bg = some (.lst [.int z])) : Wd C H' hp d bg a o sh T := by
  refine ⟨w.ph.keptL k pb fun b hb z => ?_, w.ow.keptL k pb fun b hb z => ?_, hz, w.dis, w.bgA, w.bgO, w.ok⟩
  · rcases (by simpa using z : b = p ∨ b = bg) with rfl | rfl
    · exact np (.inr (.inl hb))
    · exact w.bgA hb
  · rcases (by simpa using z : b = p ∨ b = bg) with rfl | rfl
    · exact np (.inr (.inr hb))
    · exact w.bgO hb
theorem dOk_ints {n : Nat} (rs : List Int) : dOk (n + 1) (inPy rs) := fun d hd => by
  obtain ⟨i, _, rfl⟩ := List.mem_map.mp hd
  cases n <;> trivial
theorem ints_shaped (xs : List Int) : SeqAt.shaped (.list (xs.map .int)) = true := by
  have e1 : PyData.canLayAll0 (xs.map PyData.int) = true := by
    induction xs with
    | nil => rfl
    | cons x xs ih => simp [PyData.canLayAll0, PyData.canLay0, ih]
  have e2 : PyData.depthAll (xs.map PyData.int) ≤ 1 := by
    induction xs with
    | nil => simp [PyData.depthAll]
    | cons x xs ih =>
      have e3 : PyData.canLayAll0 (xs.map PyData.int) = true := by
        simp [PyData.canLayAll0] at e1
        simpa using e1.2
      have := ih e3
      simp [PyData.depthAll, PyData.depth] at *
      omega
  unfold SeqAt.shaped
  simp [PyData.canLay0, PyData.depth, e1]
  omega
theorem dv_i {H : Hp} (i : Int) : Dv H (.int i) (.int i) := .int i
theorem ok_plain {f : Addr} {fd : FuncData} (G : Gd K mg "_law_plain" s_law_plain ["_law_heap", "_law_own", "_law_feed_here", "_law_budget"] f fd) (X : Lw K mg C_Tracing C_PlainHeap) : FnOk P w K mg base CX0 7 f fd ["_law_heap", "_law_own", "_law_feed_here", "_law_budget"] (spPlain C_PlainHeap) := by
  obtain ⟨f__law_equal, d__law_equal, G__law_equal⟩ := X.f__law_equal
  have H__law_equal : FnOk P w K mg base CX0 6 f__law_equal d__law_equal ["_law_found", "_law_due"] (spEq 5) := ok_equal5 G__law_equal X
  obtain ⟨f_PlainHeap_get, d_PlainHeap_get, M_PlainHeap_get⟩ := X.m_PlainHeap_get
  have H_PlainHeap_get : FnOk P w K mg base CX0 4 f_PlainHeap_get d_PlainHeap_get ["self", "address", "slot"] (spGet C_PlainHeap) := ok_get M_PlainHeap_get X
  obtain ⟨f_PlainHeap_put, d_PlainHeap_put, M_PlainHeap_put⟩ := X.m_PlainHeap_put
  have H_PlainHeap_put : FnOk P w K mg base CX0 4 f_PlainHeap_put d_PlainHeap_put ["self", "address", "slot", "value"] (spPut C_PlainHeap) := ok_put M_PlainHeap_put X
  obtain ⟨f__law_flags, d__law_flags, G__law_flags⟩ := X.f__law_flags
  have H__law_flags : FnOk P w K mg base CX0 1 f__law_flags d__law_flags ["_law_own", "_law_number"] (spFlags) := ok_flags G__law_flags X
  obtain ⟨f__law_draw, d__law_draw, G__law_draw⟩ := X.f__law_draw
  have H__law_draw : FnOk P w K mg base CX0 1 f__law_draw d__law_draw ["_law_feed_here", "_law_many"] (spDk) := ok_drw G__law_draw X
  obtain ⟨f__law_worth, d__law_worth, G__law_worth⟩ := X.f__law_worth
  have H__law_worth : FnOk P w K mg base CX0 3 f__law_worth d__law_worth ["_law_feed_here"] (spWorth) := ok_worth G__law_worth X
  obtain ⟨f_PlainHeap_slots, d_PlainHeap_slots, M_PlainHeap_slots⟩ := X.m_PlainHeap_slots
  have H_PlainHeap_slots : FnOk P w K mg base CX0 3 f_PlainHeap_slots d_PlainHeap_slots ["self", "address"] (spSlots C_PlainHeap) := ok_slots M_PlainHeap_slots X
  obtain ⟨f_PlainHeap_kind, d_PlainHeap_kind, M_PlainHeap_kind⟩ := X.m_PlainHeap_kind
  have H_PlainHeap_kind : FnOk P w K mg base CX0 3 f_PlainHeap_kind d_PlainHeap_kind ["self", "address"] (spKind C_PlainHeap) := ok_kind M_PlainHeap_kind X
  obtain ⟨f__law_collection, d__law_collection, G__law_collection⟩ := X.f__law_collection
  have H__law_collection : FnOk P w K mg base CX0 6 f__law_collection d__law_collection ["_law_heap", "_law_feed_here", "_law_roots_here"] (spColl C_PlainHeap) := ok_coll G__law_collection X
  obtain ⟨f_PlainHeap_make, d_PlainHeap_make, M_PlainHeap_make⟩ := X.m_PlainHeap_make
  have H_PlainHeap_make : FnOk P w K mg base CX0 5 f_PlainHeap_make d_PlainHeap_make ["self", "kind", "slots", "roots"] (spMake C_PlainHeap) := ok_make M_PlainHeap_make X
  obtain ⟨f__law_new_kind, d__law_new_kind, G__law_new_kind⟩ := X.f__law_new_kind
  have H__law_new_kind : FnOk P w K mg base CX0 3 f__law_new_kind d__law_new_kind ["_law_feed_here", "_law_shapes_here", "_law_budget"] (spNewk) := ok_newk G__law_new_kind X
  obtain ⟨f__law_roots, d__law_roots, G__law_roots⟩ := X.f__law_roots
  have H__law_roots : FnOk P w K mg base CX0 2 f__law_roots d__law_roots ["_law_feed_here", "_law_many"] (spRoots) := ok_roots G__law_roots X
  obtain ⟨f__law_one, d__law_one, G__law_one⟩ := X.f__law_one
  have H__law_one : FnOk P w K mg base CX0 2 f__law_one d__law_one ["_law_feed_here", "_law_things"] (spOl) := ok_oneL G__law_one X
  refine G.F.ok sc_law_plain (fun vs H Q E h => ?_) (fun cdv A outer s H vs Q E hr h => ?_)
  · obtain ⟨hp, d, p, bg, a, o, sh, T, n, rfl, _⟩ := h; rfl
  · obtain ⟨hp, d, p, bg, a, o, sh, T, n, rfl, hF, hn, w0, np, hT, q⟩ := h
    refine ⟨_, (C8.pss_cut (ps_set (i := 4) sc_law_plain.nd rfl (Or.inl rfl) (pe_op op_sub (pe_callB call_len (by rfl) X.b_len PySem.boot_len (pa_cons (pe_dget (hu_of hr) (pv 1) pe_str (fun _ _ => rfl)) pa_nil)) pe_int))
      (C8.pss_cut (ps_par (i := 5) (j := 6) (by rfl) sc_law_plain.nd rfl rfl (by decide) rfl rfl (pa_cons (pe_call H__law_one (hr.mono (by decide)) (by rfl) G__law_one.g G__law_one.F.kp G__law_one.b .nil pass0 (pa_cons (pv 2) (pa_cons (pe_lst (pa_cons pe_str (pa_cons pe_str (pa_cons pe_str (pa_cons pe_str (pa_cons pe_str (pa_cons pe_str (pa_cons pe_str pa_nil)))))))) pa_nil))) (pa_cons (pe_call H__law_roots (hr.mono (by decide)) (by rfl) G__law_roots.g G__law_roots.F.kp G__law_roots.b .nil pass0 (pa_cons (pv 2) (pa_cons (pv 4) pa_nil))) pa_nil)) (by rfl))
      (pss_cons (ps_if (pt_cmpR op_eq (pv 5) pe_str (nomark _))
        (pss_cons (ps_set (i := 7) sc_law_plain.nd rfl (Or.inl rfl) (pe_call H__law_new_kind (hr.mono (by decide)) (by rfl) G__law_new_kind.g G__law_new_kind.F.kp G__law_new_kind.b .nil pass0 (pa_cons (pv 2) (pa_cons (pe_dget (hu_of hr) (pv 1) pe_str (fun _ _ => rfl)) (pa_cons (pv 3) pa_nil)))))
      (pss_cons (ps_if (pt_cmpR op_isN (pv 7) pe_non (nomark _))
        (pss_one (ps_ret pe_bl)) pss_nil)
      (pss_cons (ps_expr (pe_bm PySem.F.plainAttrs_list PySem.F.slot_list_append PySem.F.type_list_append mt_append (pe_dget (hu_of hr) (pv 1) pe_str (fun _ _ => rfl)) (pa_cons (pe_lst (pa_cons (pe_ix ix_tup (pv 7) pe_int (fun _ _ => rfl)) (pa_cons (pe_op op_rep (pe_lst (pa_cons pe_int pa_nil)) (pe_ix ix_tup (pv 7) pe_int (fun _ _ => rfl))) pa_nil))) pa_nil)))
      (pss_cons (ps_if (pt_cmpR op_eq (pe_ix ix_tup (pv 7) pe_int (fun _ _ => rfl)) pe_int (nomark _))
        (pss_one (ps_ret (pe_call H__law_equal hr (by rfl) G__law_equal.g G__law_equal.F.kp G__law_equal.b .nil pass0 (pa_cons (pe_methK0 (pv 0) X.cl_PlainHeap M_PlainHeap_make.m H_PlainHeap_make (hr.mono (by decide)) (kb_PlainHeap_make_roots_slots_kind M_PlainHeap_make.F) M_PlainHeap_make.F.kp pass0 (pk_cons (pv 6) (pk_cons (pe_ix ix_tup (pv 7) pe_int (fun _ _ => rfl)) (pk_cons (pe_ix ix_tup (pv 7) pe_int (fun _ _ => rfl)) pk_nil)))) (pa_cons (pe_tup (pa_cons (pe_op op_add (pv 4) pe_int) (pa_cons (pv 6) pa_nil))) pa_nil))))) pss_nil)
      (pss_one (ps_ret (pe_call H__law_equal hr (by rfl) G__law_equal.g G__law_equal.F.kp G__law_equal.b .nil pass0 (pa_cons (pe_meth (pv 0) X.cl_PlainHeap M_PlainHeap_make.m H_PlainHeap_make (hr.mono (by decide)) M_PlainHeap_make.b .nil pass0 (pa_cons (pe_ix ix_tup (pv 7) pe_int (fun _ _ => rfl)) (pa_cons (pe_ix ix_tup (pv 7) pe_int (fun _ _ => rfl)) (pa_cons (pv 6) pa_nil)))) (pa_cons (pe_tup (pa_cons (pe_op op_add (pv 4) pe_int) (pa_cons (pv 6) pa_nil))) pa_nil))))))))) pss_nil)
      (pss_cons (ps_if (pt_cmpR op_eq (pv 5) pe_str (nomark _))
        (pss_one (ps_ret (pe_call H__law_equal hr (by rfl) G__law_equal.g G__law_equal.F.kp G__law_equal.b .nil pass0 (pa_cons (pe_call H__law_collection hr (by rfl) G__law_collection.g G__law_collection.F.kp G__law_collection.b .nil pass0 (pa_cons (pv 0) (pa_cons (pv 2) (pa_cons (pv 6) pa_nil)))) (pa_cons (pv 6) pa_nil))))) pss_nil)
      (pss_cons (ps_set (i := 8) sc_law_plain.nd rfl (Or.inl rfl) (pe_call H__law_draw (hr.mono (by decide)) (by rfl) G__law_draw.g G__law_draw.F.kp G__law_draw.b .nil pass0 (pa_cons (pv 2) (pa_cons (pe_op op_add (pv 4) pe_int) pa_nil))))
      (pss_cons (ps_par (i := 9) (j := 10) (by rfl) sc_law_plain.nd rfl rfl (by decide) rfl rfl (pa_cons (pe_ix ix_list (pe_ix ix_list (pe_dget (hu_of hr) (pv 1) pe_str (fun _ _ => rfl)) (pv 8) (fun _ _ => rfl)) pe_int (fun _ _ => rfl)) (pa_cons (pe_ix ix_list (pe_ix ix_list (pe_dget (hu_of hr) (pv 1) pe_str (fun _ _ => rfl)) (pv 8) (fun _ _ => rfl)) pe_int (fun _ _ => rfl)) pa_nil)) (by rfl))
      (pss_cons (ps_if (pt_cmpR op_eq (pv 8) pe_int (nomark _))
        (pss_one (ps_ret pe_bl)) pss_nil)
      (pss_cons (ps_if (PW.pt (pw_or (pt_not (pt_val (pe_call H__law_equal hr (by rfl) G__law_equal.g G__law_equal.F.kp G__law_equal.b .nil pass0 (pa_cons (pe_meth (pv 0) X.cl_PlainHeap M_PlainHeap_kind.m H_PlainHeap_kind (hr.mono (by decide)) M_PlainHeap_kind.b .nil pass0 (pa_cons (pv 8) pa_nil)) (pa_cons (pv 9) pa_nil))))) (pw_or1 (pt_not (pt_val (pe_call H__law_equal hr (by rfl) G__law_equal.g G__law_equal.F.kp G__law_equal.b .nil pass0 (pa_cons (pe_meth (pv 0) X.cl_PlainHeap M_PlainHeap_slots.m H_PlainHeap_slots (hr.mono (by decide)) M_PlainHeap_slots.b .nil pass0 (pa_cons (pv 8) pa_nil)) (pa_cons (pe_callB call_len (by rfl) X.b_len PySem.boot_len (pa_cons (pv 10) pa_nil)) pa_nil))))))))
        (pss_one (ps_ret pe_bl)) pss_nil)
      (pss_cons (ps_if (PW.pt (pw_or (pt_not (pt_val (pe_call H__law_equal hr (by rfl) G__law_equal.g G__law_equal.F.kp G__law_equal.b .nil pass0 (pa_cons (pe_methK0 (pv 0) X.cl_PlainHeap M_PlainHeap_kind.m H_PlainHeap_kind (hr.mono (by decide)) (kb_PlainHeap_kind_address M_PlainHeap_kind.F) M_PlainHeap_kind.F.kp pass0 (pk_cons (pv 8) pk_nil)) (pa_cons (pv 9) pa_nil))))) (pw_or1 (pt_not (pt_val (pe_call H__law_equal hr (by rfl) G__law_equal.g G__law_equal.F.kp G__law_equal.b .nil pass0 (pa_cons (pe_methK0 (pv 0) X.cl_PlainHeap M_PlainHeap_slots.m H_PlainHeap_slots (hr.mono (by decide)) (kb_PlainHeap_slots_address M_PlainHeap_slots.F) M_PlainHeap_slots.F.kp pass0 (pk_cons (pv 8) pk_nil)) (pa_cons (pe_callB call_len (by rfl) X.b_len PySem.boot_len (pa_cons (pv 10) pa_nil)) pa_nil))))))))
        (pss_one (ps_ret pe_bl)) pss_nil)
      (pss_cons (ps_if (pt_cmpR (op_eqD hr.units) (pv 10) (pe_lst pa_nil) (nomark _))
        (pss_one (ps_ret pe_bl)) pss_nil)
      (pss_cons (ps_set (i := 11) sc_law_plain.nd rfl (Or.inl rfl) (pe_call H__law_draw (hr.mono (by decide)) (by rfl) G__law_draw.g G__law_draw.F.kp G__law_draw.b .nil pass0 (pa_cons (pv 2) (pa_cons (pe_callB call_len (by rfl) X.b_len PySem.boot_len (pa_cons (pv 10) pa_nil)) pa_nil))))
      (C8.pss_cut (ps_if (pt_cmpR op_eq (pv 5) pe_str (nomark _))
        (C8.pss_cut (ps_asg (pe_ifExp (pt_val (pe_ix ix_list (pe_call H__law_flags (hr.mono (by decide)) (by rfl) G__law_flags.g G__law_flags.F.kp G__law_flags.b .nil pass0 (pa_cons (pv 1) (pa_cons (pv 8) pa_nil))) (pv 11) (fun _ _ => rfl))) (pe_call H__law_draw (hr.mono (by decide)) (by rfl) G__law_draw.g G__law_draw.F.kp G__law_draw.b .nil pass0 (pa_cons (pv 2) (pa_cons (pe_op op_add (pv 4) pe_int) pa_nil))) (pe_call H__law_worth (hr.mono (by decide)) (by rfl) G__law_worth.g G__law_worth.F.kp G__law_worth.b .nil pass0 (pa_cons (pv 2) pa_nil))) (pg_sub (pv 10) (pv 11) set_list))
      (pss_cons (ps_if (PW.pt (pw_and (pt_cmpR op_lt (pv 11) pe_int (nomark _)) (pw_and1 (pt_cmpR op_notN (pe_meth (pv 0) X.cl_PlainHeap M_PlainHeap_put.m H_PlainHeap_put (hr.mono (by decide)) M_PlainHeap_put.b .nil pass0 (pa_cons (pv 8) (pa_cons (pv 11) (pa_cons (pe_ix ix_list (pv 10) (pv 11) (fun _ _ => rfl)) pa_nil)))) pe_non (nomark _)))))
        (pss_one (ps_ret pe_bl)) pss_nil)
      (pss_one (ps_if (PW.pt (pw_and (pt_cmpR op_gt (pv 11) pe_int (nomark _)) (pw_and1 (pt_cmpR op_notN (pe_methK0 (pv 0) X.cl_PlainHeap M_PlainHeap_put.m H_PlainHeap_put (hr.mono (by decide)) (kb_PlainHeap_put_value_slot_address M_PlainHeap_put.F) M_PlainHeap_put.F.kp pass0 (pk_cons (pe_ix ix_list (pv 10) (pv 11) (fun _ _ => rfl)) (pk_cons (pv 11) (pk_cons (pv 8) pk_nil)))) pe_non (nomark _)))))
        (pss_one (ps_ret pe_bl)) pss_nil)))) pss_nil)
      (pss_one (ps_ret (pe_call H__law_equal hr (by rfl) G__law_equal.g G__law_equal.F.kp G__law_equal.b .nil pass0 (pa_cons (pe_meth (pv 0) X.cl_PlainHeap M_PlainHeap_get.m H_PlainHeap_get (hr.mono (by decide)) M_PlainHeap_get.b .nil pass0 (pa_cons (pv 8) (pa_cons (pv 11) pa_nil))) (pa_cons (pe_ix ix_list (pv 10) (pv 11) (fun _ _ => rfl)) pa_nil))))))))))))))))), ?_⟩
    have lt := w0.ow.lt
    refine ⟨fun σ' H' => σ' = [some (.ref hp), some (.ref d), some (.ref p), some (.ref bg), some (.int T.length), none, none, none, none, none, none, none] ∧ H' = H, ?_, ?_⟩
    · refine ⟨_, rfl, d, _, rfl, w0.ow.getT, .ref o.aT, T.length + 1, rfl, .inl ⟨_, SqL.of w0.ow.things, by rw [List.length_map, lt]⟩, _, _, rfl, rfl, ?_, rfl⟩
      have eM : (((T.length + 1 : Nat) : Int) - 1) = (T.length : Int) := by omega
      show [some (V.ref hp), some (.ref d), some (.ref p), some (.ref bg), some (.int (((T.length + 1 : Nat) : Int) - 1)), none, none, none, none, none, none, none] = _
      rw [eM]
    rintro σ0 H0 ⟨rfl, rfl⟩
    refine ⟨fun σ' H' => ∃ (word v : V) (rs : List Int) (m : Nat), σ' = [some (.ref hp), some (.ref d), some (.ref p), some (.ref bg), some (.int T.length), some word, some v, none, none, none, none, none] ∧ (word = .str "make" ∨ word = .str "put" ∨ word = .str "get" ∨ word = .str "collection") ∧ KeptL [p] H0 H' ∧ FeedAt H' p m ∧ m ≤ n + 9 ∧ Dv H' v (inPy rs) ∧ rootsOk T.length rs ∧ rs.length ≤ 7, ?_, ?_⟩
    · refine ⟨_, rfl, by show 7 ≤ sizeLine; decide, fun L nL => ?_⟩
      refine one_new (E := E0) hF (by omega) (by simp) (by simp) (fun word H1 hw k1 F1 => ?_) L nL
      refine ⟨_, rfl, _, rfl, p, T.length, n + 1, rfl, F1, by omega, by omega, fun v rs m H2 k2 F2 hm hv hr2 hrl => ⟨_, _, rfl, word, v, rs, m, rfl, ?_, k1.trans k2, F2, by omega, hv, hr2, hrl⟩⟩
      simp only [List.mem_cons, List.not_mem_nil, or_false] at hw
      rcases hw with h | h | h | h | h | h | h
      · exact .inl h
      · exact .inl h
      · exact .inr (.inl h)
      · exact .inr (.inl h)
      · exact .inr (.inl h)
      · exact .inr (.inr (.inl h))
      · exact .inr (.inr (.inr h))
    rintro σ2 H2 ⟨word, v, rs, m, rfl, hw, k02, F2, hm, hv, hr2, hrl⟩
    have w2 := w0.feed k02 hF np
    have W := w0.ok
    obtain ⟨z0, hz0⟩ := w2.bud
    have bgp : bg ≠ p := fun e => np (.inl e.symm)
    have fp : ∃ xs, H0 p = some (.lst xs) := by
      obtain ⟨x, y, z, e, _⟩ := hF
      exact ⟨_, e⟩
    rcases hw with rfl | hw
    · refine ⟨_, rfl, rfl, _, rfl, iteT ?_⟩
      have pb : ∀ b ∈ [p, bg], ∃ xs, H2 b = some (.lst xs) := fun b hb => by
        rcases (by simpa using hb : b = p ∨ b = bg) with rfl | rfl
        · obtain ⟨x, y, z, e, _⟩ := F2
          exact ⟨_, e⟩
        · exact ⟨_, hz0⟩
      refine ⟨_, rfl, _, rfl, d, _, rfl, w2.ow.getS, _, rfl, p, bg, .ref o.aS, sh, z0, m, rfl, F2, by omega, w2.ow.sh, W.s1, W.s2, hz0, bgp, fun H3 k3 F3 hz3 => ?_, fun t k s H3 k3 F3 hz3 ht k1 k2 hs => ?_⟩
      · have w3 := w2.bgt k3 pb np hz3
        refine ⟨_, rfl, rfl, _, rfl, iteT ?_⟩
        refine q a o T H3 (m + 2) w3 F3 (by omega) (fun b h => .inl h) (Nat.le_succ _) fun b u nb na e => ?_
        exact k3 _ _ (by simp [nb]; exact fun z => na (.inl z)) (k02 _ _ (by simpa using nb) e)
      have w3 := w2.bgt k3 pb np hz3
      have hv3 := hv.same (k3.tups pb)
      refine ⟨_, rfl, rfl, _, rfl, iteF ?_⟩
      refine ⟨_, rfl, d, _, rfl, w3.ow.getT, .inl ⟨rfl, _, SqL.of w3.ow.things⟩, _, rfl, t, _, 0, .int k, rfl, rfl, SqT.of ht, rfl, by show 1 ≤ sizeLine; decide, fun l0 n0 => ?_⟩
      have t0 : t ≠ l0 := ne_of_none ht n0
      refine ⟨_, rfl, t, _, 1, .int s, rfl, rfl, SqT.of (by rw [upd_ne t0]; exact ht), rfl, l0, s, _, rfl, rfl, upd_same, by omega, by have := hs.1; omega, ?_, fun cn ncn => ⟨by show 2 ≤ sizeLine; decide, fun tn ntn => ?_⟩⟩
      · show 1 * (s : Int).toNat ≤ sizeLine
        have := hs.1
        exact Nat.le_of_lt (small1000 (by omega))
      rw [show (s : Int).toNat = s by omega, rep_flat] at ntn ⊢
      have c0 : l0 ≠ cn := ne_of_none upd_same ncn
      rw [upd_ne c0.symm] at ncn
      have ctn : cn ≠ tn := ne_of_none upd_same ntn
      rw [upd_ne ctn.symm] at ntn
      have t0n : l0 ≠ tn := ne_of_none upd_same ntn
      rw [upd_ne t0n.symm] at ntn
      have S4 : Same H3 (upd (upd (upd H3 l0 (.lst [.int 0])) cn (.lst (List.replicate s (.int 0)))) tn (.lst [.int k, .ref cn])) := same_at ntn (same_at ncn (same_new n0))
      have htn4 : (upd (upd (upd H3 l0 (.lst [.int 0])) cn (.lst (List.replicate s (.int 0)))) tn (.lst [.int k, .ref cn])) tn = some (.lst [.int k, .ref cn]) := upd_same
      have hcn4 : (upd (upd (upd H3 l0 (.lst [.int 0])) cn (.lst (List.replicate s (.int 0)))) tn (.lst [.int k, .ref cn])) cn = some (.lst (List.replicate s (.int 0))) := by rw [upd_ne ctn]; exact upd_same
      generalize upd (upd (upd H3 l0 (.lst [.int 0])) cn (.lst (List.replicate s (.int 0)))) tn (.lst [.int k, .ref cn]) = H4 at S4 htn4 hcn4 ⊢
      have hth4 := S4 _ _ w3.ow.things
      refine ⟨o.aT, _, .ref tn, rfl, rfl, hth4, by rw [List.length_map, lt]; exact small1000 (by omega), ?_⟩
      have oT : ∀ b ∈ [o.aT], ∃ xs, H4 b = some (.lst xs) := fun b hb => by
        rw [List.mem_singleton.mp hb]
        exact ⟨_, hth4⟩
      have k4' : KeptL [o.aT] H4 (upd H4 o.aT (.lst (o.ts.map V.ref ++ [.ref tn]))) := fun b u nb e => by rw [upd_ne (by simpa using nb)]; exact e
      have k4 : KeptL [o.aT] H3 (upd H4 o.aT (.lst (o.ts.map V.ref ++ [.ref tn]))) := (KeptL.of_same S4).trans k4'
      have tnT : tn ≠ o.aT := (ne_of_none w3.ow.things ntn).symm
      have cnT : cn ≠ o.aT := (ne_of_none w3.ow.things ncn).symm
      have oT3 : ∀ b ∈ [o.aT], ∃ xs, H3 b = some (.lst xs) := fun b hb => by
        rw [List.mem_singleton.mp hb]
        exact ⟨_, w3.ow.things⟩
      have ow4 : OwAt (upd H4 o.aT (.lst (o.ts.map V.ref ++ [.ref tn]))) d { o with ts := o.ts ++ [tn], os := o.os ++ [cn] } sh (T ++ [(k, List.replicate s 0)]) :=
        w3.ow.make ntn ncn ctn.symm k4 (by rw [upd_ne tnT]; exact htn4) (by rw [upd_ne cnT, hcn4]; simp) (by rw [upd_same]; simp)
      have ph4 : PhAt C_PlainHeap (upd H4 o.aT (.lst (o.ts.map V.ref ++ [.ref tn]))) hp a sh T := w3.ph.keptL k4 oT3 fun b hb z => w3.dis b hb (by rw [List.mem_singleton.mp z]; simp)
      have hz4 : ∃ z, (upd H4 o.aT (.lst (o.ts.map V.ref ++ [.ref tn]))) bg = some (.lst [.int z]) := by
        obtain ⟨z, hz⟩ := hz3
        exact ⟨z, k4 _ _ (fun e => w3.bgO (by rw [List.mem_singleton.mp e]; simp)) hz⟩
      have F4 : FeedAt (upd H4 o.aT (.lst (o.ts.map V.ref ++ [.ref tn]))) p (m + 2) := feed_at2 (feedS F3 S4) (fun e => np (.inr (.inr (by rw [← e]; simp))))
      have ht4 := k4.tups oT3 _ _ ht
      have hv4 := hv3.same (k4.tups oT3)
      have nnH : ∀ {b : Addr}, H3 b = none → H0 b = none := fun {b} e => by
        cases e0 : H0 b with
        | none => rfl
        | some u =>
          by_cases hb : b = p
          · subst hb
            obtain ⟨x, y, z, e2, _⟩ := F3
            rw [e] at e2
            cases e2
          · have e1 := k02 _ _ (by simpa using hb) e0
            by_cases hb2 : b = bg
            · subst hb2
              obtain ⟨z, hz⟩ := hz3
              rw [e] at hz
              cases hz
            · rw [k3 _ _ (by simp [hb, hb2]) e1] at e
              cases e
      have k04 : ∀ b u, b ≠ p → b ≠ bg → b ≠ o.aT → H0 b = some u → (upd H4 o.aT (.lst (o.ts.map V.ref ++ [.ref tn]))) b = some u := fun b u b1 b2 b3 e =>
        k4 _ _ (by simpa using b3) (k3 _ _ (by simp [b1, b2]) (k02 _ _ (by simpa using b1) e))
      have lt4 := ow4.lt
      have ow4l := ow4.lst
      generalize upd H4 o.aT (.lst (o.ts.map V.ref ++ [.ref tn])) = HH at ow4 ph4 hz4 F4 ht4 hv4 k04 ow4l k4 k4' ⊢
      clear k4'
      have two : ∀ b ∈ [a.aK, a.aB], ∃ xs, HH b = some (.lst xs) := fun b hb => ph4.lst b (by
        rcases (by simpa using hb : b = a.aK ∨ b = a.aB) with rfl | rfl <;> simp)
      have eN : ((T.length : Int) + 1) = ((T.length + 1 : Nat) : Int) := by omega
      have twoO : ∀ b ∈ o.aT :: ((o.ts ++ [tn]) ++ (o.os ++ [cn])), b ∉ [a.aK, a.aB] := fun b hb z => by
        have ha : b ∈ a.aK :: a.aB :: a.bs := by
          rcases (by simpa using z : b = a.aK ∨ b = a.aB) with rfl | rfl <;> simp
        obtain ⟨xs, hx⟩ := w3.ph.lst b ha
        have h1 : b ≠ tn := ne_of_none hx ntn
        have h2 : b ≠ cn := ne_of_none hx ncn
        refine w3.dis b ha ?_
        simp only [List.mem_cons, List.mem_append, List.not_mem_nil, or_false] at hb ⊢
        rcases hb with h | (h | h) | h | h
        · exact .inl h
        · exact .inr (.inl h)
        · exact absurd h h1
        · exact .inr (.inr h)
        · exact absurd h h2
      have fin : ∀ (nb rt : Addr) (H5 H6 : Hp), HH nb = none → HH rt = none → nb ≠ rt → PhAt C_PlainHeap H5 hp { a with bs := a.bs ++ [nb] } sh (T ++ [(k, List.replicate s 0)]) → KeptL [a.aK, a.aB] HH H5 → Same H5 H6 → Q (.bl true) H6 := by
        intro nb rt H5 H6 nnb nrt nbrt ph5 k5 S6
        have ow5 := ow4.keptL k5 two twoO
        have hz5 : ∃ z, H5 bg = some (.lst [.int z]) := by
          obtain ⟨z, hz⟩ := hz4
          refine ⟨z, k5 _ _ (fun e => w3.bgA ?_) hz⟩
          rcases (by simpa using e : bg = a.aK ∨ bg = a.aB) with rfl | rfl <;> simp
        have F5 : FeedAt H5 p (m + 2) := by
          obtain ⟨x, y, z, e, r⟩ := F4
          refine ⟨x, y, z, k5 _ _ (fun e2 => np (.inr (.inl ?_))) e, r⟩
          rcases (by simpa using e2 : p = a.aK ∨ p = a.aB) with rfl | rfl <;> simp
        have nbO : nb ∉ o.aT :: ((o.ts ++ [tn]) ++ (o.os ++ [cn])) := fun z => by
          obtain ⟨xs, hx⟩ := ow4l nb z
          rw [nnb] at hx
          cases hx
        have nbg : bg ≠ nb := fun e => by
          obtain ⟨z, hz⟩ := hz4
          rw [e, nnb] at hz
          cases hz
        have w5 : Wd C_PlainHeap H5 hp d bg { a with bs := a.bs ++ [nb] } { o with ts := o.ts ++ [tn], os := o.os ++ [cn] } sh (T ++ [(k, List.replicate s 0)]) := by
          refine ⟨ph5, ow5, hz5, fun b hb z => ?_, fun z => ?_, fun z => ?_, W.make hT k1 k2 hs⟩
          · have hb : b ∈ a.aK :: a.aB :: (a.bs ++ [nb]) := hb
            by_cases e : b = nb
            · subst e
              exact nbO z
            · have ha : b ∈ a.aK :: a.aB :: a.bs := by
                simp only [List.mem_cons, List.mem_append, List.not_mem_nil, or_false] at hb ⊢
                rcases hb with h | h | h | h
                · exact .inl h
                · exact .inr (.inl h)
                · exact .inr (.inr h)
                · exact absurd h e
              obtain ⟨xs, hx⟩ := w3.ph.lst b ha
              have h1 : b ≠ tn := ne_of_none hx ntn
              have h2 : b ≠ cn := ne_of_none hx ncn
              have z : b ∈ o.aT :: ((o.ts ++ [tn]) ++ (o.os ++ [cn])) := z
              refine w3.dis b ha ?_
              simp only [List.mem_cons, List.mem_append, List.not_mem_nil, or_false] at z ⊢
              rcases z with h | (h | h) | h | h
              · exact .inl h
              · exact .inr (.inl h)
              · exact absurd h h1
              · exact .inr (.inr h)
              · exact absurd h h2
          · have z : bg ∈ a.aK :: a.aB :: (a.bs ++ [nb]) := z
            refine w3.bgA ?_
            simp only [List.mem_cons, List.mem_append, List.not_mem_nil, or_false] at z ⊢
            rcases z with h | h | h | h
            · exact .inl h
            · exact .inr (.inl h)
            · exact .inr (.inr h)
            · exact absurd h nbg
          · have z : bg ∈ o.aT :: ((o.ts ++ [tn]) ++ (o.os ++ [cn])) := z
            obtain ⟨y, hy⟩ := hz3
            have h1 : bg ≠ tn := ne_of_none hy ntn
            have h2 : bg ≠ cn := ne_of_none hy ncn
            refine w3.bgO ?_
            simp only [List.mem_cons, List.mem_append, List.not_mem_nil, or_false] at z ⊢
            rcases z with h | (h | h) | h | h
            · exact .inl h
            · exact .inr (.inl h)
            · exact absurd h h1
            · exact .inr (.inr h)
            · exact absurd h h2
        have nbH : H0 nb = none := by
          cases e0 : H0 nb with
          | none => rfl
          | some u =>
            have b1 : nb ≠ p := fun e => by
              obtain ⟨x, y, z, e2, _⟩ := F4
              rw [← e, nnb] at e2
              cases e2
            have b3 : nb ≠ o.aT := fun e => nbO (by rw [e]; simp)
            rw [k04 nb u b1 nbg.symm b3 e0] at nnb
            cases nnb
        refine q _ _ _ H6 (m + 2) (w5.same S6) (feedS F5 S6) (by omega) (fun b hb => ?_) (by simp) fun b u nb2 na e => S6 _ _ (k5 _ _ (fun z => na (.inr (.inl ?_))) (k04 b u nb2 (fun z => na (.inl z)) (fun z => na (.inr (.inr (by rw [z]; simp)))) e))
        · rcases hb with h | h | h
          · exact .inl (.inl h)
          · have h : b ∈ a.aK :: a.aB :: (a.bs ++ [nb]) := h
            by_cases e : b = nb
            · subst e
              exact .inr nbH
            · refine .inl (.inr (.inl ?_))
              simp only [List.mem_cons, List.mem_append, List.not_mem_nil, or_false] at h ⊢
              rcases h with h | h | h | h
              · exact .inl h
              · exact .inr (.inl h)
              · exact .inr (.inr h)
              · exact absurd h e
          · have h : b ∈ o.aT :: ((o.ts ++ [tn]) ++ (o.os ++ [cn])) := h
            simp only [List.mem_cons, List.mem_append, List.not_mem_nil, or_false] at h
            rcases h with h | (h | h) | h | h
            · exact .inl (.inr (.inr (by rw [h]; simp)))
            · exact .inl (.inr (.inr (by simp [h])))
            · exact .inr (by rw [h]; exact nnH ntn)
            · exact .inl (.inr (.inr (by simp [h])))
            · exact .inr (by rw [h]; exact nnH ncn)
        · rcases (by simpa using z : b = a.aK ∨ b = a.aB) with rfl | rfl <;> simp
      refine ⟨_, rfl, t, _, 1, .int s, rfl, rfl, SqT.of ht4, rfl, rfl, _, rfl, ite2 (fun _ => ?_) (fun _ => ?_)⟩
      · refine ⟨_, rfl, hp, _, _, rfl, ph4.at_, phF_no rfl rfl rfl, _, rfl, _, rfl, t, _, 1, .int s, rfl, rfl, SqT.of ht4, rfl, _, rfl, t, _, 0, .int k, rfl, rfl, SqT.of ht4, rfl, rfl, ?_⟩
        · refine ⟨hp, k, s, v, rs, a, sh, T, rfl, k1, k2, hs, by omega, hv4, hr2, ph4, fun nb rt H5 nnb nrt nbrt ph5 dv5 k5 => ?_⟩
          refine ⟨_, rfl, _, _, rfl, rfl, _, rfl, by show 2 ≤ sizeLine; decide, fun tt ntt => ?_⟩
          have Htt : (upd H5 tt (.tup [.int ((T.length : Int) + 1), v])) tt = some (.tup [.int ((T.length : Int) + 1), v]) := upd_same
          have Stt : Same H5 (upd H5 tt (.tup [.int ((T.length : Int) + 1), v])) := same_new ntt
          have hv5 := hv4.same (k5.tups two)
          refine ⟨.ref rt, .ref tt, _, rfl, dv5.same (TupSame.of Stt), .tup (xs := [.int ((T.length : Int) + 1), v]) Htt (by show 2 ≤ 1000; decide) (.cons (by rw [eN]; exact .int _) (.cons (hv5.same (TupSame.of Stt)) .nil)), fun e he => ?_, fun H6 S6 => ?_⟩
          · rcases (by simpa using he : e = .int ((T.length : Int) + 1) ∨ e = inPy rs) with rfl | rfl
            · trivial
            · exact dOk_ints rs
          exact fin nb rt H5 H6 nnb nrt nbrt ph5 k5 (Stt.trans S6)
      · refine ⟨_, rfl, hp, _, _, rfl, ph4.at_, phF_no rfl rfl rfl, _, rfl, t, _, 0, .int k, rfl, rfl, SqT.of ht4, rfl, _, rfl, t, _, 1, .int s, rfl, rfl, SqT.of ht4, rfl, _, rfl, ?_⟩
        · refine ⟨hp, k, s, v, rs, a, sh, T, rfl, k1, k2, hs, by omega, hv4, hr2, ph4, fun nb rt H5 nnb nrt nbrt ph5 dv5 k5 => ?_⟩
          refine ⟨_, rfl, _, _, rfl, rfl, _, rfl, by show 2 ≤ sizeLine; decide, fun tt ntt => ?_⟩
          have Htt : (upd H5 tt (.tup [.int ((T.length : Int) + 1), v])) tt = some (.tup [.int ((T.length : Int) + 1), v]) := upd_same
          have Stt : Same H5 (upd H5 tt (.tup [.int ((T.length : Int) + 1), v])) := same_new ntt
          have hv5 := hv4.same (k5.tups two)
          refine ⟨.ref rt, .ref tt, _, rfl, dv5.same (TupSame.of Stt), .tup (xs := [.int ((T.length : Int) + 1), v]) Htt (by show 2 ≤ 1000; decide) (.cons (by rw [eN]; exact .int _) (.cons (hv5.same (TupSame.of Stt)) .nil)), fun e he => ?_, fun H6 S6 => ?_⟩
          · rcases (by simpa using he : e = .int ((T.length : Int) + 1) ∨ e = inPy rs) with rfl | rfl
            · trivial
            · exact dOk_ints rs
          exact fin nb rt H5 H6 nnb nrt nbrt ph5 k5 (Stt.trans S6)
    have npA : p ∉ a.aK :: a.aB :: a.bs := fun z => np (.inr (.inl z))
    have e1 : word = .str "collection" ∨ word = .str "put" ∨ word = .str "get" := by
      rcases hw with h | h | h
      · exact .inr (.inl h)
      · exact .inr (.inr h)
      · exact .inl h
    have neM : scal word (V.str "make") = true ∧ decide (word = V.str "make") = false := by
      rcases hw with rfl | rfl | rfl <;> exact ⟨rfl, by decide +kernel⟩
    refine ⟨_, rfl, neM.1, _, rfl, ?_⟩
    rw [neM.2]
    refine iteF ?_
    clear neM hw
    rcases e1 with rfl | hw
    · refine ⟨_, rfl, rfl, _, rfl, iteT ?_⟩
      refine ⟨_, rfl, _, rfl, _, rfl, hp, p, v, rs, a, sh, T, m, rfl, F2, by omega, npA, hv, hr2, w2.ph, fun H3 k3 F3 => ?_⟩
      have hv3 := hv.same (feed_tups k3 F2)
      exact ⟨_, rfl, v, v, inPy rs, rfl, hv3, hv3, dOk_ints rs, fun H4 S4 => plq_same q ((w2.feed k3 F2 np).same S4) (feedS F3 S4) (by omega) ((k02.trans k3).trans (KeptL.of_same S4))⟩
    have neC : scal word (V.str "collection") = true ∧ decide (word = V.str "collection") = false := by
      rcases hw with rfl | rfl <;> exact ⟨rfl, by decide +kernel⟩
    refine ⟨_, rfl, neC.1, _, rfl, ?_⟩
    rw [neC.2]
    refine iteF ?_
    clear neC
    refine ⟨_, rfl, _, rfl, _, _, rfl, rfl, p, _, m, rfl, F2, by omega, by omega, by omega, fun r H3 r0 r1 k3 F3 => ?_⟩
    have k03 := k02.trans k3
    have w3 := w2.feed k3 F2 np
    obtain ⟨j, rfl⟩ : ∃ j : Nat, r = j := ⟨r.toNat, by omega⟩
    have hjl : j < (((0, []) : Thing) :: T).length := by simp; omega
    obtain ⟨t, et⟩ : ∃ t, (((0, []) : Thing) :: T)[j]? = some t := ⟨_, List.getElem?_eq_getElem hjl⟩
    obtain ⟨b, c, eb, ec, hb, hc⟩ := w3.ow.one et
    have own1 : ∀ {xs : List V} {y : V}, xs[j]? = some y → atI xs (j : Int) = some y := fun h => atI_nat h
    refine ⟨_, rfl, d, _, rfl, w3.ow.getT, _, rfl, o.aT, _, _, .ref b, rfl, rfl, SqL.of w3.ow.things, atI_nat (by rw [List.getElem?_map, eb]; rfl), b, _, 0, .int t.1, rfl, rfl, SqL.of hb, rfl, ?_⟩
    refine ⟨_, rfl, d, _, rfl, w3.ow.getT, _, rfl, o.aT, _, _, .ref b, rfl, rfl, SqL.of w3.ow.things, atI_nat (by rw [List.getElem?_map, eb]; rfl), b, _, 1, .ref c, rfl, rfl, SqL.of hb, rfl, _, _, rfl, ?_⟩
    refine ⟨_, rfl, rfl, _, rfl, ?_⟩
    cases j with
    | zero => exact iteT (plq_same q w3 F3 (by omega) k03)
    | succ n' =>
    have : decide (V.int ((n' + 1 : Nat) : Int) = V.int 0) = false := decide_eq_false (fun z => by
      injection z with z
      omega)
    rw [this]
    refine iteF ?_
    have ht : T[n']? = some t := et
    have hs := W.z t (List.mem_of_getElem? ht)
    have tl := hs.1
    -- the four questions
    refine ⟨_, rfl, hp, _, _, rfl, w3.ph.at_, phF_no rfl rfl rfl, _, rfl, hp, n', t, a, sh, T, rfl, ht, w3.ph, _, rfl, .int t.1, .int t.1, .int t.1, rfl, dv_i _, dv_i _, trivial, fun H4 S4 => ⟨_, rfl, iteF ?_⟩⟩
    have w4 := w3.same S4
    refine ⟨_, rfl, hp, _, _, rfl, w4.ph.at_, phF_no rfl rfl rfl, _, rfl, hp, n', t, a, sh, T, rfl, ht, w4.ph, _, rfl, .ref c, t.2.length, rfl, .inl ⟨_, SqL.of (S4 _ _ hc), by simp⟩, .int t.2.length, .int t.2.length, .int t.2.length, rfl, dv_i _, dv_i _, trivial, fun H5 S5 => ⟨_, rfl, iteF ?_⟩⟩
    have w5 := w4.same S5
    refine ⟨_, rfl, hp, _, _, rfl, w5.ph.at_, phF_no rfl rfl rfl, _, rfl, rfl, hp, n', t, a, sh, T, rfl, ht, w5.ph, _, rfl, .int t.1, .int t.1, .int t.1, rfl, dv_i _, dv_i _, trivial, fun H6 S6 => ⟨_, rfl, iteF ?_⟩⟩
    have w6 := w5.same S6
    have S36 := S4.trans (S5.trans S6)
    refine ⟨_, rfl, hp, _, _, rfl, w6.ph.at_, phF_no rfl rfl rfl, _, rfl, rfl, hp, n', t, a, sh, T, rfl, ht, w6.ph, _, rfl, .ref c, t.2.length, rfl, .inl ⟨_, SqL.of (S36 _ _ hc), by simp⟩, .int t.2.length, .int t.2.length, .int t.2.length, rfl, dv_i _, dv_i _, trivial, fun H7 S7 => ⟨_, rfl, iteF ?_⟩⟩
    have S37 := S36.trans S7
    -- nothing to ask of what has no slots
    refine ⟨_, rfl, Nat.zero_le _, fun e ne => ?_⟩
    have S38 : Same H3 (upd H7 e (.lst [])) := S37.trans (same_new ne)
    have he8 : (upd H7 e (.lst [])) e = some (.lst []) := upd_same
    generalize upd H7 e (.lst []) = H8 at S38 he8 ⊢
    have hc8 := S38 _ _ hc
    refine ⟨.list (t.2.map .int), .list [], .lst (SqL.of hc8) (ints_dv.dp K), .lst (SqL.of he8) .nil, ints_shaped _, by decide +kernel, _, rfl, ?_⟩
    have w8 := w3.same S38
    have F8 := feedS F3 S38
    have k08 := k03.trans (KeptL.of_same S38)
    by_cases hnil : t.2 = []
    · rw [hnil]
      exact iteT (plq_same q w8 F8 (by omega) k08)
    have hpos : 0 < t.2.length := List.length_pos_iff.mpr hnil
    have en : PyData.eqv (.list (t.2.map .int)) (.list []) = false := by
      cases e2 : t.2 with
      | nil => exact absurd e2 hnil
      | cons x r => simp [PyData.eqv, PyData.eqvAll]
    rw [en]
    refine iteF ?_
    refine ⟨_, rfl, _, rfl, .ref c, t.2.length, rfl, .inl ⟨_, SqL.of hc8, by simp⟩, p, _, _, rfl, F8, by omega, by omega, by omega, fun r2 H9 s0 s1 k9 F9 => ?_⟩
    obtain ⟨i, rfl⟩ : ∃ i : Nat, r2 = i := ⟨r2.toNat, by omega⟩
    have hi : i < t.2.length := by omega
    have w9 := w8.feed k9 F8 np
    have k09 := k08.trans k9
    have fr0 : ∀ (x : V), KeptW p a o bg H0 H9 := fun _ b u nb _ e => k09 _ _ (by simpa using nb) e
    have K9 : KeptW p a o bg H0 H9 := fr0 .non
    clear fr0
    refine ⟨fun σ' H' => ∃ (T' : List Thing) (t' : Thing) (m' : Nat), σ' = [some (.ref hp), some (.ref d), some (.ref p), some (.ref bg), some (.int T.length), some word, some v, none, some (.int ((n' + 1 : Nat) : Int)), some (.int t.1), some (.ref c), some (.int i)] ∧ Wd C_PlainHeap H' hp d bg a o sh T' ∧ T'[n']? = some t' ∧ t'.2.length = t.2.length ∧
        FeedAt H' p m' ∧ m' ≤ n + 40 ∧ T'.length = T.length ∧ KeptW p a o bg H0 H', ?_, ?_⟩
    · rcases hw with rfl | rfl
      · refine ⟨_, rfl, rfl, _, rfl, iteT ?_⟩
        refine ⟨fun σ' H' => ∃ (x : Int) (m' : Nat), σ' = [some (.ref hp), some (.ref d), some (.ref p), some (.ref bg), some (.int T.length), some (.str "put"), some v, none, some (.int ((n' + 1 : Nat) : Int)), some (.int t.1), some (.ref c), some (.int i)] ∧ (if flag sh t.1 i = true then 0 ≤ x ∧ x ≤ T.length else -2147483648 ≤ x ∧ x ≤ 2147483647) ∧
            OwAt H' d o sh (T.set n' (t.1, t.2.set i x)) ∧ PhAt C_PlainHeap H' hp a sh T ∧ (∃ z, H' bg = some (.lst [.int z])) ∧ FeedAt H' p m' ∧ m' ≤ n + 40 ∧ KeptW p a o bg H0 H', ?_, ?_⟩
        · refine ⟨_, rfl, _, rfl, d, n', t, o, sh, T, rfl, w9.ow, ht, hs, fun l HA SA nl hl => ?_⟩
          have wA := w9.same SA
          have FA := feedS F9 SA
          refine ⟨_, rfl, l, _, _, .bl (flag sh t.1 i), rfl, rfl, SqL.of hl, atI_nat (flagsV_get hi), _, rfl, ?_⟩
          have store : ∀ (x : Int) (HB : Hp) (mB : Nat), (if flag sh t.1 i = true then 0 ≤ x ∧ x ≤ T.length else -2147483648 ≤ x ∧ x ≤ 2147483647) → KeptL [p] HA HB → FeedAt HB p mB → mB ≤ n + 40 →
              ∃ (pp : Addr) (xs : List V) (kk : Int) (jj : Nat), V.ref c = .ref pp ∧ V.int (i : Int) = .int kk ∧ HB pp = some (.lst xs) ∧ ixN xs.length kk = some jj ∧ ∃ (x' : Int) (m' : Nat), [some (V.ref hp), some (.ref d), some (.ref p), some (.ref bg), some (.int T.length), some (.str "put"), some v, none, some (.int ((n' + 1 : Nat) : Int)), some (.int t.1), some (.ref c), some (.int i)] = [some (.ref hp), some (.ref d), some (.ref p), some (.ref bg), some (.int T.length), some (.str "put"), some v, none, some (.int ((n' + 1 : Nat) : Int)), some (.int t.1), some (.ref c), some (.int i)] ∧ (if flag sh t.1 i = true then 0 ≤ x' ∧ x' ≤ T.length else -2147483648 ≤ x' ∧ x' ≤ 2147483647) ∧
                OwAt (upd HB pp (.lst (xs.set jj (.int x)))) d o sh (T.set n' (t.1, t.2.set i x')) ∧ PhAt C_PlainHeap (upd HB pp (.lst (xs.set jj (.int x)))) hp a sh T ∧ (∃ z, (upd HB pp (.lst (xs.set jj (.int x)))) bg = some (.lst [.int z])) ∧ FeedAt (upd HB pp (.lst (xs.set jj (.int x)))) p m' ∧ m' ≤ n + 40 ∧ KeptW p a o bg H0 (upd HB pp (.lst (xs.set jj (.int x)))) := by
            intro x HB mB hx kB FB hmB
            have wB := wA.feed kB FA np
            have hcB := (wB.ow.each (n' + 1) t b c et eb ec).2
            have mc : c ∈ o.aT :: (o.ts ++ o.os) := List.mem_cons_of_mem _ (List.mem_append_right _ (List.mem_of_getElem? ec))
            have es : (t.2.map V.int).set i (V.int x) = (t.2.set i x).map V.int := by rw [List.map_set]
            refine ⟨c, _, i, i, rfl, rfl, hcB, by unfold ixN; rw [List.length_map, if_pos (by omega), if_pos (by omega)]; rfl, x, mB, rfl, hx, ?_⟩
            rw [es]
            have kc : KeptL [c] HB (upd HB c (.lst ((t.2.set i x).map V.int))) := fun y u ny e => by rw [upd_ne (by simpa using ny)]; exact e
            have lc : ∀ y ∈ [c], ∃ xs, HB y = some (.lst xs) := fun y hy => by
              rw [List.mem_singleton.mp hy]
              exact ⟨_, hcB⟩
            obtain ⟨z, hz⟩ := wB.bud
            refine ⟨wB.ow.put ht ec, wB.ph.keptL kc lc fun y hy z => wB.dis y hy (by rw [List.mem_singleton.mp z]; exact mc), ⟨z, kc _ _ (fun y => wB.bgO (by rw [List.mem_singleton.mp y]; exact mc)) hz⟩, feed_at2 FB (fun e => np (.inr (.inr (by rw [← e]; exact mc)))), hmB, fun y u ny na e => ?_⟩
            exact kc _ _ (fun z => na (.inr (.inr (by rw [List.mem_singleton.mp z]; exact mc)))) (kB _ _ (by simpa using ny) (SA _ _ (K9 y u ny na e)))
          by_cases ef : flag sh t.1 i = true
          · refine Eq.mpr (if_pos ef) ⟨_, rfl, _, rfl, _, _, rfl, rfl, p, _, _, rfl, FA, by omega, by omega, by omega, fun x HB x0 x1 kB FB => ?_⟩
            exact ⟨_, rfl, _, rfl, store x HB _ (by rw [if_pos ef]; omega) kB FB (by omega)⟩
          · refine Eq.mpr (if_neg ef) ⟨_, rfl, p, _, rfl, FA, by omega, fun x HB x0 x1 kB FB => ?_⟩
            exact ⟨_, rfl, _, rfl, store x HB _ (by rw [if_neg ef]; exact ⟨x0, x1⟩) kB FB (by omega)⟩
        · rintro σA HA ⟨x, mA, rfl, hx, owA, phA, hzA, FA, hmA, KA⟩
          have hcA : HA c = some (.lst ((t.2.set i x).map V.int)) := by
            refine (owA.each (n' + 1) (t.1, t.2.set i x) b c ?_ eb ec).2
            show (T.set n' (t.1, t.2.set i x))[n']? = _
            rw [List.getElem?_set_self (List.getElem?_eq_some_iff.mp ht).1]
          have hcx : ((t.2.set i x).map V.int)[i]? = some (.int x) := by
            rw [List.getElem?_map, List.getElem?_set_self hi]
            rfl
          obtain ⟨bb, ebb, hbb⟩ := phA.bod ht
          have mbb : bb ∈ a.aK :: a.aB :: a.bs := by
            have := List.mem_of_getElem? ebb
            simp [this]
          have lbb : ∀ y ∈ [bb], ∃ xs, HA y = some (.lst xs) := fun y hy => by
            rw [List.mem_singleton.mp hy]
            exact ⟨_, hbb⟩
          have behind : ∀ HB, PhAt C_PlainHeap HB hp a sh (T.set n' (t.1, t.2.set i x)) → KeptL [bb] HA HB → Wd C_PlainHeap HB hp d bg a o sh (T.set n' (t.1, t.2.set i x)) ∧ FeedAt HB p mA ∧ KeptW p a o bg H0 HB := by
            intro HB phB kB
            obtain ⟨z, hz⟩ := hzA
            refine ⟨⟨phB, owA.keptL kB lbb fun y hy z => w0.dis bb mbb (by rw [← List.mem_singleton.mp z]; exact hy), ⟨z, kB _ _ (fun y => w0.bgA (by rw [List.mem_singleton.mp y]; exact mbb)) hz⟩, w0.dis, w0.bgA, w0.bgO, W.put ht hx⟩, ?_, fun y u ny na e => kB _ _ (fun z => na (.inr (.inl (by rw [List.mem_singleton.mp z]; exact mbb)))) (KA y u ny na e)⟩
            obtain ⟨f1, f2, f3, e, r⟩ := FA
            exact ⟨f1, f2, f3, kB _ _ (fun z => npA (by rw [List.mem_singleton.mp z]; exact mbb)) e, r⟩
          have ending : ∀ HB, PhAt C_PlainHeap HB hp a sh (T.set n' (t.1, t.2.set i x)) → KeptL [bb] HA HB → ∃ (T' : List Thing) (t' : Thing) (m' : Nat), [some (V.ref hp), some (.ref d), some (.ref p), some (.ref bg), some (.int T.length), some (.str "put"), some v, none, some (.int ((n' + 1 : Nat) : Int)), some (.int t.1), some (.ref c), some (.int i)] = [some (.ref hp), some (.ref d), some (.ref p), some (.ref bg), some (.int T.length), some (.str "put"), some v, none, some (.int ((n' + 1 : Nat) : Int)), some (.int t.1), some (.ref c), some (.int i)] ∧ Wd C_PlainHeap HB hp d bg a o sh T' ∧ T'[n']? = some t' ∧ t'.2.length = t.2.length ∧
              FeedAt HB p m' ∧ m' ≤ n + 40 ∧ T'.length = T.length ∧ KeptW p a o bg H0 HB := by
            intro HB phB kB
            obtain ⟨w', F', K'⟩ := behind HB phB kB
            exact ⟨_, (t.1, t.2.set i x), mA, rfl, w', by rw [List.getElem?_set_self (List.getElem?_eq_some_iff.mp ht).1], List.length_set, F', hmA, List.length_set, K'⟩
          by_cases h2 : i < 2
          · refine ⟨_, rfl, _, _, rfl, rfl, _, rfl, ?_⟩
            rw [decide_eq_true (show (i : Int) < 2 by omega)]
            refine iteT ⟨_, rfl, hp, _, _, rfl, phA.at_, phF_no rfl rfl rfl, _, rfl, _, rfl, _, rfl, _, rfl, c, _, i, .int x, rfl, rfl, SqL.of hcA, atI_nat hcx, hp, n', i, x, t, bb, a, sh, T, rfl, ht, ebb, hi, hs, hx, phA, fun HB phB kB => ⟨rfl, _, rfl, iteF ?_⟩⟩
            refine ⟨_, rfl, _, _, rfl, rfl, _, rfl, ?_⟩
            rw [decide_eq_false (show ¬ (1 : Int) < (i : Int) by omega)]
            exact iteF (iteF (ending HB phB kB))
          · refine ⟨_, rfl, _, _, rfl, rfl, _, rfl, ?_⟩
            rw [decide_eq_false (show ¬ (i : Int) < 2 by omega)]
            refine iteF (iteF ⟨_, rfl, _, _, rfl, rfl, _, rfl, ?_⟩)
            rw [decide_eq_true (show (1 : Int) < (i : Int) by omega)]
            exact iteT ⟨_, rfl, hp, _, _, rfl, phA.at_, phF_no rfl rfl rfl, _, rfl, _, rfl, c, _, i, .int x, rfl, rfl, SqL.of hcA, atI_nat hcx, _, rfl, _, rfl, rfl, hp, n', i, x, t, bb, a, sh, T, rfl, ht, ebb, hi, hs, hx, phA, fun HB phB kB => ⟨rfl, _, rfl, iteF (ending HB phB kB)⟩⟩
      · exact ⟨_, rfl, rfl, _, rfl, iteF ⟨T, t, _, rfl, w9, ht, rfl, F9, by omega, rfl, K9⟩⟩
    · rintro σA HA ⟨T', t', mA, rfl, wA, hA, lA, FA, hmA, eA, KA⟩
      obtain ⟨x, hx⟩ : ∃ x, t'.2[i]? = some x := ⟨_, List.getElem?_eq_getElem (by omega)⟩
      have hcA := (wA.ow.each (n' + 1) t' b c hA eb ec).2
      refine ⟨_, rfl, hp, _, _, rfl, wA.ph.at_, phF_no rfl rfl rfl, _, rfl, _, rfl, hp, n', i, x, t', a, sh, T', rfl, hA, hx, wA.ph, ?_⟩
      exact ⟨_, rfl, _, rfl, c, _, i, .int x, rfl, rfl, SqL.of hcA, atI_nat (by rw [List.getElem?_map, hx]; rfl), .int x, .int x, .int x, rfl, dv_i _, dv_i _, trivial, fun HB SB =>
        q a o T' HB mA (wA.same SB) (feedS FA SB) hmA (fun b h => .inl h) (by omega) fun y u ny na e => SB _ _ (KA y u ny na e)⟩
end
end PH

/-! The law. -/
namespace PH
open PySem PySem.Spec PyProof.Rows L2 KA KI KK PV T ET
theorem kb_PlainHeap {K : PySem.W.Frag} {f : Addr} {fd : FuncData} (F : L2.Fun K "__init__" "PlainHeap.__init__" s_PlainHeap_init f fd) : KBn K fd ["self", "shapes"] 1 ["shapes"] (fun us ws => us ++ ws.reverse) (fun vs zs => vs ++ zs.reverse) :=
  kb_rev F fun _ _ _ _ _ _ u ws hl => match ws, hl with | [_], _ => rfl
def pr (d : PyData) : PyData := .tuple [d, d]
theorem gPy_at {H : Hp} {u : V} {sh : List (List Bool)} {T : List Thing} {rs : List Int} (h : Dv H u (gPy sh T rs)) : ∃ (g : Addr) (x : V) (th : Addr) (vs : List V), u = .ref g ∧ H g = some (.tup [x, .ref th]) ∧ H th = some (.tup vs) ∧ vs.length = (reach sh T rs).length := by
  obtain ⟨g, xs, rfl, hg, _, r1⟩ := h.tupE
  obtain ⟨f1, us, rfl, hf1, r2⟩ := r1.consE
  obtain ⟨f2, us, rfl, hf2, r3⟩ := r2.consE
  obtain rfl := r3.nilE
  obtain ⟨th, vs, rfl, hth, _, r4⟩ := hf2.tupE
  exact ⟨g, f1, th, vs, rfl, hg, hth, by rw [r4.len, List.length_map]⟩
theorem gPy_ok (sh : List (List Bool)) (T : List Thing) (rs : List Int) : dOk 5 (gPy sh T rs) := fun e he => by
  rcases (by simpa using he : e = inPy (rs.map (num (reach sh T rs))) ∨ e = .tuple ((reach sh T rs).map (gth sh T (reach sh T rs)))) with rfl | rfl
  · exact dOk_ints _
  · intro e2 he2
    obtain ⟨x, _, rfl⟩ := List.mem_map.mp he2
    intro e3 he3
    rcases (by simpa using he3 : e3 = .int (thing T x).1 ∨ e3 = inPy (trans (flag sh (thing T x).1) (reach sh T rs) (thing T x).2)) with rfl | rfl
    · trivial
    · exact dOk_ints _
section
variable {P : Program} {w : World} {K : PySem.W.Frag} {mg : Str → Option Value} {base : Heap} {C_Tracing C_PlainHeap : Addr}
def spLaw (K : PySem.W.Frag) : Sp := fun vs H Q _ => ∃ (a : Addr) (ns : List Int), vs = [.ref a] ∧ SqL K H a (ns.map V.int) ∧ ns.length ≤ 63 ∧ ∀ H', Q (.bl true) H'
theorem ok_law {f : Addr} {fd : FuncData} (G : Gd K mg "law" s_law ["_law_script"] f fd) (X : Lw K mg C_Tracing C_PlainHeap) : FnOk P w K mg base CX0 8 f fd ["_law_script"] (spLaw K) := by
  obtain ⟨f__law_equal, d__law_equal, G__law_equal⟩ := X.f__law_equal
  have H__law_equal : FnOk P w K mg base CX0 6 f__law_equal d__law_equal ["_law_found", "_law_due"] (spEq 5) := ok_equal5 G__law_equal X
  obtain ⟨f_PlainHeap_unreached, d_PlainHeap_unreached, M_PlainHeap_unreached⟩ := X.m_PlainHeap_unreached
  have H_PlainHeap_unreached : FnOk P w K mg base CX0 5 f_PlainHeap_unreached d_PlainHeap_unreached ["self", "roots"] (spUnr C_PlainHeap) := ok_unr M_PlainHeap_unreached X
  obtain ⟨f_PlainHeap_graph, d_PlainHeap_graph, M_PlainHeap_graph⟩ := X.m_PlainHeap_graph
  have H_PlainHeap_graph : FnOk P w K mg base CX0 5 f_PlainHeap_graph d_PlainHeap_graph ["self", "roots"] (spGraph C_PlainHeap) := ok_graph M_PlainHeap_graph X
  obtain ⟨f__law_graph, d__law_graph, G__law_graph⟩ := X.f__law_graph
  have H__law_graph : FnOk P w K mg base CX0 4 f__law_graph d__law_graph ["_law_own", "_law_hands"] (spLgraph) := ok_lgraph G__law_graph X
  obtain ⟨f__law_roots, d__law_roots, G__law_roots⟩ := X.f__law_roots
  have H__law_roots : FnOk P w K mg base CX0 2 f__law_roots d__law_roots ["_law_feed_here", "_law_many"] (spRoots) := ok_roots G__law_roots X
  obtain ⟨f__law_draw, d__law_draw, G__law_draw⟩ := X.f__law_draw
  have H__law_draw : FnOk P w K mg base CX0 1 f__law_draw d__law_draw ["_law_feed_here", "_law_many"] (spDk) := ok_drw G__law_draw X
  obtain ⟨f__law_plain, d__law_plain, G__law_plain⟩ := X.f__law_plain
  have H__law_plain : FnOk P w K mg base CX0 7 f__law_plain d__law_plain ["_law_heap", "_law_own", "_law_feed_here", "_law_budget"] (spPlain C_PlainHeap) := ok_plain G__law_plain X
  obtain ⟨f__law_feed, d__law_feed, G__law_feed⟩ := X.f__law_feed
  have H__law_feed : FnOk P w K mg base CX0 1 f__law_feed d__law_feed ["_law_script", "_law_k"] (spFeed K) := ok_fee G__law_feed X
  obtain ⟨f_PlainHeap___init__, d_PlainHeap___init__, K_PlainHeap, F_PlainHeap___init__, b_PlainHeap___init__⟩ := X.i_PlainHeap
  have H_PlainHeap___init__ : FnOk P w K mg base CX0 3 f_PlainHeap___init__ d_PlainHeap___init__ ["self", "shapes"] (spInit C_PlainHeap) := ok_init F_PlainHeap___init__ X
  obtain ⟨f__law_shapes, d__law_shapes, G__law_shapes⟩ := X.f__law_shapes
  have H__law_shapes : FnOk P w K mg base CX0 2 f__law_shapes d__law_shapes ["_law_feed_here"] (spShapes) := ok_shapes G__law_shapes X
  refine G.F.ok sc_law (fun vs H Q E h => ?_) (fun cdv A outer s H vs Q E hr h => ?_)
  · obtain ⟨a, ns, rfl, _⟩ := h; rfl
  · obtain ⟨sa, ns, rfl, hS, hl, q⟩ := h
    refine ⟨_, (pss_cons (ps_set (i := 1) sc_law.nd rfl (Or.inl rfl) (pe_call H__law_shapes (hr.mono (by decide)) (by rfl) G__law_shapes.g G__law_shapes.F.kp G__law_shapes.b .nil pass0 (pa_cons (pe_call H__law_feed (hr.mono (by decide)) (by rfl) G__law_feed.g G__law_feed.F.kp G__law_feed.b .nil pass0 (pa_cons (pv 0) (pa_cons pe_int pa_nil))) pa_nil)))
      (pss_cons (ps_asg (pe_tup (pa_cons (pe_disp (pps_cons pe_str (pv 1) (pps_cons pe_str (pe_lst (pa_cons (pe_lst (pa_cons pe_int (pa_cons (pe_lst pa_nil) pa_nil))) pa_nil)) pps_nil)) (by rfl) (by rfl) (fun z => by cases z) (by decide)) (pa_cons (pe_makeK0 K_PlainHeap H_PlainHeap___init__ (hr.mono (by decide)) (by rfl) X.g_PlainHeap (kb_PlainHeap F_PlainHeap___init__) pass0 (pk_cons (pv 1) pk_nil)) (pa_cons (pe_lst (pa_cons pe_int pa_nil)) (pa_cons (pe_lst pa_nil) pa_nil))))) (pg_tup rfl (pgs_cons (pg_name (i := 2) sc_law.nd rfl (Or.inl rfl)) (pgs_cons (pg_name (i := 3) sc_law.nd rfl (Or.inl rfl)) (pgs_cons (pg_name (i := 4) sc_law.nd rfl (Or.inl rfl)) (pgs_cons (pg_name (i := 5) sc_law.nd rfl (Or.inl rfl)) pgs_nil))))))
      (pss_cons (ps_for PassesOwn.never rfl (pi_range2 (by rfl) X.b_range (pa_cons pe_int (pa_cons (pe_callB (call_max2 rfl) (by rfl) X.b_max (by decide +kernel) (pa_cons pe_int (pa_cons (pe_callB (call_min2 rfl) (by rfl) X.b_min (by decide +kernel) (pa_cons (pe_callB call_len (by rfl) X.b_len PySem.boot_len (pa_cons (pv 0) pa_nil)) (pa_cons pe_int pa_nil))) pa_nil))) pa_nil))) (pg_name (i := 6) sc_law.nd rfl (Or.inl rfl))
        (pss_cons (ps_set (i := 7) sc_law.nd rfl (Or.inl rfl) (pe_call H__law_feed (hr.mono (by decide)) (by rfl) G__law_feed.g G__law_feed.F.kp G__law_feed.b .nil pass0 (pa_cons (pv 0) (pa_cons (pv 6) pa_nil))))
      (C8.pss_cut (ps_for PassesOwn.never rfl (pi_range1 (by rfl) X.b_range (pa_cons (pe_op op_add pe_int (pe_call H__law_draw (hr.mono (by decide)) (by rfl) G__law_draw.g G__law_draw.F.kp G__law_draw.b .nil pass0 (pa_cons (pv 7) (pa_cons pe_int pa_nil)))) pa_nil)) (pg_name (i := 8) sc_law.nd rfl (Or.inl rfl))
        (pss_one (ps_if (pt_not (pt_val (pe_call H__law_plain hr (by rfl) G__law_plain.g G__law_plain.F.kp G__law_plain.b .nil pass0 (pa_cons (pv 3) (pa_cons (pv 2) (pa_cons (pv 7) (pa_cons (pv 4) pa_nil)))))))
        (pss_one (ps_ret pe_bl)) pss_nil)))
      (C8.pss_cut (ps_set (i := 9) sc_law.nd rfl (Or.inl rfl) (pe_op op_sub (pe_callB call_len (by rfl) X.b_len PySem.boot_len (pa_cons (pe_dget (hu_of hr) (pv 2) pe_str (fun _ _ => rfl)) pa_nil)) pe_int))
      (pss_cons (ps_set (i := 10) sc_law.nd rfl (Or.inl rfl) (pe_call H__law_roots (hr.mono (by decide)) (by rfl) G__law_roots.g G__law_roots.F.kp G__law_roots.b .nil pass0 (pa_cons (pv 7) (pa_cons (pv 9) pa_nil))))
      (pss_cons (ps_set (i := 11) sc_law.nd rfl (Or.inl rfl) (pe_call H__law_graph (hr.mono (by decide)) (by rfl) G__law_graph.g G__law_graph.F.kp G__law_graph.b .nil pass0 (pa_cons (pv 2) (pa_cons (pv 10) pa_nil))))
      (pss_cons (ps_set (i := 12) sc_law.nd rfl (Or.inl rfl) (pe_meth (pv 3) X.cl_PlainHeap M_PlainHeap_graph.m H_PlainHeap_graph (hr.mono (by decide)) M_PlainHeap_graph.b .nil pass0 (pa_cons (pv 10) pa_nil)))
      (pss_cons (ps_if (PW.pt (pw_or (pt_not (pt_val (pe_call H__law_equal (hr.mono (by decide)) (by rfl) G__law_equal.g G__law_equal.F.kp G__law_equal.b .nil pass0 (pa_cons (pv 12) (pa_cons (pv 11) pa_nil))))) (pw_or1 (pt_not (pt_val (pe_call H__law_equal (hr.mono (by decide)) (by rfl) G__law_equal.g G__law_equal.F.kp G__law_equal.b .nil pass0 (pa_cons (pe_meth (pv 3) X.cl_PlainHeap M_PlainHeap_unreached.m H_PlainHeap_unreached (hr.mono (by decide)) M_PlainHeap_unreached.b .nil pass0 (pa_cons (pv 10) pa_nil)) (pa_cons (pe_op op_sub (pv 9) (pe_callB call_len (by rfl) X.b_len PySem.boot_len (pa_cons (pe_ix ix_tup (pv 11) pe_int (fun _ _ => rfl)) pa_nil))) pa_nil))))))))
        (pss_one (ps_ret pe_bl)) pss_nil)
      (pss_cons (ps_if (PW.pt (pw_or (pt_not (pt_val (pe_call H__law_equal (hr.mono (by decide)) (by rfl) G__law_equal.g G__law_equal.F.kp G__law_equal.b .nil pass0 (pa_cons (pe_methK0 (pv 3) X.cl_PlainHeap M_PlainHeap_graph.m H_PlainHeap_graph (hr.mono (by decide)) (kb_PlainHeap_graph_roots M_PlainHeap_graph.F) M_PlainHeap_graph.F.kp pass0 (pk_cons (pv 10) pk_nil)) (pa_cons (pv 11) pa_nil))))) (pw_or1 (pt_not (pt_val (pe_call H__law_equal (hr.mono (by decide)) (by rfl) G__law_equal.g G__law_equal.F.kp G__law_equal.b .nil pass0 (pa_cons (pe_methK0 (pv 3) X.cl_PlainHeap M_PlainHeap_unreached.m H_PlainHeap_unreached (hr.mono (by decide)) (kb_PlainHeap_unreached_roots M_PlainHeap_unreached.F) M_PlainHeap_unreached.F.kp pass0 (pk_cons (pv 10) pk_nil)) (pa_cons (pe_op op_sub (pv 9) (pe_callB call_len (by rfl) X.b_len PySem.boot_len (pa_cons (pe_ix ix_tup (pv 11) pe_int (fun _ _ => rfl)) pa_nil))) pa_nil))))))))
        (pss_one (ps_ret pe_bl)) pss_nil)
      (pss_one (ps_expr (pe_bm PySem.F.plainAttrs_list PySem.F.slot_list_append PySem.F.type_list_append mt_append (pv 5) (pa_cons (pe_tup (pa_cons (pv 12) (pa_cons (pv 11) pa_nil))) pa_nil)))))))))))))
      (pss_one (ps_ret (pe_callB (cr_all rfl) (by rfl) X.b_all (by decide +kernel) (pa_cons (pe_lc (own := [("_law_found", 12), ("_law_due", 11)]) (g := (gTup K 2 (gCons (gName 12) (gCons (gName 11) gNil)))) (te := tCall (spEq 5) [] E0 (tCons (tVar 12) (tCons (tVar 11) tNil))) (tt := tYes) rfl sc_law.nd (pi_list (pv 5)) (blkOk_by (own := [("_law_found", 12), ("_law_due", 11)]) (N := ["_law_script", "_law_shapes_here", "_law_own", "_law_heap", "_law_budget", "_law_held_here", "_law_k", "_law_feed_here", "_law_turn", "_law_many", "_law_roots_here", "_law_due", "_law_found"]) (sc := defScope s_law) (by decide +kernel)) (fun _ _ _ _ _ => (pg_tup rfl (pgs_cons (pg_name (i := 12) sc_law.nd rfl (Or.inl rfl)) (pgs_cons (pg_name (i := 11) sc_law.nd rfl (Or.inl rfl)) pgs_nil)))) (fun _ _ _ _ _ => pts_nil) (fun _ _ _ _ _ => (pe_call H__law_equal (hr.mono (by decide)) (by rfl) G__law_equal.g G__law_equal.F.kp G__law_equal.b .nil pass0 (pa_cons (pv 12) (pa_cons (pv 11) pa_nil))))) pa_nil))))))), ?_⟩
    refine ⟨_, rfl, sa, ns, 0, rfl, hS, by decide, fun p0 H1 n0 S1 F1 => ?_⟩
    refine ⟨p0, 0, rfl, F1, by decide, fun v sh m H2 k2 F2 hm hv s0 s1 s2 => ?_⟩
    have S2 : Same H H2 := fun b u e => k2 _ _ (by simpa using ne_of_none e n0) (S1 _ _ e)
    obtain ⟨aS, vs, rfl, _⟩ := shPy_at hv
    refine fun d nd => ⟨_, rfl, by show 0 ≤ sizeLine; decide, fun b0 nb0 => ⟨by show 2 ≤ sizeLine; decide, fun t0 nt0 => ⟨by show 1 ≤ sizeLine; decide, fun aT naT => ⟨?_, [(Sum.inr "shapes", .ref aS), (Sum.inr "things", .ref aT)], rfl, by show 2 ≤ 15; decide, ?_⟩⟩⟩⟩
    · have db : d ≠ b0 := ne_of_none upd_same nb0
      have hd1 := same_new nb0 (o := .lst []) _ _ (upd_same (H := H2) (a := d) (o := .dK []))
      have hd2 := same_new nt0 (o := .lst [.int 0, .ref b0]) _ _ hd1
      exact same_new naT _ _ hd2
    have hd0 : (upd H2 d (.dK [])) d = some (.dK []) := upd_same
    have db : d ≠ b0 := ne_of_none hd0 nb0
    have nb02 : H2 b0 = none := by rw [upd_ne db.symm] at nb0; exact nb0
    have hd1 := same_new nb0 (o := .lst []) _ _ hd0
    have hb1 : (upd (upd H2 d (.dK [])) b0 (.lst [])) b0 = some (.lst []) := upd_same
    have dt : d ≠ t0 := ne_of_none hd1 nt0
    have bt : b0 ≠ t0 := ne_of_none hb1 nt0
    have nt02 : H2 t0 = none := by rw [upd_ne bt.symm, upd_ne dt.symm] at nt0; exact nt0
    have hd2 := same_new nt0 (o := .lst [.int 0, .ref b0]) _ _ hd1
    have hb2 := same_new nt0 (o := .lst [.int 0, .ref b0]) _ _ hb1
    have ht2 : (upd (upd (upd H2 d (.dK [])) b0 (.lst [])) t0 (.lst [.int 0, .ref b0])) t0 = some (.lst [.int 0, .ref b0]) := upd_same
    have dT : d ≠ aT := ne_of_none hd2 naT
    have bT : b0 ≠ aT := ne_of_none hb2 naT
    have tT : t0 ≠ aT := ne_of_none ht2 naT
    have naT2 : H2 aT = none := by rw [upd_ne tT.symm, upd_ne bT.symm, upd_ne dT.symm] at naT; exact naT
    have emk : mergeK [] [((Sum.inr "shapes" : Key), V.ref aS), ((Sum.inr "things" : Key), V.ref aT)] = owK ⟨aS, aT, [t0], [b0]⟩ := by
      show putK (putK [] (Sum.inr "shapes" : Key) (V.ref aS)) (Sum.inr "things" : Key) (V.ref aT) = _
      rw [putK_new (kvs := []) _ rfl, putK_new _ (by
        rw [List.nil_append, valV_neg (show ¬ (Sum.inr "shapes" : Key) = (Sum.inr "things" : Key) by decide +kernel)]
        rfl)]
      rfl
    rw [emk]
    have SF : Same H2 (upd (upd (upd (upd (upd H2 d (.dK [])) b0 (.lst [])) t0 (.lst [.int 0, .ref b0])) aT (.lst [.ref t0])) d (.dK (owK ⟨aS, aT, [t0], [b0]⟩))) := same_at nd (same_at naT2 (same_at nt02 (same_at nb02 (same_new nd))))
    have hdF : (upd (upd (upd (upd (upd H2 d (.dK [])) b0 (.lst [])) t0 (.lst [.int 0, .ref b0])) aT (.lst [.ref t0])) d (.dK (owK ⟨aS, aT, [t0], [b0]⟩))) d = some (.dK (owK ⟨aS, aT, [t0], [b0]⟩)) := upd_same
    have hTF : (upd (upd (upd (upd (upd H2 d (.dK [])) b0 (.lst [])) t0 (.lst [.int 0, .ref b0])) aT (.lst [.ref t0])) d (.dK (owK ⟨aS, aT, [t0], [b0]⟩))) aT = some (.lst [.ref t0]) := by rw [upd_ne dT.symm, upd_same]
    have htF : (upd (upd (upd (upd (upd H2 d (.dK [])) b0 (.lst [])) t0 (.lst [.int 0, .ref b0])) aT (.lst [.ref t0])) d (.dK (owK ⟨aS, aT, [t0], [b0]⟩))) t0 = some (.lst [.int 0, .ref b0]) := by rw [upd_ne dt.symm, upd_ne tT, upd_same]
    have hbF : (upd (upd (upd (upd (upd H2 d (.dK [])) b0 (.lst [])) t0 (.lst [.int 0, .ref b0])) aT (.lst [.ref t0])) d (.dK (owK ⟨aS, aT, [t0], [b0]⟩))) b0 = some (.lst []) := by rw [upd_ne db.symm, upd_ne bT, upd_ne bt, upd_same]
    have owF : OwAt (upd (upd (upd (upd (upd H2 d (.dK [])) b0 (.lst [])) t0 (.lst [.int 0, .ref b0])) aT (.lst [.ref t0])) d (.dK (owK ⟨aS, aT, [t0], [b0]⟩))) d ⟨aS, aT, [t0], [b0]⟩ sh [] := by
      refine ⟨hdF, hv.same (TupSame.of SF), hTF, rfl, rfl, fun i t b c e1 e2 e3 => ?_, by simp [tT.symm, bT.symm, bt.symm]⟩
      cases i with
      | zero =>
        cases e1
        cases e2
        cases e3
        exact ⟨htF, hbF⟩
      | succ i => cases e1
    generalize upd (upd (upd (upd (upd H2 d (.dK [])) b0 (.lst [])) t0 (.lst [.int 0, .ref b0])) aT (.lst [.ref t0])) d (.dK (owK ⟨aS, aT, [t0], [b0]⟩)) = HF at SF owF ⊢
    clear hdF hTF htF hbF hd0 hd1 hd2 hb1 hb2 ht2
    have SHF := S2.trans SF
    -- the plain heap
    refine ⟨_, rfl, rfl, rfl, fun hp dx nhp ndx ne => ?_⟩
    have SG : Same HF (upd (upd HF dx (.own hp)) hp (.ins C_PlainHeap dx [])) := same_at nhp (same_new ndx)
    refine ⟨hp, dx, .ref aS, sh, rfl, upd_same, hv.same (TupSame.of (SF.trans SG)), by omega, s2, fun a HI phI e1 e2 nK nB kI => ⟨rfl, ?_⟩⟩
    have SI : Same HF HI := fun b u e => kI _ _ (by simpa using ne_of_none e nhp) (SG _ _ e)
    refine ⟨by show 1 ≤ sizeLine; decide, fun bg nbg => ⟨by show 0 ≤ sizeLine; decide, fun hl0 nhl => ⟨by show 4 ≤ sizeLine; decide, fun tt ntt => ⟨tt, _, rfl, SqT.of upd_same, rfl, _, _, rfl, _, _, rfl, _, _, rfl, _, _, rfl, rfl, ?_⟩⟩⟩⟩
    have hbgJ : (upd HI bg (.lst [.int 3000])) bg = some (.lst [.int 3000]) := upd_same
    have bh : bg ≠ hl0 := ne_of_none hbgJ nhl
    have nhl2 : HI hl0 = none := by rw [upd_ne bh.symm] at nhl; exact nhl
    have SJ : Same HI (upd (upd (upd HI bg (.lst [.int 3000])) hl0 (.lst [])) tt (.tup [.ref d, .ref hp, .ref bg, .ref hl0])) := (same_new nbg).trans ((same_new nhl).trans (same_new ntt))
    have hbg2 := same_new ntt (o := .tup [.ref d, .ref hp, .ref bg, .ref hl0]) _ _ (same_new nhl (o := .lst []) _ _ hbgJ)
    have hhl2 := same_new ntt (o := .tup [.ref d, .ref hp, .ref bg, .ref hl0]) _ _ (upd_same (H := upd HI bg (.lst [.int 3000])) (a := hl0) (o := .lst []))
    obtain ⟨HJ, eHJ⟩ : ∃ HJ, HJ = upd (upd (upd HI bg (.lst [.int 3000])) hl0 (.lst [])) tt (.tup [.ref d, .ref hp, .ref bg, .ref hl0]) := ⟨_, rfl⟩
    rw [← eHJ] at SJ hbg2 hhl2
    refine at_nx eHJ ?_
    clear eHJ
    have SHI := SHF.trans SI
    have SHJ := SHI.trans SJ
    have ow0 := owF.same (SI.trans SJ)
    have ph0 := phI.same SJ
    have owL := (owF.same SI).lst
    have phL := phI.lst
    have nHK : ∀ {b : Addr}, HI b = none → H b = none := fun e => SHI.free e
    have dis0 : ∀ b ∈ a.aK :: a.aB :: a.bs, b ∉ aT :: ([t0] ++ [b0]) := fun b hb z => by
      obtain ⟨xs, hx⟩ := owF.lst b z
      rw [e1] at hb
      rcases (by simpa using hb : b = a.aK ∨ b = a.aB) with rfl | rfl
      · rw [SG _ _ hx] at nK; cases nK
      · rw [SG _ _ hx] at nB; cases nB
    have w0 : Wd C_PlainHeap HJ hp d bg a ⟨aS, aT, [t0], [b0]⟩ sh [] := ⟨ph0, ow0, ⟨3000, hbg2⟩, dis0, (fun z => by
      obtain ⟨xs, hx⟩ := phL bg z
      rw [nbg] at hx; cases hx), (fun z => by
      obtain ⟨xs, hx⟩ := owL bg z
      rw [nbg] at hx; cases hx), ⟨s1, s2, by simp, (fun _ h => nomatch h), (fun _ h => nomatch h), (fun _ h => nomatch h)⟩⟩
    have fr0 : ∀ b, adr a ⟨aS, aT, [t0], [b0]⟩ bg b → H b = none := fun b hb => by
      rcases hb with rfl | hb | hb
      · exact nHK nbg
      · rw [e1] at hb
        rcases (by simpa using hb : b = a.aK ∨ b = a.aB) with rfl | rfl
        · exact SHF.free (SG.free nK)
        · exact SHF.free (SG.free nB)
      · have hb : b ∈ aT :: ([t0] ++ [b0]) := hb
        rcases (by simpa using hb : b = aT ∨ b = t0 ∨ b = b0) with rfl | rfl | rfl
        · exact S2.free naT2
        · exact S2.free nt02
        · exact S2.free nb02
    have hlA : ¬ adr a ⟨aS, aT, [t0], [b0]⟩ bg hl0 := fun z => by
      rcases z with h | h | h
      · exact bh h.symm
      · obtain ⟨xs, hx⟩ := phL _ h
        rw [nhl2] at hx; cases hx
      · obtain ⟨xs, hx⟩ := owL _ h
        rw [nhl2] at hx; cases hx
    have nhlH : H hl0 = none := nHK nhl2
    clear owL phL nHK dis0
    -- the walk
    have hmx : ∃ N : Nat, (if (if 69 < (ns.length : Int) then 69 else (ns.length : Int)) > 5 then (if 69 < (ns.length : Int) then 69 else (ns.length : Int)) else 5) = (N : Int) ∧ N ≤ 63 := by
      refine ⟨if ns.length > 5 then ns.length else 5, ?_, ?_⟩
      · split <;> split <;> split <;> omega
      · split <;> omega
    obtain ⟨N, eN, hN⟩ := hmx
    refine ⟨_, rfl, .ref sa, ns.length, rfl, .inl ⟨_, SHJ.seq hS, by simp⟩, _, _, rfl, _, _, rfl, 1, N, congrArg (fun z => [V.int 1, V.int z]) eN, ⟨by decide, by decide, by omega, by omega⟩, ?_⟩
    refine for_range (lo := 1) (n := ((N : Int) - 1).toNat) (fun i σ H' => ∃ (a : Pa) (o : Oa) (T : List Thing) (hs : List V) (ds : List PyData) (o6 o7 o8 o9 o10 o11 o12 : Option V), σ = [some (.ref sa), some (.ref aS), some (.ref d), some (.ref hp), some (.ref bg), some (.ref hl0), o6, o7, o8, o9, o10, o11, o12] ∧
        Wd C_PlainHeap H' hp d bg a o sh T ∧ T.length ≤ 5 * i ∧ H' hl0 = some (.lst hs) ∧ DvAll H' hs (ds.map pr) ∧ (∀ x ∈ ds, dOk 5 x) ∧ ds.length = i ∧ Same H H' ∧ (∀ b, adr a o bg b → H b = none) ∧ ¬ adr a o bg hl0)
      ⟨a, ⟨aS, aT, [t0], [b0]⟩, [], [], [], _, _, _, _, _, _, _, rfl, w0, by simp, hhl2, .nil, (fun _ h => nomatch h), rfl, SHJ, fr0, hlA⟩ ?_ ?_
    · rintro i σ HK hi ⟨a, o, T, hs, ds, o6, o7, o8, o9, o10, o11, o12, rfl, w1, hT, hhl, hds, hok, hdl, SK, fr, hlA⟩
      have hiN : i < 62 := by omega
      have e1i : (1 + (i : Int)) = ((1 + i : Nat) : Int) := by omega
      refine ⟨_, rfl, _, rfl, sa, ns, 1 + i, congrArg (fun z => [V.ref sa, V.int z]) e1i, SK.seq hS, by omega, fun p HL np SL FL => ?_⟩
      have wL := w1.same SL
      have hpH : H p = none := SK.free np
      have npA : ¬ adr a o bg p := fun z => by
        obtain ⟨xs, hx⟩ := w1.lst z
        rw [np] at hx; cases hx
      have php : hl0 ≠ p := ne_of_none hhl np
      have hhlL := SL _ _ hhl
      have hdsL := hds.same (TupSame.of SL)
      have SHL := SK.trans SL
      refine ⟨fun σ' H' => ∃ (a : Pa) (o : Oa) (T : List Thing) (m : Nat) (o8 : Option V), σ' = [some (.ref sa), some (.ref aS), some (.ref d), some (.ref hp), some (.ref bg), some (.ref hl0), some (.int (1 + (i : Int))), some (.ref p), o8, o9, o10, o11, o12] ∧
          Wd C_PlainHeap H' hp d bg a o sh T ∧ FeedAt H' p m ∧ m ≤ 300 ∧ T.length ≤ 5 * i + 5 ∧ H' hl0 = some (.lst hs) ∧ DvAll H' hs (ds.map pr) ∧ Same H H' ∧ (∀ b, adr a o bg b → H b = none) ∧ ¬ adr a o bg hl0 ∧ ¬ adr a o bg p, ?_, ?_⟩
      · refine ⟨_, rfl, p, 5, 0, rfl, FL, by decide, by decide, by decide, fun r HM r0 r1 kM FM => ⟨_, _, rfl, rfl, 1 + r, rfl, by omega, by omega, ?_⟩⟩
        have wM := wL.feed kM FL npA
        have SHM : Same H HM := fun b u e => kM _ _ (by simpa using ne_of_none e hpH) (SHL _ _ e)
        refine for_range (lo := 0) (n := (1 + r).toNat) (fun j σ H' => ∃ (a : Pa) (o : Oa) (T : List Thing) (m : Nat) (o8 : Option V), σ = [some (.ref sa), some (.ref aS), some (.ref d), some (.ref hp), some (.ref bg), some (.ref hl0), some (.int (1 + (i : Int))), some (.ref p), o8, o9, o10, o11, o12] ∧
          Wd C_PlainHeap H' hp d bg a o sh T ∧ FeedAt H' p m ∧ m ≤ 1 + 40 * j ∧ T.length ≤ 5 * i + j ∧ H' hl0 = some (.lst hs) ∧ DvAll H' hs (ds.map pr) ∧ Same H H' ∧ (∀ b, adr a o bg b → H b = none) ∧ ¬ adr a o bg hl0 ∧ ¬ adr a o bg p)
          ⟨a, o, T, _, _, rfl, wM, FM, by omega, hT, kM _ _ (by simpa using php) hhlL, hdsL.same (feed_tups kM FL), SHM, fr, hlA, npA⟩ ?_ ?_
        · rintro j σ HO hj ⟨a1, o1, T1, m1, o8', rfl, wO, FO, hm1, hT1, hhlO, hdsO, SHO, frO, hlO, npO⟩
          refine ⟨_, rfl, _, rfl, _, rfl, _, rfl, hp, d, p, bg, a1, o1, sh, T1, m1, rfl, FO, by omega, wO, npO, by omega, fun a2 o2 T2 HP m2 wP FP hm2 frP lP kP => ⟨_, rfl, iteF ?_⟩⟩
          have sameP : Same H HP := fun b u e => kP b u (ne_of_none e hpH) (fun z => by rw [frO b z] at e; cases e) (SHO _ _ e)
          have fr2 : ∀ b, adr a2 o2 bg b → H b = none := fun b hb => by
            rcases frP b hb with h | h
            · exact frO b h
            · exact SHO.free h
          refine ⟨a2, o2, T2, m2, _, rfl, wP, FP, by omega, by omega, kP _ _ php hlO hhlO, hdsO.same (fun b xs e => kP b _ (fun z => ?_) (fun z => ?_) e), sameP, fr2, fun z => ?_, fun z => ?_⟩
          · obtain ⟨x, y, z2, e2, _⟩ := FO
            rw [z, e2] at e; cases e
          · obtain ⟨ys, hy⟩ := wO.lst z
            rw [e] at hy; cases hy
          · rcases frP _ z with h | h
            · exact hlO h
            · rw [hhlO] at h; cases h
          · rcases frP _ z with h | h
            · exact npO h
            · obtain ⟨x, y, z2, e2, _⟩ := FO
              rw [e2] at h; cases h
        · rintro σ HO ⟨a1, o1, T1, m1, o8', rfl, wO, FO, hm1, hT1, h⟩
          exact ⟨a1, o1, T1, m1, _, rfl, wO, FO, by omega, by omega, h⟩
      rintro σ' HO ⟨a1, o1, T1, m1, o8', rfl, wO, FO, hm1, hT1, hhlO, hdsO, SHO, frO, hlO, npO⟩
      have lt := wO.ow.lt
      refine ⟨fun σ' H' => σ' = [some (.ref sa), some (.ref aS), some (.ref d), some (.ref hp), some (.ref bg), some (.ref hl0), some (.int (1 + (i : Int))), some (.ref p), o8', some (.int T1.length), o10, o11, o12] ∧ H' = HO, ?_, ?_⟩
      · refine ⟨_, rfl, d, _, rfl, wO.ow.getT, .ref o1.aT, T1.length + 1, rfl, .inl ⟨_, SqL.of wO.ow.things, by rw [List.length_map, lt]⟩, _, _, rfl, rfl, ?_, rfl⟩
        have eM : (((T1.length + 1 : Nat) : Int) - 1) = (T1.length : Int) := by omega
        show [some (V.ref sa), some (.ref aS), some (.ref d), some (.ref hp), some (.ref bg), some (.ref hl0), some (.int (1 + (i : Int))), some (.ref p), o8', some (.int (((T1.length + 1 : Nat) : Int) - 1)), o10, o11, o12] = _
        rw [eM]
      rintro σ' H'' ⟨rfl, rfl⟩
      refine ⟨_, rfl, _, rfl, p, T1.length, m1, rfl, FO, by omega, by omega, fun rv rs mR HR kR FR hmR hrv hrs hrl => ?_⟩
      have wR := wO.feed kR FO npO
      have W := wR.ok
      refine ⟨_, rfl, _, rfl, d, rv, rs, o1, sh, T1, rfl, wR.ow, W, hrv, hrs, fun du HS SS hdu => ?_⟩
      have wS := wR.same SS
      refine ⟨_, rfl, hp, _, _, rfl, wS.ph.at_, phF_no rfl rfl rfl, _, rfl, hp, rv, rs, a1, sh, T1, rfl, wS.ph, W, hrv.same (TupSame.of SS), hrs, fun fu HT ST hfu => ?_⟩
      have wT := wS.same ST
      have hduT := hdu.same (TupSame.of ST)
      have SRT := SS.trans ST
      obtain ⟨g, x1, th, vs, rfl, hg, hth, hvl⟩ := gPy_at hduT
      -- equal graphs, and how many are not reached
      refine ⟨_, rfl, _, rfl, fu, .ref g, _, rfl, hfu, hduT, gPy_ok _ _ _, fun HU SU => ⟨_, rfl, iteF ?_⟩⟩
      have wU := wT.same SU
      have hrvU := hrv.same (TupSame.of (SRT.trans SU))
      refine ⟨_, rfl, hp, _, _, rfl, wU.ph.at_, phF_no rfl rfl rfl, _, rfl, hp, rv, rs, a1, sh, T1, rfl, wU.ph, W, hrvU, hrs, fun HV SV => ?_⟩
      have SUV := SU.trans SV
      refine ⟨_, rfl, _, rfl, g, _, 1, .ref th, rfl, rfl, SqT.of (SUV _ _ hg), rfl, .ref th, vs.length, rfl, .inr ⟨_, SqT.of (SUV _ _ hth), rfl⟩, _, _, rfl, rfl, ?_⟩
      refine ⟨_, _, .int ((T1.length : Int) - vs.length), rfl, by rw [hvl]; exact dv_i _, dv_i _, trivial, fun HW SW => ⟨_, rfl, iteF ?_⟩⟩
      have wW := wU.same (SV.trans SW)
      have SUW := SUV.trans SW
      have hrvW := hrvU.same (TupSame.of (SV.trans SW))
      refine ⟨_, rfl, hp, _, _, rfl, wW.ph.at_, phF_no rfl rfl rfl, _, rfl, rfl, hp, rv, rs, a1, sh, T1, rfl, wW.ph, W, hrvW, hrs, fun fu2 HX SX hfu2 => ?_⟩
      have SUX := SUW.trans SX
      refine ⟨_, rfl, fu2, .ref g, _, rfl, hfu2, hduT.same (TupSame.of SUX), gPy_ok _ _ _, fun HY SY => ⟨_, rfl, iteF ?_⟩⟩
      have wY := wW.same (SX.trans SY)
      have SUY := SUX.trans SY
      have hrvY := hrvW.same (TupSame.of (SX.trans SY))
      refine ⟨_, rfl, hp, _, _, rfl, wY.ph.at_, phF_no rfl rfl rfl, _, rfl, rfl, hp, rv, rs, a1, sh, T1, rfl, wY.ph, W, hrvY, hrs, fun HZ SZ => ?_⟩
      have SUZ := SUY.trans SZ
      refine ⟨_, rfl, _, rfl, g, _, 1, .ref th, rfl, rfl, SqT.of (SUZ _ _ hg), rfl, .ref th, vs.length, rfl, .inr ⟨_, SqT.of (SUZ _ _ hth), rfl⟩, _, _, rfl, rfl, ?_⟩
      refine ⟨_, _, .int ((T1.length : Int) - vs.length), rfl, by rw [hvl]; exact dv_i _, dv_i _, trivial, fun H1' S1' => ⟨_, rfl, iteF ?_⟩⟩
      have SUE := SUZ.trans S1'
      have wE := wY.same (SZ.trans S1')
      have SRE := SRT.trans SUE
      have hhlE : H1' hl0 = some (.lst hs) := SRE _ _ (kR _ _ (by simpa using php) hhlO)
      have hdsE : DvAll H1' hs (ds.map pr) := (hdsO.same (feed_tups kR FO)).same (TupSame.of SRE)
      have SHE : Same H H1' := fun b u e => SRE _ _ (kR _ _ (by simpa using ne_of_none e hpH) (SHO _ _ e))
      refine ⟨_, rfl, .inl ⟨rfl, _, SqL.of hhlE⟩, _, rfl, _, rfl, by show 2 ≤ sizeLine; decide, fun tp ntp => ?_⟩
      have htp : hl0 ≠ tp := ne_of_none hhlE ntp
      have hhl3 := same_new ntp (o := .tup [fu, .ref g]) _ _ hhlE
      have hdl2 := hdsE.len
      rw [List.length_map] at hdl2
      refine ⟨hl0, _, _, rfl, rfl, hhl3, small1000 (by omega), ?_⟩
      have k9 : KeptL [hl0] (upd H1' tp (.tup [fu, .ref g])) (upd (upd H1' tp (.tup [fu, .ref g])) hl0 (.lst (hs ++ [.ref tp]))) := fun b u nb e => by rw [upd_ne (by simpa using nb)]; exact e
      have l9 : ∀ b ∈ [hl0], ∃ xs, (upd H1' tp (.tup [fu, .ref g])) b = some (.lst xs) := fun b hb => by
        rw [List.mem_singleton.mp hb]
        exact ⟨_, hhl3⟩
      have S9 := same_new (H1 := H1') ntp (o := .tup [fu, .ref g])
      have t9 := k9.tups l9
      refine ⟨a1, o1, T1, hs ++ [.ref tp], ds ++ [gPy sh T1 rs], _, _, _, _, _, _, _, rfl, (wE.same S9).keptL k9 l9 (fun b hb => by rw [List.mem_singleton.mp hb]; exact hlO), by omega, upd_same, ?_, fun x hx => ?_, by simp [hdl], fun b u e => ?_, frO, hlO⟩
      · rw [List.map_append]
        refine (hdsE.same (fun b xs e => t9 _ _ (S9 _ _ e))).app (.cons ?_ .nil)
        exact .tup (xs := [fu, .ref g]) (t9 _ _ upd_same) (by show 2 ≤ 1000; decide) (.cons ((hfu.same (TupSame.of SUE)).same (fun b xs e => t9 _ _ (S9 _ _ e))) (.cons ((hduT.same (TupSame.of SUE)).same (fun b xs e => t9 _ _ (S9 _ _ e))) .nil))
      · rcases List.mem_append.mp hx with h | h
        · exact hok x h
        · rw [List.mem_singleton.mp h]
          exact gPy_ok _ _ _
      · rw [upd_ne (ne_of_none e nhlH)]
        exact S9 _ _ (SHE _ _ e)
    · rintro σ HK ⟨a, o, T, hs, ds, o6, o7, o8, o9, o10, o11, o12, rfl, w1, hT, hhl, hds, hok, hdl, SK, fr, hlA⟩
      have hdl2 := hds.len
      rw [List.length_map] at hdl2
      refine ⟨_, rfl, hl0, rfl, ⟨_, SqL.of hhl⟩, fun D nD => ?_⟩
      refine lc_list (K := K) (a := hl0) (xs := hs) (fun i H2 => H2 D = some (.lst ((List.replicate i true).map V.bl)) ∧ Same HK H2) ⟨upd_same, same_new nD⟩ ?_ ?_ ?_
      · rintro i H2 _ ⟨_, S2⟩
        exact SqL.of (S2 _ _ hhl)
      · rintro i x H2 hx ⟨hD, S2⟩
        have hi := (List.getElem?_eq_some_iff.mp hx).1
        have hid : i < ds.length := by omega
        obtain ⟨v1, ev1, hv1⟩ := hds.get (i := i) (d := pr ds[i]) (by rw [List.getElem?_map, List.getElem?_eq_getElem hid]; rfl)
        rw [hx] at ev1
        cases ev1
        obtain ⟨tq, xs, rfl, htq, _, r1⟩ := Dv.tupE hv1
        obtain ⟨f1, us, rfl, hf1, r2⟩ := r1.consE
        obtain ⟨f2, us, rfl, hf2, r3⟩ := r2.consE
        obtain rfl := r3.nilE
        refine ⟨tq, _, rfl, SqT.of (S2 _ _ htq), rfl, _, _, rfl, _, _, rfl, rfl, rfl, iteT (B := H2 D = some (.lst ((List.replicate (i + 1) true).map V.bl)) ∧ Same HK H2) ?_⟩
        refine ⟨_, rfl, _, rfl, f1, f2, ds[i], rfl, hf1.same (TupSame.of S2), hf2.same (TupSame.of S2), hok _ (List.getElem_mem hid), fun H3 S3 => ?_⟩
        exact ⟨_, S3 _ _ hD, by simp; exact small1000 (by omega), by rw [upd_same, List.replicate_succ', List.map_append]; rfl, same_at nD (S2.trans S3)⟩
      · rintro H2 ⟨hD, S2⟩
        refine ⟨D, _, rfl, SqL.of hD, ?_⟩
        have : (List.replicate hs.length true).all id = true := by simp
        rw [this]
        exact q H2
end
end PH

/-! The facts. -/
namespace HX
open PySem PySem.Spec PyProof.Rows L2 PV T KA KK PH
open He (Fa FnD ga ma)
theorem fun_of {K : PySem.W.Frag} (ce : He.SaysE fa fn K) (i : Nat) {p : Str × Option Str} {x q : Str} {st : Stmt} (h : fn[i]? = some ⟨p, x, q, defArgs st, defBody st, defScope st⟩) (kp : PySem.W.keepIn K (.ref (He.fAd K p)) = true) : ∃ fd, L2.Fun K x q st (He.fAd K p) fd := by
  obtain ⟨oc, od, osl, kV, doc, pm, an, cdv, ct, e1, e2⟩ := ce.def_ i h
  exact ⟨_, ⟨oc, od, kV, doc, pm, an, cdv, ct, osl, rfl, e1, e2⟩, kp⟩
theorem lw {w : World} {K : PySem.W.Frag} {h : Heap} {mg : Str → Option Value} (X : K.In h) (G : h.Ns mainGlobals mg) (c : Says w K) : KK.Lw K mg (ga K "Tracing") (ga K "PlainHeap") := by
  have ce : He.SaysE fa fn K := c
  have g : ∀ x, (Fa.glo x).ok K = true → mg x = some (.ref (ga K x)) := fun x c => He.glo_ok X G c
  have z_all : mg "all" = none := He.free_ok X G (ce.fact 56 rfl)
  have z_bool : mg "bool" = none := He.free_ok X G (ce.fact 57 rfl)
  have z_enumerate : mg "enumerate" = none := He.free_ok X G (ce.fact 58 rfl)
  have z_int : mg "int" = none := He.free_ok X G (ce.fact 59 rfl)
  have z_isinstance : mg "isinstance" = none := He.free_ok X G (ce.fact 60 rfl)
  have z_len : mg "len" = none := He.free_ok X G (ce.fact 61 rfl)
  have z_list : mg "list" = none := He.free_ok X G (ce.fact 62 rfl)
  have z_max : mg "max" = none := He.free_ok X G (ce.fact 63 rfl)
  have z_min : mg "min" = none := He.free_ok X G (ce.fact 64 rfl)
  have z_range : mg "range" = none := He.free_ok X G (ce.fact 65 rfl)
  have z_str : mg "str" = none := He.free_ok X G (ce.fact 66 rfl)
  have z_sum : mg "sum" = none := He.free_ok X G (ce.fact 67 rfl)
  have z_tuple : mg "tuple" = none := He.free_ok X G (ce.fact 68 rfl)
  have i_LEAST_INT : ∃ t, mg "LEAST_INT" = some (.int (-2147483648) t) := He.int_ok X G (ce.fact 69 rfl)
  have i_GREATEST_INT : ∃ t, mg "GREATEST_INT" = some (.int (2147483647) t) := He.int_ok X G (ce.fact 70 rfl)
  have i_MOST_ENTRIES : ∃ t, mg "MOST_ENTRIES" = some (.int (1000) t) := He.int_ok X G (ce.fact 71 rfl)
  have i_LINK_ROW : ∃ t, mg "LINK_ROW" = some (.int (-2) t) := He.int_ok X G (ce.fact 72 rfl)
  have i_SIGNS : ∃ t, mg "SIGNS" = some (.int (-3) t) := He.int_ok X G (ce.fact 73 rfl)
  have i_MOST_SHAPES : ∃ t, mg "MOST_SHAPES" = some (.int (60) t) := He.int_ok X G (ce.fact 74 rfl)
  have i_MOST_SHAPE_FIELDS : ∃ t, mg "MOST_SHAPE_FIELDS" = some (.int (100) t) := He.int_ok X G (ce.fact 75 rfl)
  have i_MOST_ROOTS : ∃ t, mg "MOST_ROOTS" = some (.int (40000) t) := He.int_ok X G (ce.fact 76 rfl)
  have i_MOST_SLICE : ∃ t, mg "MOST_SLICE" = some (.int (1000000) t) := He.int_ok X G (ce.fact 77 rfl)
  have g_Tracing := g "Tracing" (ce.fact 54 rfl)
  have g_PlainHeap := g "PlainHeap" (ce.fact 55 rfl)
  have d_is_integer : ∃ f fd, Gd K mg "is_integer" s_is_integer ["thing"] f fd := by
    obtain ⟨fd, F⟩ := fun_of ce 0 (st := s_is_integer) rfl (He.keep_ok (x := "is_integer") (ce.fact 1 rfl))
    exact ⟨_, fd, F, g "is_integer" (ce.fact 0 rfl), F.binds (ps := ["thing"]) fun _ _ _ _ _ _ us hl => match us, hl with | [_], _ => rfl⟩
  have d_is_between : ∃ f fd, Gd K mg "is_between" s_is_between ["thing", "least", "greatest"] f fd := by
    obtain ⟨fd, F⟩ := fun_of ce 1 (st := s_is_between) rfl (He.keep_ok (x := "is_between") (ce.fact 3 rfl))
    exact ⟨_, fd, F, g "is_between" (ce.fact 2 rfl), F.binds (ps := ["thing", "least", "greatest"]) fun _ _ _ _ _ _ us hl => match us, hl with | [_, _, _], _ => rfl⟩
  have d_is_tuple_to : ∃ f fd, Gd K mg "is_tuple_to" s_is_tuple_to ["thing", "most"] f fd := by
    obtain ⟨fd, F⟩ := fun_of ce 2 (st := s_is_tuple_to) rfl (He.keep_ok (x := "is_tuple_to") (ce.fact 5 rfl))
    exact ⟨_, fd, F, g "is_tuple_to" (ce.fact 4 rfl), F.binds (ps := ["thing", "most"]) fun _ _ _ _ _ _ us hl => match us, hl with | [_, _], _ => rfl⟩
  have d_look_at_shapes : ∃ f fd, Gd K mg "look_at_shapes" s_look_at_shapes ["shapes"] f fd := by
    obtain ⟨fd, F⟩ := fun_of ce 3 (st := s_look_at_shapes) rfl (He.keep_ok (x := "look_at_shapes") (ce.fact 7 rfl))
    exact ⟨_, fd, F, g "look_at_shapes" (ce.fact 6 rfl), F.binds (ps := ["shapes"]) fun _ _ _ _ _ _ us hl => match us, hl with | [_], _ => rfl⟩
  have d_look_at_kind : ∃ f fd, Gd K mg "look_at_kind" s_look_at_kind ["shapes", "kind"] f fd := by
    obtain ⟨fd, F⟩ := fun_of ce 4 (st := s_look_at_kind) rfl (He.keep_ok (x := "look_at_kind") (ce.fact 9 rfl))
    exact ⟨_, fd, F, g "look_at_kind" (ce.fact 8 rfl), F.binds (ps := ["shapes", "kind"]) fun _ _ _ _ _ _ us hl => match us, hl with | [_, _], _ => rfl⟩
  have d_look_at_size : ∃ f fd, Gd K mg "look_at_size" s_look_at_size ["shapes", "kind", "slots"] f fd := by
    obtain ⟨fd, F⟩ := fun_of ce 5 (st := s_look_at_size) rfl (He.keep_ok (x := "look_at_size") (ce.fact 11 rfl))
    exact ⟨_, fd, F, g "look_at_size" (ce.fact 10 rfl), F.binds (ps := ["shapes", "kind", "slots"]) fun _ _ _ _ _ _ us hl => match us, hl with | [_, _, _], _ => rfl⟩
  have d_is_size : ∃ f fd, Gd K mg "is_size" s_is_size ["shapes", "kind", "slots"] f fd := by
    obtain ⟨fd, F⟩ := fun_of ce 6 (st := s_is_size) rfl (He.keep_ok (x := "is_size") (ce.fact 13 rfl))
    exact ⟨_, fd, F, g "is_size" (ce.fact 12 rfl), F.binds (ps := ["shapes", "kind", "slots"]) fun _ _ _ _ _ _ us hl => match us, hl with | [_, _, _], _ => rfl⟩
  have d_look_at_roots : ∃ f fd, Gd K mg "look_at_roots" s_look_at_roots ["roots", "holder"] f fd := by
    obtain ⟨fd, F⟩ := fun_of ce 7 (st := s_look_at_roots) rfl (He.keep_ok (x := "look_at_roots") (ce.fact 15 rfl))
    exact ⟨_, fd, F, g "look_at_roots" (ce.fact 14 rfl), F.binds (ps := ["roots", "holder"]) fun _ _ _ _ _ _ us hl => match us, hl with | [_, _], _ => rfl⟩
  have d_are_roots : ∃ f fd, Gd K mg "are_roots" s_are_roots ["roots", "holder"] f fd := by
    obtain ⟨fd, F⟩ := fun_of ce 8 (st := s_are_roots) rfl (He.keep_ok (x := "are_roots") (ce.fact 17 rfl))
    exact ⟨_, fd, F, g "are_roots" (ce.fact 16 rfl), F.binds (ps := ["roots", "holder"]) fun _ _ _ _ _ _ us hl => match us, hl with | [_, _], _ => rfl⟩
  have d_shape_links : ∃ f fd, Gd K mg "shape_links" s_shape_links ["shape"] f fd := by
    obtain ⟨fd, F⟩ := fun_of ce 9 (st := s_shape_links) rfl (He.keep_ok (x := "shape_links") (ce.fact 19 rfl))
    exact ⟨_, fd, F, g "shape_links" (ce.fact 18 rfl), F.binds (ps := ["shape"]) fun _ _ _ _ _ _ us hl => match us, hl with | [_], _ => rfl⟩
  have d_is_link : ∃ f fd, Gd K mg "is_link" s_is_link ["shapes", "kind", "slot"] f fd := by
    obtain ⟨fd, F⟩ := fun_of ce 10 (st := s_is_link) rfl (He.keep_ok (x := "is_link") (ce.fact 21 rfl))
    exact ⟨_, fd, F, g "is_link" (ce.fact 20 rfl), F.binds (ps := ["shapes", "kind", "slot"]) fun _ _ _ _ _ _ us hl => match us, hl with | [_, _, _], _ => rfl⟩
  have d__law_feed : ∃ f fd, Gd K mg "_law_feed" s_law_feed ["_law_script", "_law_k"] f fd := by
    obtain ⟨fd, F⟩ := fun_of ce 11 (st := s_law_feed) rfl (He.keep_ok (x := "_law_feed") (ce.fact 23 rfl))
    exact ⟨_, fd, F, g "_law_feed" (ce.fact 22 rfl), F.binds (ps := ["_law_script", "_law_k"]) fun _ _ _ _ _ _ us hl => match us, hl with | [_, _], _ => rfl⟩
  have d__law_draw : ∃ f fd, Gd K mg "_law_draw" s_law_draw ["_law_feed_here", "_law_many"] f fd := by
    obtain ⟨fd, F⟩ := fun_of ce 12 (st := s_law_draw) rfl (He.keep_ok (x := "_law_draw") (ce.fact 25 rfl))
    exact ⟨_, fd, F, g "_law_draw" (ce.fact 24 rfl), F.binds (ps := ["_law_feed_here", "_law_many"]) fun _ _ _ _ _ _ us hl => match us, hl with | [_, _], _ => rfl⟩
  have d__law_one : ∃ f fd, Gd K mg "_law_one" s_law_one ["_law_feed_here", "_law_things"] f fd := by
    obtain ⟨fd, F⟩ := fun_of ce 13 (st := s_law_one) rfl (He.keep_ok (x := "_law_one") (ce.fact 27 rfl))
    exact ⟨_, fd, F, g "_law_one" (ce.fact 26 rfl), F.binds (ps := ["_law_feed_here", "_law_things"]) fun _ _ _ _ _ _ us hl => match us, hl with | [_, _], _ => rfl⟩
  have d__law_shapes : ∃ f fd, Gd K mg "_law_shapes" s_law_shapes ["_law_feed_here"] f fd := by
    obtain ⟨fd, F⟩ := fun_of ce 14 (st := s_law_shapes) rfl (He.keep_ok (x := "_law_shapes") (ce.fact 29 rfl))
    exact ⟨_, fd, F, g "_law_shapes" (ce.fact 28 rfl), F.binds (ps := ["_law_feed_here"]) fun _ _ _ _ _ _ us hl => match us, hl with | [_], _ => rfl⟩
  have d__law_kinds_of : ∃ f fd, Gd K mg "_law_kinds_of" s_law_kinds_of ["_law_shapes_here"] f fd := by
    obtain ⟨fd, F⟩ := fun_of ce 15 (st := s_law_kinds_of) rfl (He.keep_ok (x := "_law_kinds_of") (ce.fact 31 rfl))
    exact ⟨_, fd, F, g "_law_kinds_of" (ce.fact 30 rfl), F.binds (ps := ["_law_shapes_here"]) fun _ _ _ _ _ _ us hl => match us, hl with | [_], _ => rfl⟩
  have d__law_equal : ∃ f fd, Gd K mg "_law_equal" s_law_equal ["_law_found", "_law_due"] f fd := by
    obtain ⟨fd, F⟩ := fun_of ce 16 (st := s_law_equal) rfl (He.keep_ok (x := "_law_equal") (ce.fact 33 rfl))
    exact ⟨_, fd, F, g "_law_equal" (ce.fact 32 rfl), F.binds (ps := ["_law_found", "_law_due"]) fun _ _ _ _ _ _ us hl => match us, hl with | [_, _], _ => rfl⟩
  have d__law_flags : ∃ f fd, Gd K mg "_law_flags" s_law_flags ["_law_own", "_law_number"] f fd := by
    obtain ⟨fd, F⟩ := fun_of ce 17 (st := s_law_flags) rfl (He.keep_ok (x := "_law_flags") (ce.fact 35 rfl))
    exact ⟨_, fd, F, g "_law_flags" (ce.fact 34 rfl), F.binds (ps := ["_law_own", "_law_number"]) fun _ _ _ _ _ _ us hl => match us, hl with | [_, _], _ => rfl⟩
  have d__law_held : ∃ f fd, Gd K mg "_law_held" s_law_held ["_law_own", "_law_number"] f fd := by
    obtain ⟨fd, F⟩ := fun_of ce 18 (st := s_law_held) rfl (He.keep_ok (x := "_law_held") (ce.fact 37 rfl))
    exact ⟨_, fd, F, g "_law_held" (ce.fact 36 rfl), F.binds (ps := ["_law_own", "_law_number"]) fun _ _ _ _ _ _ us hl => match us, hl with | [_, _], _ => rfl⟩
  have d__law_reach : ∃ f fd, Gd K mg "_law_reach" s_law_reach ["_law_own", "_law_hands"] f fd := by
    obtain ⟨fd, F⟩ := fun_of ce 19 (st := s_law_reach) rfl (He.keep_ok (x := "_law_reach") (ce.fact 39 rfl))
    exact ⟨_, fd, F, g "_law_reach" (ce.fact 38 rfl), F.binds (ps := ["_law_own", "_law_hands"]) fun _ _ _ _ _ _ us hl => match us, hl with | [_, _], _ => rfl⟩
  have d__law_graph : ∃ f fd, Gd K mg "_law_graph" s_law_graph ["_law_own", "_law_hands"] f fd := by
    obtain ⟨fd, F⟩ := fun_of ce 20 (st := s_law_graph) rfl (He.keep_ok (x := "_law_graph") (ce.fact 41 rfl))
    exact ⟨_, fd, F, g "_law_graph" (ce.fact 40 rfl), F.binds (ps := ["_law_own", "_law_hands"]) fun _ _ _ _ _ _ us hl => match us, hl with | [_, _], _ => rfl⟩
  have d__law_worth : ∃ f fd, Gd K mg "_law_worth" s_law_worth ["_law_feed_here"] f fd := by
    obtain ⟨fd, F⟩ := fun_of ce 21 (st := s_law_worth) rfl (He.keep_ok (x := "_law_worth") (ce.fact 43 rfl))
    exact ⟨_, fd, F, g "_law_worth" (ce.fact 42 rfl), F.binds (ps := ["_law_feed_here"]) fun _ _ _ _ _ _ us hl => match us, hl with | [_], _ => rfl⟩
  have d__law_new_kind : ∃ f fd, Gd K mg "_law_new_kind" s_law_new_kind ["_law_feed_here", "_law_shapes_here", "_law_budget"] f fd := by
    obtain ⟨fd, F⟩ := fun_of ce 22 (st := s_law_new_kind) rfl (He.keep_ok (x := "_law_new_kind") (ce.fact 45 rfl))
    exact ⟨_, fd, F, g "_law_new_kind" (ce.fact 44 rfl), F.binds (ps := ["_law_feed_here", "_law_shapes_here", "_law_budget"]) fun _ _ _ _ _ _ us hl => match us, hl with | [_, _, _], _ => rfl⟩
  have d__law_roots : ∃ f fd, Gd K mg "_law_roots" s_law_roots ["_law_feed_here", "_law_many"] f fd := by
    obtain ⟨fd, F⟩ := fun_of ce 23 (st := s_law_roots) rfl (He.keep_ok (x := "_law_roots") (ce.fact 47 rfl))
    exact ⟨_, fd, F, g "_law_roots" (ce.fact 46 rfl), F.binds (ps := ["_law_feed_here", "_law_many"]) fun _ _ _ _ _ _ us hl => match us, hl with | [_, _], _ => rfl⟩
  have d__law_collection : ∃ f fd, Gd K mg "_law_collection" s_law_collection ["_law_heap", "_law_feed_here", "_law_roots_here"] f fd := by
    obtain ⟨fd, F⟩ := fun_of ce 24 (st := s_law_collection) rfl (He.keep_ok (x := "_law_collection") (ce.fact 49 rfl))
    exact ⟨_, fd, F, g "_law_collection" (ce.fact 48 rfl), F.binds (ps := ["_law_heap", "_law_feed_here", "_law_roots_here"]) fun _ _ _ _ _ _ us hl => match us, hl with | [_, _, _], _ => rfl⟩
  have d__law_plain : ∃ f fd, Gd K mg "_law_plain" s_law_plain ["_law_heap", "_law_own", "_law_feed_here", "_law_budget"] f fd := by
    obtain ⟨fd, F⟩ := fun_of ce 25 (st := s_law_plain) rfl (He.keep_ok (x := "_law_plain") (ce.fact 51 rfl))
    exact ⟨_, fd, F, g "_law_plain" (ce.fact 50 rfl), F.binds (ps := ["_law_heap", "_law_own", "_law_feed_here", "_law_budget"]) fun _ _ _ _ _ _ us hl => match us, hl with | [_, _, _, _], _ => rfl⟩
  have d_law : ∃ f fd, Gd K mg "law" s_law ["_law_script"] f fd := by
    obtain ⟨fd, F⟩ := fun_of ce 26 (st := s_law) rfl (He.keep_ok (x := "law") (ce.fact 53 rfl))
    exact ⟨_, fd, F, g "law" (ce.fact 52 rfl), F.binds (ps := ["_law_script"]) fun _ _ _ _ _ _ us hl => match us, hl with | [_], _ => rfl⟩
  have c_Tracing : Cls K (ga K "Tracing") := He.cls_ok (ce.fact 78 rfl)
  have k_Tracing : Mk K (ga K "Tracing") (ma K (ga K "Tracing") "__init__") := He.mkr_ok (ce.fact 79 rfl)
  have n_Tracing_shapes_links : NoAttr K (ga K "Tracing") "shapes_links" := He.noat_ok (ce.fact 82 rfl)
  have n_Tracing_numbers_by_name : NoAttr K (ga K "Tracing") "numbers_by_name" := He.noat_ok (ce.fact 83 rfl)
  have n_Tracing_found : NoAttr K (ga K "Tracing") "found" := He.noat_ok (ce.fact 84 rfl)
  have n_Tracing_things : NoAttr K (ga K "Tracing") "things" := He.noat_ok (ce.fact 85 rfl)
  have n_Tracing_numbers : NoAttr K (ga K "Tracing") "numbers" := He.noat_ok (ce.fact 86 rfl)
  have c_PlainHeap : Cls K (ga K "PlainHeap") := He.cls_ok (ce.fact 80 rfl)
  have k_PlainHeap : Mk K (ga K "PlainHeap") (ma K (ga K "PlainHeap") "__init__") := He.mkr_ok (ce.fact 81 rfl)
  have n_PlainHeap_shapes : NoAttr K (ga K "PlainHeap") "shapes" := He.noat_ok (ce.fact 87 rfl)
  have n_PlainHeap_kinds : NoAttr K (ga K "PlainHeap") "kinds" := He.noat_ok (ce.fact 88 rfl)
  have n_PlainHeap_bodies : NoAttr K (ga K "PlainHeap") "bodies" := He.noat_ok (ce.fact 89 rfl)
  have h_m_Tracing_init : Meth K (ga K "Tracing") "__init__" (ma K (ga K "Tracing") "__init__") := He.meth_ok (ce.fact 90 rfl)
  have m_Tracing_init : ∃ f fd, Mk K (ga K "Tracing") f ∧ L2.Fun K "__init__" "Tracing.__init__" s_Tracing_init f fd ∧ Binds K fd ["self", "shapes", "roots"] [] := by
    obtain ⟨fd, F⟩ := fun_of ce 27 (st := s_Tracing_init) rfl h_m_Tracing_init.kp
    exact ⟨_, fd, k_Tracing, F, F.binds (ps := ["self", "shapes", "roots"]) fun _ _ _ _ _ _ us hl => match us, hl with | [_, _, _], _ => rfl⟩
  have h_m_Tracing_number : Meth K (ga K "Tracing") "number" (ma K (ga K "Tracing") "number") := He.meth_ok (ce.fact 91 rfl)
  have m_Tracing_number : ∃ f fd, Md K (ga K "Tracing") "number" "Tracing.number" s_Tracing_number ["self", "name"] f fd := by
    obtain ⟨fd, F⟩ := fun_of ce 28 (st := s_Tracing_number) rfl h_m_Tracing_number.kp
    exact ⟨_, fd, F, h_m_Tracing_number, F.binds (ps := ["self", "name"]) fun _ _ _ _ _ _ us hl => match us, hl with | [_, _], _ => rfl⟩
  have h_m_Tracing_waits : Meth K (ga K "Tracing") "waits" (ma K (ga K "Tracing") "waits") := He.meth_ok (ce.fact 92 rfl)
  have m_Tracing_waits : ∃ f fd, Md K (ga K "Tracing") "waits" "Tracing.waits" s_Tracing_waits ["self"] f fd := by
    obtain ⟨fd, F⟩ := fun_of ce 29 (st := s_Tracing_waits) rfl h_m_Tracing_waits.kp
    exact ⟨_, fd, F, h_m_Tracing_waits, F.binds (ps := ["self"]) fun _ _ _ _ _ _ us hl => match us, hl with | [_], _ => rfl⟩
  have h_m_Tracing_first_untold : Meth K (ga K "Tracing") "first_untold" (ma K (ga K "Tracing") "first_untold") := He.meth_ok (ce.fact 93 rfl)
  have m_Tracing_first_untold : ∃ f fd, Md K (ga K "Tracing") "first_untold" "Tracing.first_untold" s_Tracing_first_untold ["self"] f fd := by
    obtain ⟨fd, F⟩ := fun_of ce 30 (st := s_Tracing_first_untold) rfl h_m_Tracing_first_untold.kp
    exact ⟨_, fd, F, h_m_Tracing_first_untold, F.binds (ps := ["self"]) fun _ _ _ _ _ _ us hl => match us, hl with | [_], _ => rfl⟩
  have h_m_Tracing_tell : Meth K (ga K "Tracing") "tell" (ma K (ga K "Tracing") "tell") := He.meth_ok (ce.fact 94 rfl)
  have m_Tracing_tell : ∃ f fd, Md K (ga K "Tracing") "tell" "Tracing.tell" s_Tracing_tell ["self", "kind", "body"] f fd := by
    obtain ⟨fd, F⟩ := fun_of ce 31 (st := s_Tracing_tell) rfl h_m_Tracing_tell.kp
    exact ⟨_, fd, F, h_m_Tracing_tell, F.binds (ps := ["self", "kind", "body"]) fun _ _ _ _ _ _ us hl => match us, hl with | [_, _, _], _ => rfl⟩
  have h_m_Tracing_links : Meth K (ga K "Tracing") "links" (ma K (ga K "Tracing") "links") := He.meth_ok (ce.fact 95 rfl)
  have m_Tracing_links : ∃ f fd, Md K (ga K "Tracing") "links" "Tracing.links" s_Tracing_links ["self", "kind", "many"] f fd := by
    obtain ⟨fd, F⟩ := fun_of ce 32 (st := s_Tracing_links) rfl h_m_Tracing_links.kp
    exact ⟨_, fd, F, h_m_Tracing_links, F.binds (ps := ["self", "kind", "many"]) fun _ _ _ _ _ _ us hl => match us, hl with | [_, _, _], _ => rfl⟩
  have h_m_Tracing_many : Meth K (ga K "Tracing") "many" (ma K (ga K "Tracing") "many") := He.meth_ok (ce.fact 96 rfl)
  have m_Tracing_many : ∃ f fd, Md K (ga K "Tracing") "many" "Tracing.many" s_Tracing_many ["self"] f fd := by
    obtain ⟨fd, F⟩ := fun_of ce 33 (st := s_Tracing_many) rfl h_m_Tracing_many.kp
    exact ⟨_, fd, F, h_m_Tracing_many, F.binds (ps := ["self"]) fun _ _ _ _ _ _ us hl => match us, hl with | [_], _ => rfl⟩
  have h_m_Tracing_graph : Meth K (ga K "Tracing") "graph" (ma K (ga K "Tracing") "graph") := He.meth_ok (ce.fact 97 rfl)
  have m_Tracing_graph : ∃ f fd, Md K (ga K "Tracing") "graph" "Tracing.graph" s_Tracing_graph ["self"] f fd := by
    obtain ⟨fd, F⟩ := fun_of ce 34 (st := s_Tracing_graph) rfl h_m_Tracing_graph.kp
    exact ⟨_, fd, F, h_m_Tracing_graph, F.binds (ps := ["self"]) fun _ _ _ _ _ _ us hl => match us, hl with | [_], _ => rfl⟩
  have h_m_PlainHeap_init : Meth K (ga K "PlainHeap") "__init__" (ma K (ga K "PlainHeap") "__init__") := He.meth_ok (ce.fact 98 rfl)
  have m_PlainHeap_init : ∃ f fd, Mk K (ga K "PlainHeap") f ∧ L2.Fun K "__init__" "PlainHeap.__init__" s_PlainHeap_init f fd ∧ Binds K fd ["self", "shapes"] [] := by
    obtain ⟨fd, F⟩ := fun_of ce 35 (st := s_PlainHeap_init) rfl h_m_PlainHeap_init.kp
    exact ⟨_, fd, k_PlainHeap, F, F.binds (ps := ["self", "shapes"]) fun _ _ _ _ _ _ us hl => match us, hl with | [_, _], _ => rfl⟩
  have h_m_PlainHeap_is_object : Meth K (ga K "PlainHeap") "is_object" (ma K (ga K "PlainHeap") "is_object") := He.meth_ok (ce.fact 99 rfl)
  have m_PlainHeap_is_object : ∃ f fd, Md K (ga K "PlainHeap") "is_object" "PlainHeap.is_object" s_PlainHeap_is_object ["self", "address"] f fd := by
    obtain ⟨fd, F⟩ := fun_of ce 36 (st := s_PlainHeap_is_object) rfl h_m_PlainHeap_is_object.kp
    exact ⟨_, fd, F, h_m_PlainHeap_is_object, F.binds (ps := ["self", "address"]) fun _ _ _ _ _ _ us hl => match us, hl with | [_, _], _ => rfl⟩
  have h_m_PlainHeap_look_at : Meth K (ga K "PlainHeap") "look_at" (ma K (ga K "PlainHeap") "look_at") := He.meth_ok (ce.fact 100 rfl)
  have m_PlainHeap_look_at : ∃ f fd, Md K (ga K "PlainHeap") "look_at" "PlainHeap.look_at" s_PlainHeap_look_at ["self", "roots"] f fd := by
    obtain ⟨fd, F⟩ := fun_of ce 37 (st := s_PlainHeap_look_at) rfl h_m_PlainHeap_look_at.kp
    exact ⟨_, fd, F, h_m_PlainHeap_look_at, F.binds (ps := ["self", "roots"]) fun _ _ _ _ _ _ us hl => match us, hl with | [_, _], _ => rfl⟩
  have h_m_PlainHeap_look_at_address : Meth K (ga K "PlainHeap") "look_at_address" (ma K (ga K "PlainHeap") "look_at_address") := He.meth_ok (ce.fact 101 rfl)
  have m_PlainHeap_look_at_address : ∃ f fd, Md K (ga K "PlainHeap") "look_at_address" "PlainHeap.look_at_address" s_PlainHeap_look_at_address ["self", "address"] f fd := by
    obtain ⟨fd, F⟩ := fun_of ce 38 (st := s_PlainHeap_look_at_address) rfl h_m_PlainHeap_look_at_address.kp
    exact ⟨_, fd, F, h_m_PlainHeap_look_at_address, F.binds (ps := ["self", "address"]) fun _ _ _ _ _ _ us hl => match us, hl with | [_, _], _ => rfl⟩
  have h_m_PlainHeap_look_at_slot : Meth K (ga K "PlainHeap") "look_at_slot" (ma K (ga K "PlainHeap") "look_at_slot") := He.meth_ok (ce.fact 102 rfl)
  have m_PlainHeap_look_at_slot : ∃ f fd, Md K (ga K "PlainHeap") "look_at_slot" "PlainHeap.look_at_slot" s_PlainHeap_look_at_slot ["self", "address", "slot"] f fd := by
    obtain ⟨fd, F⟩ := fun_of ce 39 (st := s_PlainHeap_look_at_slot) rfl h_m_PlainHeap_look_at_slot.kp
    exact ⟨_, fd, F, h_m_PlainHeap_look_at_slot, F.binds (ps := ["self", "address", "slot"]) fun _ _ _ _ _ _ us hl => match us, hl with | [_, _, _], _ => rfl⟩
  have h_m_PlainHeap_make : Meth K (ga K "PlainHeap") "make" (ma K (ga K "PlainHeap") "make") := He.meth_ok (ce.fact 103 rfl)
  have m_PlainHeap_make : ∃ f fd, Md K (ga K "PlainHeap") "make" "PlainHeap.make" s_PlainHeap_make ["self", "kind", "slots", "roots"] f fd := by
    obtain ⟨fd, F⟩ := fun_of ce 40 (st := s_PlainHeap_make) rfl h_m_PlainHeap_make.kp
    exact ⟨_, fd, F, h_m_PlainHeap_make, F.binds (ps := ["self", "kind", "slots", "roots"]) fun _ _ _ _ _ _ us hl => match us, hl with | [_, _, _, _], _ => rfl⟩
  have h_m_PlainHeap_kind : Meth K (ga K "PlainHeap") "kind" (ma K (ga K "PlainHeap") "kind") := He.meth_ok (ce.fact 104 rfl)
  have m_PlainHeap_kind : ∃ f fd, Md K (ga K "PlainHeap") "kind" "PlainHeap.kind" s_PlainHeap_kind ["self", "address"] f fd := by
    obtain ⟨fd, F⟩ := fun_of ce 41 (st := s_PlainHeap_kind) rfl h_m_PlainHeap_kind.kp
    exact ⟨_, fd, F, h_m_PlainHeap_kind, F.binds (ps := ["self", "address"]) fun _ _ _ _ _ _ us hl => match us, hl with | [_, _], _ => rfl⟩
  have h_m_PlainHeap_slots : Meth K (ga K "PlainHeap") "slots" (ma K (ga K "PlainHeap") "slots") := He.meth_ok (ce.fact 105 rfl)
  have m_PlainHeap_slots : ∃ f fd, Md K (ga K "PlainHeap") "slots" "PlainHeap.slots" s_PlainHeap_slots ["self", "address"] f fd := by
    obtain ⟨fd, F⟩ := fun_of ce 42 (st := s_PlainHeap_slots) rfl h_m_PlainHeap_slots.kp
    exact ⟨_, fd, F, h_m_PlainHeap_slots, F.binds (ps := ["self", "address"]) fun _ _ _ _ _ _ us hl => match us, hl with | [_, _], _ => rfl⟩
  have h_m_PlainHeap_get : Meth K (ga K "PlainHeap") "get" (ma K (ga K "PlainHeap") "get") := He.meth_ok (ce.fact 106 rfl)
  have m_PlainHeap_get : ∃ f fd, Md K (ga K "PlainHeap") "get" "PlainHeap.get" s_PlainHeap_get ["self", "address", "slot"] f fd := by
    obtain ⟨fd, F⟩ := fun_of ce 43 (st := s_PlainHeap_get) rfl h_m_PlainHeap_get.kp
    exact ⟨_, fd, F, h_m_PlainHeap_get, F.binds (ps := ["self", "address", "slot"]) fun _ _ _ _ _ _ us hl => match us, hl with | [_, _, _], _ => rfl⟩
  have h_m_PlainHeap_put : Meth K (ga K "PlainHeap") "put" (ma K (ga K "PlainHeap") "put") := He.meth_ok (ce.fact 107 rfl)
  have m_PlainHeap_put : ∃ f fd, Md K (ga K "PlainHeap") "put" "PlainHeap.put" s_PlainHeap_put ["self", "address", "slot", "value"] f fd := by
    obtain ⟨fd, F⟩ := fun_of ce 44 (st := s_PlainHeap_put) rfl h_m_PlainHeap_put.kp
    exact ⟨_, fd, F, h_m_PlainHeap_put, F.binds (ps := ["self", "address", "slot", "value"]) fun _ _ _ _ _ _ us hl => match us, hl with | [_, _, _, _], _ => rfl⟩
  have h_m_PlainHeap_graph : Meth K (ga K "PlainHeap") "graph" (ma K (ga K "PlainHeap") "graph") := He.meth_ok (ce.fact 108 rfl)
  have m_PlainHeap_graph : ∃ f fd, Md K (ga K "PlainHeap") "graph" "PlainHeap.graph" s_PlainHeap_graph ["self", "roots"] f fd := by
    obtain ⟨fd, F⟩ := fun_of ce 45 (st := s_PlainHeap_graph) rfl h_m_PlainHeap_graph.kp
    exact ⟨_, fd, F, h_m_PlainHeap_graph, F.binds (ps := ["self", "roots"]) fun _ _ _ _ _ _ us hl => match us, hl with | [_, _], _ => rfl⟩
  have h_m_PlainHeap_traced : Meth K (ga K "PlainHeap") "traced" (ma K (ga K "PlainHeap") "traced") := He.meth_ok (ce.fact 109 rfl)
  have m_PlainHeap_traced : ∃ f fd, Md K (ga K "PlainHeap") "traced" "PlainHeap.traced" s_PlainHeap_traced ["self", "roots"] f fd := by
    obtain ⟨fd, F⟩ := fun_of ce 46 (st := s_PlainHeap_traced) rfl h_m_PlainHeap_traced.kp
    exact ⟨_, fd, F, h_m_PlainHeap_traced, F.binds (ps := ["self", "roots"]) fun _ _ _ _ _ _ us hl => match us, hl with | [_, _], _ => rfl⟩
  have h_m_PlainHeap_unreached : Meth K (ga K "PlainHeap") "unreached" (ma K (ga K "PlainHeap") "unreached") := He.meth_ok (ce.fact 110 rfl)
  have m_PlainHeap_unreached : ∃ f fd, Md K (ga K "PlainHeap") "unreached" "PlainHeap.unreached" s_PlainHeap_unreached ["self", "roots"] f fd := by
    obtain ⟨fd, F⟩ := fun_of ce 47 (st := s_PlainHeap_unreached) rfl h_m_PlainHeap_unreached.kp
    exact ⟨_, fd, F, h_m_PlainHeap_unreached, F.binds (ps := ["self", "roots"]) fun _ _ _ _ _ _ us hl => match us, hl with | [_, _], _ => rfl⟩
  have h_m_PlainHeap_minor : Meth K (ga K "PlainHeap") "minor" (ma K (ga K "PlainHeap") "minor") := He.meth_ok (ce.fact 111 rfl)
  have m_PlainHeap_minor : ∃ f fd, Md K (ga K "PlainHeap") "minor" "PlainHeap.minor" s_PlainHeap_minor ["self", "roots"] f fd := by
    obtain ⟨fd, F⟩ := fun_of ce 48 (st := s_PlainHeap_minor) rfl h_m_PlainHeap_minor.kp
    exact ⟨_, fd, F, h_m_PlainHeap_minor, F.binds (ps := ["self", "roots"]) fun _ _ _ _ _ _ us hl => match us, hl with | [_, _], _ => rfl⟩
  have h_m_PlainHeap_settle : Meth K (ga K "PlainHeap") "settle" (ma K (ga K "PlainHeap") "settle") := He.meth_ok (ce.fact 112 rfl)
  have m_PlainHeap_settle : ∃ f fd, Md K (ga K "PlainHeap") "settle" "PlainHeap.settle" s_PlainHeap_settle ["self", "roots"] f fd := by
    obtain ⟨fd, F⟩ := fun_of ce 49 (st := s_PlainHeap_settle) rfl h_m_PlainHeap_settle.kp
    exact ⟨_, fd, F, h_m_PlainHeap_settle, F.binds (ps := ["self", "roots"]) fun _ _ _ _ _ _ us hl => match us, hl with | [_, _], _ => rfl⟩
  have h_m_PlainHeap_begin : Meth K (ga K "PlainHeap") "begin" (ma K (ga K "PlainHeap") "begin") := He.meth_ok (ce.fact 113 rfl)
  have m_PlainHeap_begin : ∃ f fd, Md K (ga K "PlainHeap") "begin" "PlainHeap.begin" s_PlainHeap_begin ["self", "roots"] f fd := by
    obtain ⟨fd, F⟩ := fun_of ce 50 (st := s_PlainHeap_begin) rfl h_m_PlainHeap_begin.kp
    exact ⟨_, fd, F, h_m_PlainHeap_begin, F.binds (ps := ["self", "roots"]) fun _ _ _ _ _ _ us hl => match us, hl with | [_, _], _ => rfl⟩
  have h_m_PlainHeap_slice : Meth K (ga K "PlainHeap") "slice" (ma K (ga K "PlainHeap") "slice") := He.meth_ok (ce.fact 114 rfl)
  have m_PlainHeap_slice : ∃ f fd, Md K (ga K "PlainHeap") "slice" "PlainHeap.slice" s_PlainHeap_slice ["self", "count", "roots"] f fd := by
    obtain ⟨fd, F⟩ := fun_of ce 51 (st := s_PlainHeap_slice) rfl h_m_PlainHeap_slice.kp
    exact ⟨_, fd, F, h_m_PlainHeap_slice, F.binds (ps := ["self", "count", "roots"]) fun _ _ _ _ _ _ us hl => match us, hl with | [_, _, _], _ => rfl⟩
  have h_m_PlainHeap_whole : Meth K (ga K "PlainHeap") "whole" (ma K (ga K "PlainHeap") "whole") := He.meth_ok (ce.fact 115 rfl)
  have m_PlainHeap_whole : ∃ f fd, Md K (ga K "PlainHeap") "whole" "PlainHeap.whole" s_PlainHeap_whole ["self", "roots"] f fd := by
    obtain ⟨fd, F⟩ := fun_of ce 52 (st := s_PlainHeap_whole) rfl h_m_PlainHeap_whole.kp
    exact ⟨_, fd, F, h_m_PlainHeap_whole, F.binds (ps := ["self", "roots"]) fun _ _ _ _ _ _ us hl => match us, hl with | [_, _], _ => rfl⟩
  exact { b_all := z_all, b_bool := z_bool, b_enumerate := z_enumerate, b_int := z_int, b_isinstance := z_isinstance, b_len := z_len, b_list := z_list, b_max := z_max, b_min := z_min, b_range := z_range, b_str := z_str, b_sum := z_sum, b_tuple := z_tuple, c_LEAST_INT := i_LEAST_INT, c_GREATEST_INT := i_GREATEST_INT, c_MOST_ENTRIES := i_MOST_ENTRIES, c_LINK_ROW := i_LINK_ROW, c_SIGNS := i_SIGNS, c_MOST_SHAPES := i_MOST_SHAPES, c_MOST_SHAPE_FIELDS := i_MOST_SHAPE_FIELDS, c_MOST_ROOTS := i_MOST_ROOTS, c_MOST_SLICE := i_MOST_SLICE, g_Tracing := g_Tracing, g_PlainHeap := g_PlainHeap, f_is_integer := d_is_integer, f_is_between := d_is_between, f_is_tuple_to := d_is_tuple_to, f_look_at_shapes := d_look_at_shapes, f_look_at_kind := d_look_at_kind, f_look_at_size := d_look_at_size, f_is_size := d_is_size, f_look_at_roots := d_look_at_roots, f_are_roots := d_are_roots, f_shape_links := d_shape_links, f_is_link := d_is_link, f__law_feed := d__law_feed, f__law_draw := d__law_draw, f__law_one := d__law_one, f__law_shapes := d__law_shapes, f__law_kinds_of := d__law_kinds_of, f__law_equal := d__law_equal, f__law_flags := d__law_flags, f__law_held := d__law_held, f__law_reach := d__law_reach, f__law_graph := d__law_graph, f__law_worth := d__law_worth, f__law_new_kind := d__law_new_kind, f__law_roots := d__law_roots, f__law_collection := d__law_collection, f__law_plain := d__law_plain, f_law := d_law, cl_Tracing := c_Tracing, n_Tracing_shapes_links := n_Tracing_shapes_links, n_Tracing_numbers_by_name := n_Tracing_numbers_by_name, n_Tracing_found := n_Tracing_found, n_Tracing_things := n_Tracing_things, n_Tracing_numbers := n_Tracing_numbers, cl_PlainHeap := c_PlainHeap, n_PlainHeap_shapes := n_PlainHeap_shapes, n_PlainHeap_kinds := n_PlainHeap_kinds, n_PlainHeap_bodies := n_PlainHeap_bodies, i_Tracing := m_Tracing_init, m_Tracing_number := m_Tracing_number, m_Tracing_waits := m_Tracing_waits, m_Tracing_first_untold := m_Tracing_first_untold, m_Tracing_tell := m_Tracing_tell, m_Tracing_links := m_Tracing_links, m_Tracing_many := m_Tracing_many, m_Tracing_graph := m_Tracing_graph, i_PlainHeap := m_PlainHeap_init, m_PlainHeap_is_object := m_PlainHeap_is_object, m_PlainHeap_look_at := m_PlainHeap_look_at, m_PlainHeap_look_at_address := m_PlainHeap_look_at_address, m_PlainHeap_look_at_slot := m_PlainHeap_look_at_slot, m_PlainHeap_make := m_PlainHeap_make, m_PlainHeap_kind := m_PlainHeap_kind, m_PlainHeap_slots := m_PlainHeap_slots, m_PlainHeap_get := m_PlainHeap_get, m_PlainHeap_put := m_PlainHeap_put, m_PlainHeap_graph := m_PlainHeap_graph, m_PlainHeap_traced := m_PlainHeap_traced, m_PlainHeap_unreached := m_PlainHeap_unreached, m_PlainHeap_minor := m_PlainHeap_minor, m_PlainHeap_settle := m_PlainHeap_settle, m_PlainHeap_begin := m_PlainHeap_begin, m_PlainHeap_slice := m_PlainHeap_slice, m_PlainHeap_whole := m_PlainHeap_whole }
end HX

namespace HX
open PySem PySem.Spec PyProof.Rows L2 T KA KK PH
theorem law_binds {K : PySem.W.Frag} {f : Addr} {fd : FuncData} (F : L2.Fun K "law" "law" s_law f fd) : ∀ (s : Shared) (v : Value), BindsTo s fd ⟨[v], []⟩ [("_law_script", v)] := by
  obtain ⟨oc, od, kV, doc, pm, an, cdv, ct, osl, rfl, lk, hcd⟩ := F.ex
  exact fun s v => .of_eq rfl
theorem walked {w : World} {mg : Str → Option Value} {fa : Addr} {h : Heap} (Y : hook.says w h) (G : h.Ns mainGlobals mg) (hmg : mg ("law" : PySem.Str) = some (.ref fa)) :
    ∃ (K : PySem.W.Frag) (fd : FuncData) (sp : Sp), K.In h ∧ (∀ (s : Shared) (u : Value), BindsTo s fd ⟨[u], []⟩ [("_law_script", u)]) ∧
      (∀ (H : Hp) (a : Addr) (ns : List Int), ns.length ≤ 63 → Only H → SqL K H a (ns.map V.int) → sp [.ref a] H (fun v _ => v = .bl true) fun _ _ _ => False) ∧
      ∀ base : Heap, K.In base → base.Ns mainGlobals mg → FnOk R.prog w K mg base CX0 8 fa fd ["_law_script"] sp := by
  obtain ⟨K, KX, c⟩ := Y
  have L := lw KX G c
  obtain ⟨f, fd, gl⟩ := L.f_law
  have e := hmg.symm.trans gl.g
  cases e
  exact ⟨K, fd, PH.spLaw K, KX, law_binds gl.F, fun H a ns hl _ hS => ⟨a, ns, rfl, hS, hl, fun _ => rfl⟩, fun base _ _ => PH.ok_law gl L⟩
theorem room : Room 8 callerA := ⟨rfl, by decide, by decide⟩
end HX

open PySem PySem.W PyProof.Rows
set_option maxRecDepth 100000 in
set_option maxHeartbeats 0 in
theorem PySem.Challenge.cw_movedrun_k59_plain_heaps_holds : PySem.Challenge.rw_movedrun_k59_plain_heaps.Holds := by
  w_on; o_law
  refine HandSHeadRun.head_any (r := OpenLaw.row PySem.Challenge.rw_movedrun_k59_plain_heaps) (q := HX.qv) (H := HX.hook) (ob := HX.ob) (M := 15000) (loose := HX.names) (d := HandSHeadRun.topDef (OpenLaw.row PySem.Challenge.rw_movedrun_k59_plain_heaps).prog 52) (kwd := []) HX.ob_eq
    (by kernel_rfl) (fun s => by kernel_rfl) HX.run (by kernel_rfl) (by kernel_rfl) (by kernel_rfl) (by rfl) (by first | assumption | decide +kernel) (by decide +kernel) ⟨rfl, rfl, rfl, rfl, rfl, by decide +kernel⟩ ?hw ?hc
  case hw => w_witness2
  case hc =>
    refine L2.walk_ofE (l := PySem.Challenge.rw_movedrun_k59_plain_heaps) (n := 63) (k := 8) (x := "_law_script") (CX := L2.CX0) rfl (by decide) (by kernel_rfl) HX.room ?F (fun _ _ _ _ z => z)
    intro w mg fa h Y G hmg0
    have hmg : mg ("law" : PySem.Str) = some (.ref fa) := by
      have e : (HandSHeadRun.topDef (OpenLaw.row PySem.Challenge.rw_movedrun_k59_plain_heaps).prog 52).name = ("law" : PySem.Str) := by kernel_rfl
      rw [← e]
      exact hmg0
    exact HX.walked Y G hmg
