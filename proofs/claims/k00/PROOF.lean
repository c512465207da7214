import PyProof.Rows.All
import Wide.All
import OpenK.AllK
import Wide.FinOn
import HandS.ForExc
import HandS.Wide
import HandS.IsInst
import HandS.ExcInit
import PyProof.ReprNest
import PyProof.FString
import PyProof.FString4
import HandS.FStrTup
import KE.KExcSuper
import KE.KExcIs
import HandS.ExcValue
import HandS.FStr
import HandS.ForMost
import KE.RegKSuper
import PySem.Challenge.RW_movedrun_k00_errors
set_option Elab.async false
set_option linter.all false
set_option maxRecDepth 100000
set_option maxHeartbeats 16000000
namespace KA
open PySem L2
def top (i : Nat) : Stmt := PySem.Challenge.pw_movedrun_k00_errors.main.body.getD i (.Pass ⟨0, 0, 0, 0⟩)
abbrev sFeed : Stmt := top 29
abbrev sDraw : Stmt := top 30
abbrev sOne : Stmt := top 31
theorem scFeed : FnScope ["_law_script", "_law_k", "_law_cell"] ["_law_script", "_law_k"] (defScope sFeed) := ⟨rfl, rfl, rfl, by decide +kernel, rfl, by decide +kernel, by decide +kernel⟩
theorem scDraw : FnScope ["_law_feed_here", "_law_many", "_law_rest", "_law_got", "_law_stir"] ["_law_feed_here", "_law_many"] (defScope sDraw) := ⟨rfl, rfl, rfl, by decide +kernel, rfl, by decide +kernel, by decide +kernel⟩
theorem scOne : FnScope ["_law_feed_here", "_law_things"] ["_law_feed_here", "_law_things"] (defScope sOne) := ⟨rfl, rfl, rfl, by decide +kernel, rfl, by decide +kernel, by decide +kernel⟩
end KA
namespace KA
open PySem L2
/-- the feed at p, drawn from at most n times -/
def FeedAt (H : Hp) (p : Addr) (n : Nat) : Prop := ∃ a b c : Int, H p = some (.lst [.int a, .int b, .int c]) ∧ 0 ≤ a ∧ 0 ≤ b ∧ b < 10 ^ 40 ∧ 0 ≤ c ∧ c ≤ n
/-- all but p stands as it stood -/
def But (p : Addr) (H H' : Hp) : Prop := ∀ b, b ≠ p → H' b = H b
theorem But.refl (p : Addr) (H : Hp) : But p H H := fun _ _ => rfl
theorem But.trans {p : Addr} {H H1 H2 : Hp} (a : But p H H1) (b : But p H1 H2) : But p H H2 := fun c h => (b c h).trans (a c h)
theorem But.upd {p : Addr} {H : Hp} {o : HO} : But p H (upd H p o) := fun _ h => upd_ne h
theorem But.none {p q : Addr} {H H' : Hp} (a : But p H H') {o : HO} (hp : H p = some o) (h : H q = none) : H' q = none := by
  rw [a q (fun e => by rw [e, hp] at h; cases h)]
  exact h
theorem But.seq {K : PySem.W.Frag} {p q : Addr} {H H' : Hp} {xs : List V} (e : But p H H') (hq : q ≠ p) (h : SqL K H q xs) : SqL K H' q xs := by
  rcases h with (h | ⟨o, h⟩) | h
  · exact .inl (.inl ((e q hq).trans h))
  · exact .inl (.inr ⟨o, (e q hq).trans h⟩)
  · exact .inr h
theorem cut_ints (ns : List Int) (lo hi : Option Int) : ∃ ms : List Int, cutV (ns.map V.int) lo hi = ms.map V.int :=
  ⟨_, by unfold cutV; rw [← List.map_drop, ← List.map_take]⟩
def spFeed (K : PySem.W.Frag) : Sp := fun vs H Q _ => ∃ (a : Addr) (ns : List Int) (k : Nat), vs = [.ref a, .int k] ∧ SqL K H a (ns.map V.int) ∧ k ≤ 1000 ∧
  ∀ (p : Addr) (H' : Hp), H p = none → Same H H' → FeedAt H' p 0 → Q (.ref p) H'
def spDraw : Sp := fun vs H Q _ => ∃ (p : Addr) (m : Int) (n : Nat), vs = [.ref p, .int m] ∧ FeedAt H p n ∧ n ≤ 2 ^ 60 ∧ 0 < m ∧ m < 2 ^ 30 ∧
  ∀ (r : Int) (H' : Hp), 0 ≤ r → r < m → But p H H' → FeedAt H' p (n + 1) → Q (.int r) H'
/-- one of the things -/
def spOne (K : PySem.W.Frag) : Sp := fun vs H Q _ => ∃ (p : Addr) (n : Nat), FeedAt H p n ∧ n ≤ 2 ^ 60 ∧
  ((∃ (t : Addr) (xs : List V), vs = [.ref p, .ref t] ∧ t ≠ p ∧ SqL K H t xs ∧ 0 < xs.length ∧ xs.length < 2 ^ 30 ∧
    ∀ (x : V) (H' : Hp), x ∈ xs → But p H H' → FeedAt H' p (n + 1) → Q x H') ∨
   (∃ z : Str, vs = [.ref p, .str z] ∧ 0 < z.length ∧ z.length < 1000 ∧ ∀ (c : Nat) (H' : Hp), c ∈ z.cps.toList → But p H H' → FeedAt H' p (n + 1) → Q (.str ⟨#[c]⟩) H'))
section
variable {P : Program} {w : World} {K : PySem.W.Frag} {mg : Str → Option Value} {base : Heap}
theorem ok_feed {f : Addr} {fd : FuncData} (F : Fun K "_law_feed" "_law_feed" sFeed f fd) (mSum : mg "sum" = none) (mLen : mg "len" = none) (mMax : mg "max" = none) (mInt : mg "int" = none) : FnOk P w K mg base CX0 1 f fd ["_law_script", "_law_k"] (spFeed K) := by
  refine F.ok scFeed (fun vs H Q E h => ?_) (fun cdv A outer s H vs Q E hr h => ?_)
  · obtain ⟨a, ns, k, rfl, _⟩ := h
    rfl
  · obtain ⟨a, ns, k, rfl, hS, hk, q⟩ := h
    refine ⟨_, pss_cons (ps_set (i := 2) scFeed.nd rfl (Or.inl rfl) (pe_op op_add (pe_op op_mul pe_int (pv 1)) (pe_callB (cr_sum rfl) (by rfl) mSum (by decide +kernel) (pa_cons (pe_slice sl_list (pv 0) po_none (po_some pe_int)) pa_nil))))
      (pss_cons (ps_if (pt_cmpR op_lt (pv 1) (pe_callB call_len_seq (by rfl) mLen PySem.boot_len (pa_cons (pv 0) pa_nil)) (nomark _))
        (pss_one (ps_set (i := 2) scFeed.nd rfl (Or.inl rfl) (pe_ix ix_list (pv 0) (pv 1) (fun _ _ => rfl)))) pss_nil)
      (pss_one (ps_ret (pe_lst (pa_cons (pe_callB (call_max2 rfl) (by rfl) mMax (by decide +kernel) (pa_cons pe_int (pa_cons (pe_op op_sub (pv 2) (pe_op op_pow pe_int pe_int)) pa_nil)))
        (pa_cons (pe_op op_mod (pe_callTy call_int1 (by rfl) mInt (by decide +kernel) (pa_cons (pe_op op_add (pe_op op_mul (pv 2) pe_int) (pe_op op_mul pe_int (pv 1))) pa_nil)) (pe_op op_add (pe_op op_pow pe_int pe_int) pe_int))
        (pa_cons pe_int pa_nil))))))), ?_⟩
    obtain ⟨ms, em⟩ := cut_ints ns none (some 1)
    refine ⟨_, rfl, _, _, rfl, rfl, .inl ⟨by decide, by decide⟩, .ref a, rfl, 1, rfl, a, _, rfl, hS, fun c nc => ?_⟩
    rw [em]
    refine ⟨c, ms, rfl, SqL.of upd_same, _, _, rfl, rfl, ?_⟩
    have s1 : Same H (upd H c (.lst (ms.map V.int))) := fun b o e => by rw [upd_ne (ne_of_none e nc)]; exact e
    have hS1 := s1.seq hS
    refine ⟨_, rfl, .ref a, rfl, a, _, rfl, .inl hS1, _, _, rfl, rfl, _, rfl, ?_⟩
    have fin : ∀ z : Int, tRet (tLst (tCons (tCB (fun xs H Q => ∃ i j, xs = [.int i, .int j] ∧ Q (.int (if j > i then j else i)) H) (tCons (tC (.int 0)) (tCons (tOp (rI0 fun i j => .int (i - j)) (tVar 2) (tOp (rI CPow fun i j => .int (i ^ j.toNat)) (tC (.int 10)) (tC (.int 18)))) tNil)))
        (tCons (tOp (rI (fun _ j => 0 < j) fun i j => .int (i % j)) (tCB (fun xs H Q => (∃ i, xs = [.int i] ∧ Q (.int i) H) ∨ ∃ k, xs = [.bl k] ∧ Q (.int (if k then 1 else 0)) H) (tCons (tOp (rI0 fun i j => .int (i + j)) (tOp (rI CMul fun i j => .int (i * j)) (tVar 2) (tC (.int 19))) (tOp (rI CMul fun i j => .int (i * j)) (tC (.int 7)) (tVar 1))) tNil))
          (tOp (rI0 fun i j => .int (i + j)) (tOp (rI CPow fun i j => .int (i ^ j.toNat)) (tC (.int 10)) (tC (.int 39))) (tC (.int 23))))
        (tCons (tC (.int 0)) tNil)))) { nx := fun _ H' => Q .non H', rt := Q } [some (.ref a), some (.int k), some (.int z)] (upd H c (.lst (ms.map V.int))) := by
      intro z
      refine ⟨_, rfl, _, _, rfl, rfl, ⟨by decide, by decide, by decide⟩, _, _, rfl, rfl, _, _, rfl, ?_⟩
      refine ⟨_, rfl, _, _, rfl, rfl, .inr ⟨by decide, by decide⟩, _, rfl, _, _, rfl, rfl, .inl ⟨by decide, by decide⟩, _, _, rfl, rfl, .inl ⟨_, rfl, ?_⟩⟩
      refine ⟨_, _, rfl, rfl, ⟨by decide, by decide, by decide⟩, _, _, rfl, rfl, _, _, rfl, rfl, (by show (0 : Int) < 10 ^ Int.toNat 39 + 23; decide +kernel), (by show 3 ≤ sizeLine; decide), fun p np => ?_⟩
      have pc : p ≠ c := fun e => by rw [e, upd_same] at np; cases np
      refine q p _ (by rw [upd_ne pc] at np; exact np) (fun b o e => ?_) ⟨_, _, 0, upd_same, ?_, ?_, ?_, Int.le_refl _, Int.le_refl _⟩
      · rw [upd_ne (ne_of_none (s1 b o e) np)]
        exact s1 b o e
      · show (0 : Int) ≤ if _ > (0 : Int) then _ else 0
        split <;> omega
      · exact Int.emod_nonneg _ (by decide +kernel)
      · refine Int.lt_trans (Int.emod_lt_of_pos _ (by decide +kernel)) (by decide +kernel)
    refine ite2 (fun e => ?_) (fun e => ?_)
    · have hlt : k < ns.length := by
        have := of_decide_eq_true e
        rw [List.length_map] at this
        omega
      refine ⟨.ref a, rfl, .int k, rfl, a, _, _, V.int ns[k], rfl, rfl, hS1, atI_nat ?_, fin _⟩
      rw [List.getElem?_map, List.getElem?_eq_getElem hlt]
      rfl
    · exact fin _
theorem ok_draw {f : Addr} {fd : FuncData} (F : Fun K "_law_draw" "_law_draw" sDraw f fd) (mInt : mg "int" = none) : FnOk P w K mg base CX0 1 f fd ["_law_feed_here", "_law_many"] spDraw := by
  refine F.ok scDraw (fun vs H Q E h => ?_) (fun cdv A outer s H vs Q E hr h => ?_)
  · obtain ⟨p, m, n, rfl, _⟩ := h
    rfl
  · obtain ⟨p, m, n, rfl, ⟨a, b, c, hp, ha, hb, hb2, hc, hc2⟩, hn, hm, hm2, q⟩ := h
    refine ⟨_, pss_cons (ps_if (pt_cmpR op_gt (pe_ix ix_list (pv 0) pe_int (fun _ _ => rfl)) pe_int (nomark _))
        (pss_cons (ps_set (i := 2) scDraw.nd rfl (Or.inl rfl) (pe_op op_fdiv (pe_ix ix_list (pv 0) pe_int (fun _ _ => rfl)) (pv 1)))
        (pss_cons (ps_set (i := 3) scDraw.nd rfl (Or.inl rfl) (pe_op op_sub (pe_ix ix_list (pv 0) pe_int (fun _ _ => rfl)) (pe_op op_mul (pv 2) (pv 1))))
        (pss_cons (ps_asg (pv 2) (pg_sub (pv 0) pe_int set_list))
        (pss_one (ps_ret (pv 3)))))) pss_nil)
      (pss_cons (ps_asg (pe_op op_add (pe_ix ix_list (pv 0) pe_int (fun _ _ => rfl)) pe_int) (pg_sub (pv 0) pe_int set_list))
      (pss_cons (ps_set (i := 4) scDraw.nd rfl (Or.inl rfl) (pe_op op_add (pe_ix ix_list (pv 0) pe_int (fun _ _ => rfl)) (pe_op op_mul pe_int (pe_ix ix_list (pv 0) pe_int (fun _ _ => rfl)))))
      (pss_cons (ps_set (i := 4) scDraw.nd rfl (Or.inl rfl) (pe_op op_mod (pe_callTy call_int1 (by rfl) mInt (by decide +kernel) (pa_cons (pe_op op_add (pe_op op_mulW (pe_op op_mulW (pv 4) (pv 4)) (pv 4)) (pe_op op_mul pe_int (pe_ix ix_list (pv 0) pe_int (fun _ _ => rfl)))) pa_nil)) (pe_op op_add (pe_op op_pow pe_int pe_int) pe_int)))
      (pss_cons (ps_set (i := 4) scDraw.nd rfl (Or.inl rfl) (pe_op op_mod (pe_callTy call_int1 (by rfl) mInt (by decide +kernel) (pa_cons (pe_op op_add (pe_op op_mulW (pv 4) (pv 4)) pe_int) pa_nil)) (pe_op op_add (pe_op op_pow pe_int pe_int) pe_int)))
      (pss_one (ps_ret (pe_op op_mod (pe_callTy call_int1 (by rfl) mInt (by decide +kernel) (pa_cons (pe_op op_fdiv (pv 4) (pe_op op_pow pe_int pe_int)) pa_nil)) (pv 1)))))))), ?_⟩
    refine ⟨_, rfl, p, _, 0, .int a, rfl, rfl, SqL.of hp, rfl, _, _, rfl, rfl, _, rfl, ?_⟩
    refine ite2 (fun e => ?_) (fun e => ?_)
    · refine ⟨_, rfl, p, _, 0, .int a, rfl, rfl, SqL.of hp, rfl, _, rfl, _, _, rfl, rfl, ⟨hm, by omega⟩, ?_⟩
      refine ⟨_, rfl, p, _, 0, .int a, rfl, rfl, SqL.of hp, rfl, _, rfl, _, rfl, _, _, rfl, rfl, .inr ⟨by omega, by omega⟩, _, _, rfl, rfl, ?_⟩
      refine ⟨_, rfl, _, rfl, p, _, 0, 0, rfl, rfl, hp, rfl, ?_⟩
      have h1 := Int.emod_add_mul_ediv a m
      have h2 := Int.emod_nonneg a (b := m) (by omega)
      have h3 := Int.emod_lt_of_pos a hm
      have h4 : a / m * m = m * (a / m) := Int.mul_comm _ _
      refine ⟨_, rfl, q _ _ (by omega) (by omega) But.upd ⟨a / m, b, c, upd_same, Int.ediv_nonneg ha (by omega), hb, hb2, hc, by omega⟩⟩
    · refine ⟨_, rfl, p, _, 2, .int c, rfl, rfl, SqL.of hp, rfl, _, _, rfl, rfl, _, rfl, p, _, 2, 2, rfl, rfl, hp, rfl, ?_⟩
      refine ⟨_, rfl, p, _, 1, .int b, rfl, rfl, SqL.of upd_same, rfl, _, rfl, p, _, 2, .int (c + 1), rfl, rfl, SqL.of upd_same, rfl, _, _, rfl, rfl, .inl ⟨by decide, by decide⟩, _, _, rfl, rfl, ?_⟩
      have z1 : (b + 6700417 * (c + 1)).natAbs < 2 ^ 140 := by
        have : (10 : Int) ^ 40 < 2 ^ 139 := by decide +kernel
        have : (2 : Int) ^ 139 + 2 ^ 90 < 2 ^ 140 := by decide +kernel
        have : (2 : Int) ^ 60 * 6700417 + 6700417 < 2 ^ 90 := by decide +kernel
        have : ((2 ^ 140 : Nat) : Int) = 2 ^ 140 := by decide +kernel
        omega
      refine ⟨_, rfl, _, rfl, _, _, rfl, rfl, wide_mul (a := 140) (b := 140) z1 z1 (by decide) (by decide) (by decide), _, rfl, _, _, rfl, rfl,
        wide_mul (a := 280) (b := 140) (by rw [Int.natAbs_mul]; exact Nat.lt_of_lt_of_le (Nat.mul_lt_mul'' z1 z1) (by decide +kernel)) z1 (by decide) (by decide) (by decide), ?_⟩
      refine ⟨_, rfl, p, _, 2, .int (c + 1), rfl, rfl, SqL.of upd_same, rfl, _, _, rfl, rfl, .inl ⟨by decide, by decide⟩, _, _, rfl, rfl, .inl ⟨_, rfl, ?_⟩⟩
      refine ⟨_, _, rfl, rfl, ⟨by decide, by decide, by decide⟩, _, _, rfl, rfl, _, _, rfl, rfl, (by show (0 : Int) < 10 ^ Int.toNat 43 + 57; decide +kernel), ?_⟩
      have z2 : ∀ x : Int, (x % (10 ^ Int.toNat 43 + 57)).natAbs < 2 ^ 150 := fun x => by
        have e1 := Int.emod_nonneg x (b := 10 ^ Int.toNat 43 + 57) (by decide +kernel)
        have e2 := Int.emod_lt_of_pos x (b := 10 ^ Int.toNat 43 + 57) (by decide +kernel)
        have e3 : (10 : Int) ^ Int.toNat 43 + 57 < 2 ^ 150 := by decide +kernel
        have e4 : ((2 ^ 150 : Nat) : Int) = 2 ^ 150 := by decide +kernel
        omega
      refine ⟨_, rfl, _, rfl, _, _, rfl, rfl, wide_mul (a := 150) (b := 150) (z2 _) (z2 _) (by decide) (by decide) (by decide), _, _, rfl, rfl, .inl ⟨_, rfl, ?_⟩⟩
      refine ⟨_, _, rfl, rfl, ⟨by decide, by decide, by decide⟩, _, _, rfl, rfl, _, _, rfl, rfl, (by show (0 : Int) < 10 ^ Int.toNat 38 + 133; decide +kernel), ?_⟩
      refine ⟨_, rfl, _, _, rfl, rfl, ⟨by decide, by decide, by decide⟩, _, _, rfl, rfl, ⟨by decide +kernel, by decide +kernel⟩, .inl ⟨_, rfl, ?_⟩⟩
      refine ⟨_, rfl, _, _, rfl, rfl, hm, q _ _ (Int.emod_nonneg _ (by omega)) (Int.emod_lt_of_pos _ hm) But.upd ⟨a, b, c + 1, upd_same, ha, hb, hb2, by omega, by omega⟩⟩
theorem ok_one {f fD : Addr} {fd fdD : FuncData} (F : Fun K "_law_one" "_law_one" sOne f fd) (FD : Fun K "_law_draw" "_law_draw" sDraw fD fdD) (bD : Binds K fdD ["_law_feed_here", "_law_many"] []) (gD : mg "_law_draw" = some (.ref fD)) (mInt : mg "int" = none) (mLen : mg "len" = none) :
    FnOk P w K mg base CX0 2 f fd ["_law_feed_here", "_law_things"] (spOne K) := by
  have GD : FnOk P w K mg base CX0 1 fD fdD ["_law_feed_here", "_law_many"] spDraw := ok_draw FD mInt
  refine F.ok scOne (fun vs H Q E h => ?_) (fun cdv A outer s H vs Q E hr h => ?_)
  · obtain ⟨p, n, _, _, ⟨t, xs, rfl, _⟩ | ⟨z, rfl, _⟩⟩ := h <;> rfl
  · obtain ⟨p, n, hF, hn, h⟩ := h
    refine ⟨_, pss_one (ps_ret (pe_ix ix_seq (pv 1) (pe_call GD hr (by rfl) gD FD.kp bD .nil pass0 (pa_cons (pv 0) (pa_cons (pe_callB call_len (by rfl) mLen PySem.boot_len (pa_cons (pv 1) pa_nil)) pa_nil))) (fun _ _ => rfl))), ?_⟩
    rcases h with ⟨t, xs, rfl, ht, hs, h0, h1, q⟩ | ⟨z, rfl, h0, h1, q⟩
    · refine ⟨.ref t, rfl, .ref p, rfl, .ref t, rfl, .ref t, xs.length, rfl, .inl ⟨_, hs, rfl⟩, ?_⟩
      refine ⟨p, xs.length, n, rfl, hF, hn, by omega, by omega, fun r H' r0 r1 bt hF' => ?_⟩
      obtain ⟨j, rfl⟩ : ∃ j : Nat, r = j := ⟨r.toNat, by omega⟩
      have hj : j < xs.length := by omega
      exact .inl ⟨t, xs, j, _, rfl, rfl, bt.seq ht hs, atI_nat (List.getElem?_eq_getElem hj), q xs[j] H' (List.getElem_mem _) bt hF'⟩
    · refine ⟨.str z, rfl, .ref p, rfl, .str z, rfl, .str z, z.length, rfl, ⟨Nat.le_of_lt (small1000 (by omega)), rfl⟩, ?_⟩
      refine ⟨p, z.length, n, rfl, hF, hn, by omega, by omega, fun r H' r0 r1 bt hF' => ?_⟩
      obtain ⟨j, rfl⟩ : ∃ j : Nat, r = j := ⟨r.toNat, by omega⟩
      have hj : j < z.cps.toList.length := by
        have : z.cps.toList.length = z.length := rfl
        omega
      exact .inr (.inr ⟨z, j, z.cps.toList[j], rfl, rfl, Nat.le_of_lt (small1000 (by omega)), atI_nat (List.getElem?_eq_getElem hj), q _ H' (List.getElem_mem _) bt hF'⟩)
end
end KA

/-! Data (none, bools, ints, texts, tuples of such) in an f-string: some bounded text. -/
namespace KB
open PySem PySem.Spec PyProof.Rows L2
/-- x is shown as some text of at most n signs; d: how deep -/
def Shows (prog : Program) (w : World) (h0 : Heap) (d n : Nat) (x : Value) : Prop :=
  ∀ b, b + n ≤ sizeLine → ∀ (A : Around) (E : Value → Shared → Prop) (s : Shared) (Q : Str → Shared → Prop), A.units + d < cLine → (∀ c o, h0.get? c = some o → s.heap.get? c = some o) →
    (∀ t tk, t.length ≤ n → Q t { s with toks := tk }) → wpAny (model prog w) A (pyReprUnder b x) Q E s
section
variable {prog : Program} {w : World} {h0 : Heap} {d n : Nat}
theorem Shows.of_is {x : Value} {t : Str} (h : ReprIs prog w x t) (hl : t.length ≤ n) : Shows prog w h0 d n x := fun b hb A E s Q _ _ hQ => h b (by omega) A E s Q fun tk => hQ t tk hl
theorem fold_some {A : Around} {E : Value → Shared → Prop} (hu : A.units + d < cLine) : ∀ (l : List Value) (acc : Array Str) (m : Nat) (s : Shared) (Q : (Array Str × Nat) → Shared → Prop), (∀ x ∈ l, Shows prog w h0 d n x) → m + l.length * (n + 2) ≤ sizeLine →
    (∀ c o, h0.get? c = some o → s.heap.get? c = some o) → (∀ ts : List Str, ts.length = l.length → piled ts ≤ l.length * (n + 2) → ∀ tk, Q ⟨acc ++ ts.toArray, m + piled ts⟩ { s with toks := tk }) →
    wpAny (model prog w) A (forIn l (⟨acc, m⟩ : (Array Str × Nat)) tupBody) Q E s := by
  intro l
  induction l with
  | nil =>
    intro acc m s Q _ _ _ h
    have h1 := h [] rfl (Nat.zero_le _) s.toks
    simp only [List.forIn_nil]
    exact wpAny_pure (by simpa [piled] using h1)
  | cons x l ih =>
    intro acc m s Q hT hn hk h
    rw [List.length_cons, Nat.succ_mul] at hn
    rw [List.forIn_cons]
    refine wpAny_bind (wpAny_bind (hT x List.mem_cons_self (m + 1) (by omega) A E s _ hu hk fun t tk ht => wpAny_pure ?_))
    refine ih (acc.push t) (m + (t.length + 2)) { s with toks := tk } Q (fun y hy => hT y (List.mem_cons_of_mem _ hy)) (by omega) hk fun ts hl hp tk2 => ?_
    have h1 := h (t :: ts) (by rw [List.length_cons, List.length_cons, hl]) (by rw [piled_cons, List.length_cons, Nat.succ_mul]; omega) tk2
    have e : m + piled (t :: ts) = m + (t.length + 2) + piled ts := by rw [piled_cons]; omega
    rw [e] at h1
    simpa using h1
theorem text_some (ts : List Str) {k : Nat} (hl : ts.length ≤ k) (hp : piled ts ≤ k * (n + 2)) : (tupleText ts).length ≤ k * (n + 2) + 5 := by
  have e := fmt_text ts
  omega
theorem rest_some {A : Around} {E : Value → Shared → Prop} {s : Shared} {a : Addr} {o : Obj} {items : Array Value} {k b : Nat} {Q : Fin → Shared → Prop} (hu : A.units + d < cLine) (ha : s.heap.get? a = some o) (hd : o.data = .seq items k)
    (hT : ∀ x ∈ items.toList, Shows prog w h0 d n x) (hk : ∀ c o, h0.get? c = some o → s.heap.get? c = some o) (hsz : b + (items.size * (n + 2) + 5) ≤ sizeLine)
    (h : ∀ t u tk, t.length ≤ items.size * (n + 2) + 5 → Q (.done (.ret (.str t u))) { s with toks := tk }) :
    wpAny (model prog w) A (tupleReprRest b (.ref a)) Q E s := by
  have hsl : items.toList.length = items.size := by simp
  unfold tupleReprRest Builtin.Tuple.tupleItemsOf
  refine wpAny_bind (wpAny_bind (wpAny_seqItems ha hd (wpAny_pure ?_)))
  rw [← Array.forIn_toList]
  refine wpAny_bind (fold_some (n := n) (h0 := h0) hu items.toList _ _ _ _ hT (by rw [hsl]; omega) hk fun ts hl hp tk => ?_)
  rw [hsl] at hl hp
  have ht := text_some (n := n) ts (Nat.le_of_eq hl) hp
  have e1 : (("(" : Str) ++ Str.join ", " ts.toArray.toList ++ (if items.size == 1 then ",)" else ")" : String)) = tupleText ts := by unfold tupleText; rw [hl]
  refine wpAny_bind (wpAny_mkStr (wpAny_pure ?_) ?_)
  · have h1 := h (tupleText ts) tk (tk + 1) ht
    simpa [tupleText, hl] using h1
  · simpa [tupleText, hl] using (show (tupleText ts).length ≤ sizeLine by omega)
theorem at_some {A : Around} {E : Value → Shared → Prop} {s : Shared} {a : Addr} {o : Obj} {items : Array Value} {k b : Nat} {Q : Fin → Shared → Prop} (hu : A.units + d < cLine) (ha : s.heap.get? a = some o) (hd : o.data = .seq items k)
    (hT : ∀ x ∈ items.toList, Shows prog w h0 d n x) (hk : ∀ c o, h0.get? c = some o → s.heap.get? c = some o) (hsz : b + (items.size * (n + 2) + 5) ≤ sizeLine)
    (h : ∀ t u tk, t.length ≤ items.size * (n + 2) + 5 → Q (.done (.ret (.str t u))) { s with toks := tk }) :
    wpAny (model prog w) A (Builtin.tupleReprAt b ⟨[.ref a], []⟩) Q E s := by
  rw [tuple_repr_tree]
  refine wpAny_bind (fmt_underWay fun y => ?_)
  cases y with
  | true =>
    refine PySem.W.KFB.if_so rfl ?_
    refine wpAny_bind (wpAny_rule ?_)
    refine wpAny_bind (wpAny_mkStr (wpAny_pure ?_) (by decide +kernel))
    exact h "(...)" _ _ (Nat.le_trans fmt_way (Nat.le_add_left _ _))
  | false =>
    refine PySem.W.KFB.if_not rfl ?_
    exact rest_some hu ha hd hT hk hsz h
theorem Shows.tup {a : Addr} {o : Obj} {items : Array Value} {k : Nat} (ha : h0.get? a = some o) (hc : o.cls = .type "tuple") (hd : o.data = .seq items k) (hT : ∀ x ∈ items.toList, Shows prog w h0 d n x) :
    Shows prog w h0 (d + 1) (items.size * (n + 2) + 5) (.ref a) := by
  intro b hb A E s Q hu hk hQ
  have ho := hk _ _ ha
  refine wpAny_pyReprUnder_ref (by omega) (wpAny_pyReprObjUnder_twin (twin := "tuple.__repr__.under") ⟨o, ho, hc⟩ F.slot_tuple_repr rfl (by omega) ?_)
  refine call_twin_own (F.quiet_tuple_repr_under _) F.entry_tuple_repr_under F.check_tuple_repr_under ⟨o, ho, hc⟩ F.slot_tuple_repr (F.args_tuple_repr_1 _) (wpOwn_of_wpAny ?_)
  refine at_some (n := n) (h0 := h0) (d := d) ?_ ho hd hT hk hb fun t u tk ht => ⟨⟨_, _, rfl⟩, _, _, rfl, hQ t tk ht⟩
  first
    | (show A.units + 1 + d < cLine; omega)
    | omega
/-- {t}, a tuple of what is shown -/
theorem field_tup {A : Around} {E : Value → Shared → Prop} {s : Shared} {a : Addr} {o : Obj} {items : Array Value} {k : Nat} {Q : Value → Shared → Prop} (hu : A.units + (d + 4) < cLine) (ha : s.heap.get? a = some o) (hc : o.cls = .type "tuple") (hd : o.data = .seq items k)
    (hT : ∀ x ∈ items.toList, Shows prog w s.heap d n x) (hsz : items.size * (n + 2) + 5 ≤ sizeLine) (h : ∀ m u tk, m.length ≤ items.size * (n + 2) + 5 → Q (.str m u) { s with toks := tk }) : wpAny (model prog w) A (formatField (.ref a) Str.empty) Q E s := by
  refine wpAny_formatField_slot (fun _ _ => nofun) (by omega) ⟨o, ha, hc⟩ F.slot_tuple_format F.slot_tuple_str F.slot_tuple_repr ?_
  refine wpAny_call (codeAny_call_builtin_own (Code.quiet_builtin _ (by decide +kernel)) F.entry_tuple_repr (F.slot_tuple_repr.check _ _ _ _ _ _ _ _ ⟨o, ha, hc⟩ (F.args_tuple_repr_1 _) (wpOwn_of_wpAny ?_)))
  show wpAny _ _ (Builtin.tupleReprAt 0 ⟨[.ref a], []⟩) _ _ _
  refine at_some (n := n) (h0 := s.heap) (d := d) ?_ ha hd hT (fun _ _ e => e) (by omega) fun t u tk ht => ⟨_, _, rfl, h t u tk ht⟩
  first
    | (show A.units + 1 + 1 + 1 + d < cLine; omega)
    | omega
end
end KB

/-! An own error class whose __init__ says super().__init__(text) and stores its fields. -/
namespace KC
open PySem PySem.W PySem.Calls PyProof.Rows PySem.HandSPX
section
variable {prog : Program} {w : World} {A : Around} {E : Value → Shared → Prop} {K : Frag} {mg : Str → Option Value}
/-- what the written part says of such a class (at C; its __init__ at f, with the code cda and the cell cc) -/
structure ErrC (prog : Program) (K : Frag) (mg : Str → Option Value) (C f cda cc : Addr) (qual : Str) (params : Arguments) (body : List Stmt) (scope : Scope) : Prop where
  cls : ∃ nm q N bs bm sn sub ab col dd k0 k1 k2 k3 k5, K.lookup C = some (excClassObj nm q C N bs bm true sn sub ab col dd k0 k1 k2 k3 k5 "ValueError.__new__") ∧ refsVE bm = true
  sa : findIn K (.ref C) "__setattr__" = some (some (.builtin "object.__setattr__"))
  ic : findIn K (.ref C) "__init__" = some (some (.ref f))
  tf : typeIn K (.ref f) = some (.type "function")
  fn : ∃ (oc doc pm ct : Value) (od an : Option Addr) (osl : Array (Option Value)), K.lookup f = some ⟨oc, od, .func (ksFn "__init__" qual params body scope .none .none doc pm an (.ref cda) ct cc), osl⟩
  cd : codeIn K (.ref cda) qual = true
  code : ∃ (ccl : Value) (cdd : Option Addr) (vs : Array Value) (ccs : Array (Option Value)) (file : Str) (tf : Tok), K.lookup cda = some ⟨ccl, cdd, .fields vs, ccs⟩ ∧ vs[2]? = some (.str file tf) ∧ ((prog.main.file : Str) == file) = true
  cell : ∃ (cl : Value) (cld : Option Addr) (csl : Array (Option Value)), K.lookup cc = some ⟨cl, cld, .cell (some (.ref C)), csl⟩
  sup : ks_superIn K C C "__init__" = some (some (.builtin "ValueError.__init__"))
  opq : nsIn K cStatics "thirdparty.any" = some none
  nosup : mg "super" = none
  subV : subIn K (.ref C) (.type "ValueError") = some true
  kC : keepIn K (.ref C) = true
  top : (prog.main.scope.names.lookup ("super" : Str)).isSome = false
theorem super_stmt {x C f cda cc L t0 : Addr} {qual : Str} {params : Arguments} {body : List Stmt} {scope : Scope} {p0 p1 p2 p3 p4 : Pos} {e : Expr} {m : Str → Option Value} {s : Shared} {Q : Flow → Shared → Prop} {ar : Arg} {pl : Sem Bool}
    (T : ErrC prog K mg C f cda cc qual params body scope) (X : K.In s.heap) (hg : s.heap.Ns mainGlobals mg) (hb : ∃ mb, s.heap.Ns builtinsNs mb ∧ ∀ y : Str, y ≠ "__name__" → mb y = bootBuiltins y)
    (hx : s.heap.get? x = some (excO C t0)) (ns : s.heap.Ns L m) (hp : (params.posonlyargs ++ params.args).head? = some ar) (hm : m ar.arg = some (.ref x))
    (hks : scope.names.lookup ("super" : Str) = some .globalImplicit) (hkc : scope.names.lookup ("__class__" : Str) = some .free) (hka : scope.names.lookup ar.arg = some .local) (hk : scope.kind = .function)
    (harg : ∀ (h1 : Heap) (tk : Nat), (∀ b o, s.heap.get? b = some o → h1.get? b = some o) → ∀ R : Value → Shared → Prop, (∀ z u tk', R (.str z u) { s with heap := h1, toks := tk' }) → wpAny (model prog w) A (eval e (ksEnv qual scope L f (.ref cda) cc)) R E { s with heap := h1, toks := tk })
    (hq : ∀ h' tk t1, (∀ b o, b ≠ x → s.heap.get? b = some o → h'.get? b = some o) → h'.get? x = some (excO C t1) → Q .next { s with heap := h', toks := tk })
    (he : starEach [e] (ksEnv qual scope L f (.ref cda) cc) = (false, eval e (ksEnv qual scope L f (.ref cda) cc)) :: starEach [] (ksEnv qual scope L f (.ref cda) cc) := by rfl)
    (hc : eval (.Call (.Attribute (.Call (.Name "super" p0) [] [] p1) "__init__" p2) [e] [] p3) (ksEnv qual scope L f (.ref cda) cc) = (do
      let ov ← attributeBase (.Call (.Name "super" p0) [] [] p1) "__init__" (ksEnv qual scope L f (.ref cda) cc) (eval (.Call (.Name "super" p0) [] [] p1) (ksEnv qual scope L f (.ref cda) cc))
      standAt p2.atName
      let (f', first) ← holding [ov] (getMethod ov "__init__" pl)
      callWith p3 f' first (backTo p3 (starEach [e] (ksEnv qual scope L f (.ref cda) cc))) []) := by rfl)
    (hi : interactive (ksEnv qual scope L f (.ref cda) cc) = false := by rfl) (hs : swapsWith (.Call (.Attribute (.Call (.Name "super" p0) [] [] p1) "__init__" p2) [e] [] p3) none p4.line (ksEnv qual scope L f (.ref cda) cc) = pure false := by rfl) :
    _root_.PySem.wpAt (model prog w) A (.func body (ksEnv qual scope L f (.ref cda) cc)) (exec (.Expr (.Call (.Attribute (.Call (.Name "super" p0) [] [] p1) "__init__" p2) [e] [] p3) p4) (ksEnv qual scope L f (.ref cda) cc)) Q E s := by
  have xI : ∀ {h : Heap}, h.get? x = some (excO C t0) → InstAt h x (excO C t0) C none := fun h => ⟨h, rfl, rfl, trivial⟩
  obtain ⟨nm, q, N, bs, bm, sn, sub, ab, col, dd, k0, k1, k2, k3, k5, hC, hbm⟩ := T.cls
  have hcl : clsIn K C = some { name := nm, bases := bs, mro := .ref C :: bm, ns := N, qualname := q, hasDict := true, slotNames := sn, subclasses := sub, abstract := ab, collection := col, hasDel := false } := by unfold clsIn; rw [hC] <;> rfl
  obtain ⟨oc, doc, pm, ct, od, an, osl, hf⟩ := T.fn
  obtain ⟨ccl, cdd, vs, ccs, file, tfk, hcode, hvs, hfile⟩ := T.code
  obtain ⟨cl, cld, csl, hcell⟩ := T.cell
  obtain ⟨mb, hb1, hb2⟩ := hb
  obtain ⟨hh, g, d, t, os⟩ := s
  have hbm' : ∀ Y : String, bm.contains (.type Y) = veTail.contains (.type Y) := fun Y => refsVE_contains Y bm hbm
  refine ks_wpAt_Expr_any ?_ hi hs
  refine ks_wpAt_MethodCall (pl := pl) ?_ hc
  refine ks_wpAt_super_base (env := ksEnv qual scope L f (.ref cda) cc) hks hkc (by decide) rfl (X _ _ hf) rfl hp rfl (X _ _ hcode) rfl hvs hfile T.top ?_
  refine ks_loadName_global hk hks (loadGlobal_builtin (env := ksEnv qual scope L f (.ref cda) cc) hg T.nosup hb1 ((hb2 _ (by decide +kernel)).trans (by decide +kernel)) ⟨rfl, ?_⟩)
  refine wpAny_loadName_free hk hkc rfl ⟨_, X _ _ hcell, rfl⟩ ?_
  refine wpAny_loadName_local hk hka ns hm ?_
  refine ks_wpAny_isType_cls (X _ _ hC) rfl ⟨rfl, ?_⟩
  have hsub : Looks (model prog w) hh (isSubtype (.ref C) (.ref C)) true := looks_mroIn X (by
    unfold mroIn
    rw [hcl, Option.bind_some]
    simp)
  refine ks_wpAny_call_super (X _ _ hC) rfl hx rfl (fun c z => nomatch z) hsub (fun h1 e1 k1 => ?_)
  -- .__init__
  have X1 : K.In h1 := X.keeps k1
  have hI : Looks (model prog w) h1 (isInstance (.ref x) (.type "ValueError")) true := (xI (k1 _ _ hx)).type.andThen (looks_subIn X1 T.subV)
  have hsup : alongIn K "__init__" ((((Value.ref C :: bm) : List Value).dropWhile (· != .ref C)).drop 1) = some (some (.builtin "ValueError.__init__")) := by
    have z := T.sup
    unfold ks_superIn at z
    rw [hcl] at z
    exact z
  refine kxs_getMethod kxs_ValueError e1 (looks_opaque X1 T.opq) (l₀ := .ref C :: bm) ?_ rfl X1 hsup hI (ks_ne X (xI hx) hcl) (by decide) ?_
  · exact fun A Q E s k q => wpAny_bind ((looks_clsIn X1 hcl) A _ E s k (wpAny_pure q))
  have k2 : ∀ b o, hh.get? b = some o → (h1.push (kxs_mw "ValueError.__init__" x)).get? b = some o := fun b o z => Heap.get?_push_of_some _ (k1 b o z)
  have hu : (h1.push (kxs_mw "ValueError.__init__" x)).get? h1.objs.size = some (kxs_mw "ValueError.__init__" x) := Heap.get?_push_size _ rfl
  show wpAny _ _ (callWith p3 (.ref h1.objs.size) [] (backTo p3 (starEach [e] (ksEnv qual scope L f (.ref cda) cc))) []) _ _ _
  rw [he]
  refine kxs_callWith (i := "ValueError.__init__") (x := x) (by rfl) ?_
  refine evalArgs_plain ?_
  show wpAny _ _ (spliced ((false, eval e (ksEnv qual scope L f (.ref cda) cc)) :: backTo p3 (starEach [] (ksEnv qual scope L f (.ref cda) cc)))) _ _ _
  refine Calls.spliced_cons (harg _ _ k2 _ fun z u tk' => ?_)
  refine Calls.spliced_nil ⟨hu, ?_⟩
  show wpAny _ _ (call (.ref h1.objs.size) [.str z u]) _ _ _
  refine wpAny_call (codeAny_of_tree ?_)
  show wpAny _ _ (callAny (.ref h1.objs.size) ⟨[.str z u], []⟩) _ _ _
  simp only [callAny]
  refine wpAny_bind (wpAny_load hu ?_)
  simp only [kxs_mw, show (Value.type "method-wrapper" == Value.type "method" || Value.type "method-wrapper" == Value.type "builtin_function_or_method" || Value.type "method-wrapper" == Value.type "method-wrapper") = true by decide, if_true]
  refine KFB.if_so (by decide) ?_
  have X2 : K.In (h1.push (kxs_mw "ValueError.__init__" x)) := X.keeps k2
  refine wpAny_bind (check_bound_init PySem.F.excBase_ValueError.toExcCallFacts (X2 _ _ hC) (k2 _ _ hx) rfl ?_)
  refine wpAny_bind (wpAny_pure (wpAny_pure ?_))
  refine ⟨plainId_quiet PySem.F.excBase_ValueError.init.plain _, codeAny_builtin PySem.F.excBase_ValueError.initEntry ?_⟩
  refine exc_init_tree (cls := .ref C) (t0 := t0) (dv := none) (c2 := .none) (c3 := .none) (b4 := .bool false) (k2 _ _ hx) (by show 1 ≤ sizeLine; decide) fun h3 k3 e3 t3 => ?_
  exact hq h3 _ _ (fun b o hb z => k3 b o hb (k2 b o z)) e3
end
end KC

namespace KC
open PySem PySem.W PySem.Calls PyProof.Rows PySem.HandSPX
/-- an error's object with its own dict at dx -/
abbrev excD (C t dx : Addr) : Obj := { cls := .ref C, dict := some dx, data := .fields #[.ref t, .none, .none, .none, .bool false, .none] }
/-- what __init__ leaves of a fresh error at x: its fields fs -/
structure Made (h h' : Heap) (x C dx t1 : Addr) (fs : Str → Option Value) : Prop where
  keep : ∀ b o, b ≠ x → h.get? b = some o → h'.get? b = some o
  obj : h'.get? x = some (excD C t1 dx)
  big : h.objs.size ≤ dx
  ne : dx ≠ x
  ns : h'.Ns1 dx fs
section
variable {prog : Program} {w : World} {A : Around} {E : Value → Shared → Prop} {K : Frag} {mg : Str → Option Value}
theorem ErrC.clsIn {C f cda cc : Addr} {qual : Str} {params : Arguments} {body : List Stmt} {scope : Scope} (T : ErrC prog K mg C f cda cc qual params body scope) :
    ∃ cd : ClassData, clsIn K C = some cd ∧ refsVE cd.mro = true ∧ cd.hasDict = true := by
  obtain ⟨nm, q, N, bs, bm, sn, sub, ab, col, dd, k0, k1, k2, k3, k5, hC, hbm⟩ := T.cls
  refine ⟨{ name := nm, bases := bs, mro := .ref C :: bm, ns := N, qualname := q, hasDict := true, slotNames := sn, subclasses := sub, abstract := ab, collection := col, hasDel := false }, ?_, hbm, rfl⟩
  unfold W.clsIn
  rw [hC] <;> rfl
/-- self.fld = prm, the first one -/
theorem store_first {x C f cda cc L t0 : Addr} {qual fld prm : Str} {params : Arguments} {body rest : List Stmt} {scope : Scope} {q1 q2 q3 q4 : Pos} {m : Str → Option Value} {s : Shared} {Q : Flow → Shared → Prop} {v : Value}
    (T : ErrC prog K mg C f cda cc qual params body scope) (X : K.In s.heap) (hx : s.heap.get? x = some (excO C t0)) (ns : s.heap.Ns L m) (hself : m "self" = some (.ref x)) (hprm : m prm = some v) (hno : findIn K (.ref C) fld = some none)
    (hk : scope.kind = .function) (hl1 : scope.names.lookup ("self" : Str) = some .local) (hl2 : scope.names.lookup prm = some .local)
    (hq : ∀ h' tk dx, Made s.heap h' x C dx t0 (fun y => if y = fld then some v else none) → Q .next { s with heap := h', toks := tk })
    (hd1 : (prm == ("__debug__" : Str)) = false := by decide)
    (hs : swapsWith (.Name prm q3) (some (.Attribute (.Name "self" q1) fld q2)) q4.line (ksEnv qual scope L f (.ref cda) cc) = pure false := by rfl) :
    wpAny (model prog w) A (exec (.Assign [.Attribute (.Name "self" q1) fld q2] (.Name prm q3) q4) (ksEnv qual scope L f (.ref cda) cc)) Q E s := by
  obtain ⟨cd, hcl, hbm, hhd⟩ := T.clsIn
  refine plainObj_wpAny_Assign_Attribute ?_ hs
  refine wpAny_Name (wpAny_loadName_local hk hl2 ns hprm ?_) hd1
  refine wpAny_Name (wpAny_loadName_local hk hl1 ns hself ?_) (by decide)
  refine set_plain X (ox := excO C t0) (od := none) ⟨hx, rfl, rfl, trivial⟩ T.sa ?_
  refine exc_osa X hx hcl hbm hhd hno (fun h₃ tk₃ dx k₃ dn dne hx₃ hn₃ => ?_)
  exact hq h₃ tk₃ dx ⟨k₃, hx₃, dn, dne, hn₃⟩
/-- self.fld = prm, a further one -/
theorem store_more {x C f cda cc L t0 dx : Addr} {qual fld prm : Str} {params : Arguments} {body rest : List Stmt} {scope : Scope} {q1 q2 q3 q4 : Pos} {m m0 : Str → Option Value} {nl : List Str} {s : Shared} {Q : Flow → Shared → Prop} {v : Value}
    (T : ErrC prog K mg C f cda cc qual params body scope) (X : K.In s.heap) (hx : s.heap.get? x = some (excD C t0 dx)) (hdx : s.heap.Ns1 dx m0) (hw : Within m0 nl) (hz : nl.length ≤ 1000) (ns : s.heap.Ns L m) (hself : m "self" = some (.ref x)) (hprm : m prm = some v) (hno : findIn K (.ref C) fld = some none)
    (hk : scope.kind = .function) (hl1 : scope.names.lookup ("self" : Str) = some .local) (hl2 : scope.names.lookup prm = some .local)
    (hq : ∀ h' tk, (∀ b o, b ≠ dx → s.heap.get? b = some o → h'.get? b = some o) → h'.Ns1 dx (fun y => if y = fld then some v else m0 y) → Q .next { s with heap := h', toks := tk })
    (hd1 : (prm == ("__debug__" : Str)) = false := by decide)
    (hs : swapsWith (.Name prm q3) (some (.Attribute (.Name "self" q1) fld q2)) q4.line (ksEnv qual scope L f (.ref cda) cc) = pure false := by rfl) :
    wpAny (model prog w) A (exec (.Assign [.Attribute (.Name "self" q1) fld q2] (.Name prm q3) q4) (ksEnv qual scope L f (.ref cda) cc)) Q E s := by
  obtain ⟨cd, hcl, hbm, hhd⟩ := T.clsIn
  obtain ⟨oD, _, _, hoD, _, _⟩ := hdx.count hw
  refine plainObj_wpAny_Assign_Attribute ?_ hs
  refine wpAny_Name (wpAny_loadName_local hk hl2 ns hprm ?_) hd1
  refine wpAny_Name (wpAny_loadName_local hk hl1 ns hself ?_) (by decide)
  refine set_plain X (ox := excD C t0 dx) (od := some oD) ⟨hx, rfl, rfl, hoD⟩ T.sa ?_
  refine PySem.OEX.osa_old X hx hdx hw hz hcl hbm hhd hno (fun h' tk' k hn => ?_)
  exact hq h' tk' k hn
/-- C.__init__(x, v): one field -/
theorem init_one {x C f cda cc t0 : Addr} {qual fld prm : Str} {params : Arguments} {scope : Scope} {p0 p1 p2 p3 p4 q1 q2 q3 q4 : Pos} {e : Expr} {s : Shared} {R : Result → Shared → Prop} {v : Value} {ar : Arg} {pl : Sem Bool}
    (T : ErrC prog K mg C f cda cc qual params [.Expr (.Call (.Attribute (.Call (.Name "super" p0) [] [] p1) "__init__" p2) [e] [] p3) p4, .Assign [.Attribute (.Name "self" q1) fld q2] (.Name prm q3) q4] scope)
    (X : K.In s.heap) (hlim : s.heap.NoLimit) (hg : s.heap.Ns mainGlobals mg) (hb : ∃ mb, s.heap.Ns builtinsNs mb ∧ ∀ y : Str, y ≠ "__name__" → mb y = bootBuiltins y)
    (hx : s.heap.get? x = some (excO C t0)) (hnx : K.lookup x = none) (hroom : A.depth < recursionLimit) (hno : findIn K (.ref C) fld = some none)
    (hbind : ∀ (doc pm ct : Value) (an : Option Addr), BindsTo s (ksFn "__init__" qual params [.Expr (.Call (.Attribute (.Call (.Name "super" p0) [] [] p1) "__init__" p2) [e] [] p3) p4, .Assign [.Attribute (.Name "self" q1) fld q2] (.Name prm q3) q4] scope .none .none doc pm an (.ref cda) ct cc) ⟨[.ref x, v], []⟩ [("self", .ref x), (prm, v)])
    (hp : (params.posonlyargs ++ params.args).head? = some ar) (har : ar.arg = "self") (hne : prm ≠ "self")
    (hks : scope.names.lookup ("super" : Str) = some .globalImplicit) (hkc : scope.names.lookup ("__class__" : Str) = some .free) (hk : scope.kind = .function) (hl1 : scope.names.lookup ("self" : Str) = some .local) (hl2 : scope.names.lookup prm = some .local)
    (hcell : ∀ x ∈ scope.names, x.2 ≠ .cell) (hco : scope.isCoroutine = false) (hgen : scope.isGenerator = false) (hd1 : (prm == ("__debug__" : Str)) = false)
    (harg : ∀ (L : Addr) (h1 : Heap) (tk : Nat) (E' : Value → Shared → Prop), (∀ b o, s.heap.get? b = some o → h1.get? b = some o) → (∃ m, h1.Ns L m ∧ m prm = some v) → ∀ Q : Value → Shared → Prop, (∀ z u tk', Q (.str z u) { s with heap := h1, toks := tk' }) →
      wpAny (model prog w) (A.deeper (ksEnv qual scope L f (.ref cda) cc)) (eval e (ksEnv qual scope L f (.ref cda) cc)) Q E' { s with heap := h1, toks := tk })
    (hq : ∀ h' tk dx t1, Made s.heap h' x C dx t1 (fun y => if y = fld then some v else none) → R (.ok (.ret .none)) { s with heap := h', toks := tk })
    (he : ∀ L, starEach [e] (ksEnv qual scope L f (.ref cda) cc) = (false, eval e (ksEnv qual scope L f (.ref cda) cc)) :: starEach [] (ksEnv qual scope L f (.ref cda) cc))
    (hc : ∀ L, eval (.Call (.Attribute (.Call (.Name "super" p0) [] [] p1) "__init__" p2) [e] [] p3) (ksEnv qual scope L f (.ref cda) cc) = (do
      let ov ← attributeBase (.Call (.Name "super" p0) [] [] p1) "__init__" (ksEnv qual scope L f (.ref cda) cc) (eval (.Call (.Name "super" p0) [] [] p1) (ksEnv qual scope L f (.ref cda) cc))
      standAt p2.atName
      let (f', first) ← holding [ov] (getMethod ov "__init__" pl)
      callWith p3 f' first (backTo p3 (starEach [e] (ksEnv qual scope L f (.ref cda) cc))) []))
    (hi : ∀ L, interactive (ksEnv qual scope L f (.ref cda) cc) = false) (hs : ∀ L, swapsWith (.Call (.Attribute (.Call (.Name "super" p0) [] [] p1) "__init__" p2) [e] [] p3) none p4.line (ksEnv qual scope L f (.ref cda) cc) = pure false)
    (hs2 : ∀ L, swapsWith (.Name prm q3) (some (.Attribute (.Name "self" q1) fld q2)) q4.line (ksEnv qual scope L f (.ref cda) cc) = pure false) :
    codeAny (model prog w) A (.call (.ref f) ⟨[.ref x, v], []⟩) R s := by
  obtain ⟨oc, doc, pm, ct, od, an, osl, hf⟩ := T.fn
  refine ks_codeAny_call_defAt (binds := [("self", .ref x), (prm, v)]) hroom (X _ _ hf) rfl hlim (codeRec_of X T.cd) rfl (hbind doc pm ct an) hcell ?_ (fun h₁ hns hk₁ => ?_) hco hgen hk
  · intro y hy
    rcases List.mem_cons.mp hy with rfl | hy
    · exact hl1
    · rcases List.mem_cons.mp hy with rfl | hy
      · exact hl2
      · exact absurd hy List.not_mem_nil
  have m1 : (List.reverse [(("self" : Str), Value.ref x), (prm, v)]).lookup ("self" : Str) = some (.ref x) := by
    have e1 : (("self" : Str) == prm) = false := beq_eq_false_iff_ne.mpr (Ne.symm hne)
    simp [List.lookup, e1]
  have m2 : (List.reverse [(("self" : Str), Value.ref x), (prm, v)]).lookup prm = some v := by simp [List.lookup]
  obtain ⟨hh, g, d, t, os⟩ := s
  have X1 : K.In h₁ := X.keeps hk₁
  obtain ⟨mb, hb1, hb2⟩ := hb
  refine ks_wpAt_execs_cons ?_
  refine super_stmt (s := ⟨h₁, g, d, _, os⟩) T X1 (hg.keeps hk₁) ⟨mb, hb1.keeps hk₁, hb2⟩ (hk₁ _ _ hx) hns hp (by rw [har]; exact m1) hks hkc (by rw [har]; exact hl1) hk (fun h2 tk k2 Q hQ => ?_) (fun h2 tk t1 k2 e2 => ?_) (he _) (hc _) (hi _) (hs _)
  · exact harg _ h2 tk _ (fun b o z => k2 b o (hk₁ b o z)) ⟨_, hns.keeps k2, m2⟩ Q hQ
  · have xL : x ≠ hh.objs.size := Nat.ne_of_lt (Heap.lt_size hx)
    have ns2 : h2.Ns hh.objs.size (fun y => (List.reverse [(("self" : Str), Value.ref x), (prm, v)]).lookup y) := by
      obtain ⟨oL, es, ep, hL, r⟩ := hns
      exact ⟨oL, es, ep, k2 _ _ (Ne.symm xL) hL, r⟩
    have k3 : ∀ b o, b ≠ x → hh.get? b = some o → h2.get? b = some o := fun b o hb z => k2 b o hb (hk₁ b o z)
    have X2 : K.In h2 := fun b o z => k3 b o (fun q => by rw [q, hnx] at z; cases z) (X b o z)
    show _root_.PySem.wpAt _ _ _ (execs _ _) _ _ _
    refine ks_wpAt_execs_cons (wpAt_of_wpAny ?_)
    refine store_first (s := ⟨h2, g, d, _, os⟩) (rest := []) T X2 e2 ns2 m1 m2 hno hk hl1 hl2 (fun h3 tk3 dx M => ?_) hd1 (hs2 _)
    show _root_.PySem.wpAt _ _ _ (execs _ _) _ _ _
    refine wpAt_of_wpAny (wpAny_execs_nil ?_)
    refine hq h3 _ dx t1 ⟨fun b o hb z => M.keep b o hb (k3 b o hb z), M.obj, ?_, M.ne, M.ns⟩
    exact Nat.le_trans (Nat.le_of_lt (show hh.objs.size < h2.objs.size from ns2.lt)) M.big
/-- C.__init__(x, v, v2): two fields -/
theorem init_two {x C f cda cc t0 : Addr} {qual fld prm fld2 prm2 : Str} {params : Arguments} {scope : Scope} {p0 p1 p2 p3 p4 q1 q2 q3 q4 r1 r2 r3 r4 : Pos} {e : Expr} {s : Shared} {R : Result → Shared → Prop} {v v2 : Value} {ar : Arg} {pl : Sem Bool} {body : List Stmt}
    (hbody : body = [.Expr (.Call (.Attribute (.Call (.Name "super" p0) [] [] p1) "__init__" p2) [e] [] p3) p4, .Assign [.Attribute (.Name "self" q1) fld q2] (.Name prm q3) q4, .Assign [.Attribute (.Name "self" r1) fld2 r2] (.Name prm2 r3) r4])
    (T : ErrC prog K mg C f cda cc qual params body scope)
    (X : K.In s.heap) (hlim : s.heap.NoLimit) (hg : s.heap.Ns mainGlobals mg) (hb : ∃ mb, s.heap.Ns builtinsNs mb ∧ ∀ y : Str, y ≠ "__name__" → mb y = bootBuiltins y)
    (hx : s.heap.get? x = some (excO C t0)) (hnx : K.lookup x = none) (hroom : A.depth < recursionLimit) (hno : findIn K (.ref C) fld = some none) (hno2 : findIn K (.ref C) fld2 = some none)
    (hbind : ∀ (doc pm ct : Value) (an : Option Addr), BindsTo s (ksFn "__init__" qual params body scope .none .none doc pm an (.ref cda) ct cc) ⟨[.ref x, v, v2], []⟩ [("self", .ref x), (prm, v), (prm2, v2)])
    (hp : (params.posonlyargs ++ params.args).head? = some ar) (har : ar.arg = "self") (hne : prm ≠ "self") (hne2 : prm2 ≠ "self") (hne3 : prm ≠ prm2)
    (hks : scope.names.lookup ("super" : Str) = some .globalImplicit) (hkc : scope.names.lookup ("__class__" : Str) = some .free) (hk : scope.kind = .function) (hl1 : scope.names.lookup ("self" : Str) = some .local) (hl2 : scope.names.lookup prm = some .local) (hl3 : scope.names.lookup prm2 = some .local)
    (hcell : ∀ x ∈ scope.names, x.2 ≠ .cell) (hco : scope.isCoroutine = false) (hgen : scope.isGenerator = false) (hd1 : (prm == ("__debug__" : Str)) = false) (hd2 : (prm2 == ("__debug__" : Str)) = false)
    (harg : ∀ (L : Addr) (h1 : Heap) (tk : Nat) (E' : Value → Shared → Prop), (∀ b o, s.heap.get? b = some o → h1.get? b = some o) → (∃ m, h1.Ns L m ∧ m prm = some v ∧ m prm2 = some v2) → ∀ Q : Value → Shared → Prop, (∀ z u tk', Q (.str z u) { s with heap := h1, toks := tk' }) →
      wpAny (model prog w) (A.deeper (ksEnv qual scope L f (.ref cda) cc)) (eval e (ksEnv qual scope L f (.ref cda) cc)) Q E' { s with heap := h1, toks := tk })
    (hq : ∀ h' tk dx t1, Made s.heap h' x C dx t1 (fun y => if y = fld2 then some v2 else if y = fld then some v else none) → R (.ok (.ret .none)) { s with heap := h', toks := tk })
    (he : ∀ L, starEach [e] (ksEnv qual scope L f (.ref cda) cc) = (false, eval e (ksEnv qual scope L f (.ref cda) cc)) :: starEach [] (ksEnv qual scope L f (.ref cda) cc))
    (hc : ∀ L, eval (.Call (.Attribute (.Call (.Name "super" p0) [] [] p1) "__init__" p2) [e] [] p3) (ksEnv qual scope L f (.ref cda) cc) = (do
      let ov ← attributeBase (.Call (.Name "super" p0) [] [] p1) "__init__" (ksEnv qual scope L f (.ref cda) cc) (eval (.Call (.Name "super" p0) [] [] p1) (ksEnv qual scope L f (.ref cda) cc))
      standAt p2.atName
      let (f', first) ← holding [ov] (getMethod ov "__init__" pl)
      callWith p3 f' first (backTo p3 (starEach [e] (ksEnv qual scope L f (.ref cda) cc))) []))
    (hi : ∀ L, interactive (ksEnv qual scope L f (.ref cda) cc) = false) (hs : ∀ L, swapsWith (.Call (.Attribute (.Call (.Name "super" p0) [] [] p1) "__init__" p2) [e] [] p3) none p4.line (ksEnv qual scope L f (.ref cda) cc) = pure false)
    (hs2 : ∀ L, swapsWith (.Name prm q3) (some (.Attribute (.Name "self" q1) fld q2)) q4.line (ksEnv qual scope L f (.ref cda) cc) = pure false)
    (hs3 : ∀ L, swapsWith (.Name prm2 r3) (some (.Attribute (.Name "self" r1) fld2 r2)) r4.line (ksEnv qual scope L f (.ref cda) cc) = pure false) :
    codeAny (model prog w) A (.call (.ref f) ⟨[.ref x, v, v2], []⟩) R s := by
  obtain ⟨oc, doc, pm, ct, od, an, osl, hf⟩ := T.fn
  refine ks_codeAny_call_defAt (body := body) (binds := [("self", .ref x), (prm, v), (prm2, v2)]) hroom (X _ _ hf) rfl hlim (codeRec_of X T.cd) rfl (hbind doc pm ct an) hcell ?_ (fun h₁ hns hk₁ => ?_) hco hgen hk
  · intro y hy
    rcases List.mem_cons.mp hy with rfl | hy
    · exact hl1
    · rcases List.mem_cons.mp hy with rfl | hy
      · exact hl2
      · rcases List.mem_cons.mp hy with rfl | hy
        · exact hl3
        · exact absurd hy List.not_mem_nil
  have m1 : (List.reverse [(("self" : Str), Value.ref x), (prm, v), (prm2, v2)]).lookup ("self" : Str) = some (.ref x) := by
    have e1 : (("self" : Str) == prm) = false := beq_eq_false_iff_ne.mpr (Ne.symm hne)
    have e2 : (("self" : Str) == prm2) = false := beq_eq_false_iff_ne.mpr (Ne.symm hne2)
    simp [List.lookup, e1, e2]
  have m2 : (List.reverse [(("self" : Str), Value.ref x), (prm, v), (prm2, v2)]).lookup prm = some v := by
    have e1 : (prm == prm2) = false := beq_eq_false_iff_ne.mpr hne3
    simp [List.lookup, e1]
  have m3 : (List.reverse [(("self" : Str), Value.ref x), (prm, v), (prm2, v2)]).lookup prm2 = some v2 := by simp [List.lookup]
  obtain ⟨hh, g, d, t, os⟩ := s
  have X1 : K.In h₁ := X.keeps hk₁
  obtain ⟨mb, hb1, hb2⟩ := hb
  show _root_.PySem.wpAt _ _ _ (execs body _) _ _ _
  generalize hbd : Code.func body = cod at *
  rw [hbody]
  subst hbd
  refine ks_wpAt_execs_cons ?_
  refine super_stmt (s := ⟨h₁, g, d, _, os⟩) T X1 (hg.keeps hk₁) ⟨mb, hb1.keeps hk₁, hb2⟩ (hk₁ _ _ hx) hns hp (by rw [har]; exact m1) hks hkc (by rw [har]; exact hl1) hk (fun h2 tk k2 Q hQ => ?_) (fun h2 tk t1 k2 e2 => ?_) (he _) (hc _) (hi _) (hs _)
  · exact harg _ h2 tk _ (fun b o z => k2 b o (hk₁ b o z)) ⟨_, hns.keeps k2, m2, m3⟩ Q hQ
  · have xL : x ≠ hh.objs.size := Nat.ne_of_lt (Heap.lt_size hx)
    have ns2 : h2.Ns hh.objs.size (fun y => (List.reverse [(("self" : Str), Value.ref x), (prm, v), (prm2, v2)]).lookup y) := by
      obtain ⟨oL, es, ep, hL, r⟩ := hns
      exact ⟨oL, es, ep, k2 _ _ (Ne.symm xL) hL, r⟩
    have k3 : ∀ b o, b ≠ x → hh.get? b = some o → h2.get? b = some o := fun b o hb z => k2 b o hb (hk₁ b o z)
    have X2 : K.In h2 := fun b o z => k3 b o (fun q => by rw [q, hnx] at z; cases z) (X b o z)
    show _root_.PySem.wpAt _ _ _ (execs _ _) _ _ _
    refine ks_wpAt_execs_cons (wpAt_of_wpAny ?_)
    refine store_first (s := ⟨h2, g, d, _, os⟩) (rest := []) T X2 e2 ns2 m1 m2 hno hk hl1 hl2 (fun h3 tk3 dx M => ?_) hd1 (hs2 _)
    have Lx : hh.objs.size < dx := Nat.lt_of_lt_of_le (show hh.objs.size < h2.objs.size from ns2.lt) M.big
    have ns3 : h3.Ns hh.objs.size (fun y => (List.reverse [(("self" : Str), Value.ref x), (prm, v), (prm2, v2)]).lookup y) := by
      obtain ⟨oL, es, ep, hL, r⟩ := ns2
      exact ⟨oL, es, ep, M.keep _ _ (Ne.symm xL) hL, r⟩
    have X3 : K.In h3 := fun b o z => M.keep b o (fun q => by rw [q, hnx] at z; cases z) (X2 b o z)
    have hw : Within (fun y => if y = fld then some v else none) [fld] := Within.cons fld v Within.nil
    show _root_.PySem.wpAt _ _ _ (execs _ _) _ _ _
    refine ks_wpAt_execs_cons (wpAt_of_wpAny ?_)
    refine store_more (s := ⟨h3, g, d, _, os⟩) (rest := []) T X3 M.obj M.ns hw (by show 1 ≤ 1000; decide) ns3 m1 m3 hno2 hk hl1 hl3 (fun h4 tk4 k4 n4 => ?_) hd2 (hs3 _)
    show _root_.PySem.wpAt _ _ _ (execs _ _) _ _ _
    refine wpAt_of_wpAny (wpAny_execs_nil ?_)
    exact hq h4 _ dx t1 ⟨fun b o hb z => k4 b o (Nat.ne_of_lt (Nat.lt_trans (Heap.lt_size z) Lx)) (M.keep b o hb (k3 b o hb z)), k4 _ _ M.ne.symm M.obj, Nat.le_of_lt Lx, M.ne, n4⟩
end
end KC

namespace KE0
open PySem PySem.Spec PyProof.Rows L2
/-! ### data that an f-string shows -/
/-- none, a bool, a number below 10 ^ 60, a short text, or (n deep) a tuple of at most ten such -/
inductive Dat (H : Hp) : Nat → V → Prop where
  | non {n} : Dat H n .non
  | bl {n} (b : Bool) : Dat H n (.bl b)
  | int {n} (i : Int) (h : i.natAbs < 10 ^ 60) : Dat H n (.int i)
  | str {n} (z : Str) (h : z.length ≤ 60) (hc : ∀ c ∈ z.cps.toList, c < 16 ^ 8) : Dat H n (.str z)
  | tup {n} (a : Addr) (xs : List V) (ha : H a = some (.tup xs)) (hl : xs.length ≤ 10) (hx : ∀ x ∈ xs, Dat H n x) : Dat H (n + 1) (.ref a)
theorem Dat.same {H H' : Hp} {n : Nat} {v : V} (d : Dat H n v) (s : ∀ a xs, H a = some (.tup xs) → H' a = some (.tup xs)) : Dat H' n v := by
  induction d with
  | non => exact .non
  | bl b => exact .bl b
  | int i h => exact .int i h
  | str z h hc => exact .str z h hc
  | tup a xs ha hl hx ih => exact .tup a xs (s _ _ ha) hl ih
def bnd : Nat → Nat
  | 0 => 700
  | n + 1 => 10 * (bnd n + 2) + 5
theorem bnd_ge : ∀ n, 700 ≤ bnd n
  | 0 => Nat.le_refl _
  | n + 1 => by
    have := bnd_ge n
    show 700 ≤ 10 * (bnd n + 2) + 5
    omega
section
variable {P : Program} {w : World} {H : Hp} {h : Heap}
theorem shows_mono {h0 : Heap} {d d' n n' : Nat} {x : Value} (a : KB.Shows P w h0 d n x) (hd : d ≤ d') (hn : n ≤ n') : KB.Shows P w h0 d' n' x := fun b hb A E s Q hu hk hQ => a b (by omega) A E s Q (by omega) hk fun t tk ht => hQ t tk (by omega)
theorem int_len {i : Int} (hi : i.natAbs < 10 ^ 60) : (Str.ofString (toString i)).length ≤ 61 := by
  rw [PySem.ofString_length]
  exact int_text_length_le10 (k := 60) (by decide) hi
theorem log_of {i : Int} (hi : i.natAbs < 10 ^ 60) : i.natAbs.log2 < 1920 := by
  by_cases h0 : i.natAbs = 0
  · rw [h0]
    decide
  · have h1 : i.natAbs < 2 ^ 1920 := Nat.lt_of_lt_of_le hi (by decide +kernel)
    exact (Nat.log2_lt h0).mpr h1
theorem Dat.shows (ok : HOk P w H h) {n : Nat} {v : V} (d : Dat H n v) : ∀ u, RelV v u → KB.Shows P w h n (bnd n) u := by
  induction d with
  | @non n =>
    intro u r
    cases (show u = Value.none from r)
    exact shows_mono (d := 0) (n := 4) (KB.Shows.of_is ReprIs.none (by decide +kernel)) (Nat.zero_le _) (Nat.le_trans (by decide) (bnd_ge n))
  | @bl n b =>
    intro u r
    cases (show u = Value.bool b from r)
    exact shows_mono (d := 0) (n := 5) (KB.Shows.of_is (ReprIs.bool b) (by cases b <;> decide +kernel)) (Nat.zero_le _) (Nat.le_trans (by decide) (bnd_ge n))
  | @int n i hi =>
    intro u r
    obtain ⟨t, rfl⟩ := (show ∃ t, u = Value.int i t from r)
    exact shows_mono (d := 0) (n := 61) (KB.Shows.of_is (ReprIs.int t (log_of hi)) (int_len hi)) (Nat.zero_le _) (Nat.le_trans (by decide) (bnd_ge n))
  | @str n z hz hc =>
    intro u r
    obtain ⟨t, rfl⟩ := (show ∃ t, u = Value.str z t from r)
    have hl := StrLaws.reprText_len z hc
    have hs : (700 : Nat) ≤ sizeLine := by decide
    exact shows_mono (d := 0) (n := 610) (KB.Shows.of_is (ReprIs.str z t (by omega)) (by omega)) (Nat.zero_le _) (Nat.le_trans (by decide) (bnd_ge n))
  | @tup n a xs ha hl hx ih =>
    intro u r
    cases (show u = Value.ref a from r)
    obtain ⟨_, its, rv, o, e1, e2, k, e3⟩ := (show ObjOk P w H h a (.tup xs) from ok a _ ha)
    have hsz : its.toArray.size ≤ 10 := by
      have := rv.length
      simp only [List.size_toArray]
      omega
    refine shows_mono (KB.Shows.tup (n := bnd n) (d := n) e1 e2 e3 fun x hx' => ?_) (Nat.le_refl _) ?_
    · have hx2 : x ∈ its := by simpa using hx'
      obtain ⟨i, hi, e⟩ := List.getElem_of_mem hx2
      have hi2 : i < xs.length := by rw [rv.length]; exact hi
      obtain ⟨u', g1, g2⟩ := rv.get (List.getElem?_eq_getElem hi2)
      rw [List.getElem?_eq_getElem hi, e] at g1
      cases g1
      exact ih xs[i] (List.getElem_mem _) _ g2
    · show its.toArray.size * (bnd n + 2) + 5 ≤ 10 * (bnd n + 2) + 5
      have := Nat.mul_le_mul_right (bnd n + 2) hsz
      omega
/-- what formatField makes of such a value: some text of at most n signs -/
def Field (P : Program) (w : World) (h : Heap) (u : Value) (n : Nat) : Prop :=
  ∀ (A : Around) (E : Value → Shared → Prop) (s : Shared) (Q : Value → Shared → Prop), A.units + 12 < cLine → (∀ c o, h.get? c = some o → s.heap.get? c = some o) → (∀ m u' tk, m.length ≤ n → Q (.str m u') { s with toks := tk }) →
    wpAny (model P w) A (formatField u Str.empty) Q E s
theorem field_int {i : Int} {t : Tok} (hi : i.natAbs < 10 ^ 60) : Field P w h (.int i t) 100 := fun A E s Q hu hk hQ =>
  wpAny_formatField_int (log_of hi) (hQ _ _ _ (Nat.le_trans (int_len hi) (by decide)))
theorem HOk.sub {h' : Heap} (ok : HOk P w H h) (k : ∀ c o, h.get? c = some o → h'.get? c = some o) : HOk P w H h' := ok.kept k
theorem field_tup {n : Nat} {a : Addr} (ok : HOk P w H h) (d : Dat H (n + 1) (.ref a)) (hn : n ≤ 2) : Field P w h (.ref a) 730000 := by
  intro A E s Q hu hk hQ
  cases d with
  | tup _ xs ha hl hx =>
    have ok' := ok.kept hk
    obtain ⟨_, its, rv, o, e1, e2, k, e3⟩ := (show ObjOk P w H s.heap a (.tup xs) from ok' a _ ha)
    have hsz : its.toArray.size ≤ 10 := by
      have := rv.length
      simp only [List.size_toArray]
      omega
    have hb : bnd n ≤ 72000 := by
      have h2 : bnd 2 = 70275 := rfl
      have h1 : bnd 1 = 7025 := rfl
      have h0 : bnd 0 = 700 := rfl
      rcases n with _ | _ | _ | n
      · rw [h0]; decide
      · exact Nat.le_trans (Nat.le_of_eq h1) (by decide)
      · exact Nat.le_trans (Nat.le_of_eq h2) (by decide)
      · omega
    have hm : its.toArray.size * (bnd n + 2) + 5 ≤ 10 * (72000 + 2) + 5 := by
      have := Nat.mul_le_mul hsz (Nat.add_le_add_right hb 2)
      omega
    have hS : (100000 : Nat) ≤ sizeLine * 10 := by decide
    have hS2 : (730000 : Nat) ≤ sizeLine := by decide
    refine KB.field_tup (n := bnd n) (d := n) (by omega) e1 e2 e3 (fun x hx' => ?_) (by omega) fun m u' tk hm => hQ m u' tk (by omega)
    have hx2 : x ∈ its := by simpa using hx'
    obtain ⟨i, hi, e⟩ := List.getElem_of_mem hx2
    have hi2 : i < xs.length := by rw [rv.length]; exact hi
    obtain ⟨u', g1, g2⟩ := rv.get (List.getElem?_eq_getElem hi2)
    rw [List.getElem?_eq_getElem hi, e] at g1
    cases g1
    exact (hx xs[i] (List.getElem_mem _)).shows ok' _ g2
end
end KE0

namespace KE0
open PySem PySem.Spec PyProof.Rows L2
section
variable {P : Program} {w : World} {A : Around} {E : Value → Shared → Prop} {env : Env}
theorem js_const {c acc : Str} {j : Nat} {p : Pos} {rest : List (Sem Value)} {R : Str → Shared → Prop} {s : Shared} (hl : (acc ++ c).length ≤ sizeLine) (h : ∀ tk, Joins (model P w) A E rest (acc ++ c) R { s with toks := tk }) :
    Joins (model P w) A E (eval (.Constant (.str c) j p) env :: rest) acc R s := Calls.Constant_str ⟨c, _, rfl, hl, h _⟩
theorem js_field {prm acc : Str} {b1 b2 : Pos} {rest : List (Sem Value)} {R : Str → Shared → Prop} {s : Shared} {h : Heap} {u : Value} {n : Nat} {m : Str → Option Value} (hF : Field P w h u n) (hk : ∀ c o, h.get? c = some o → s.heap.get? c = some o)
    (hu : A.units + 12 < cLine) (hkind : env.scope.kind = .function) (hloc : env.kindOf prm = some .local) (ns : s.heap.Ns env.locals m) (hm : m prm = some u) (hd : (prm == ("__debug__" : Str)) = false) (hl : acc.length + n ≤ sizeLine)
    (hr : ∀ y tk, y.length ≤ n → Joins (model P w) A E rest (acc ++ y) R { s with toks := tk }) : Joins (model P w) A E (eval (.FormattedValue (.Name prm b1) (-1) none b2) env :: rest) acc R s := by
  refine wpAny_FormattedValue_plain (wpAny_Name (wpAny_loadName_local hkind hloc ns hm ?_) hd)
  refine hF A E s _ hu hk fun y u' tk hy => ⟨y, u', rfl, ?_, hr y tk hy⟩
  rw [strLen_append]
  omega
theorem js_nil {acc : Str} {R : Str → Shared → Prop} {s : Shared} (h : R acc s) : Joins (model P w) A E [] acc R s := h
/-- f'..{a}..', of two or three parts -/
theorem fstr2 {c1 prm : Str} {j1 : Nat} {a1 a3 b1 b2 : Pos} {s : Shared} {h : Heap} {u : Value} {n : Nat} {m : Str → Option Value} {Q : Value → Shared → Prop} (hF : Field P w h u n) (hk : ∀ c o, h.get? c = some o → s.heap.get? c = some o)
    (hu : A.units + 12 < cLine) (hkind : env.scope.kind = .function) (hloc : env.kindOf prm = some .local) (ns : s.heap.Ns env.locals m) (hm : m prm = some u) (hd : (prm == ("__debug__" : Str)) = false) (hl : c1.length + n ≤ sizeLine)
    (hQ : ∀ z u tk, Q (.str z u) { s with toks := tk }) : wpAny (model P w) A (eval (.JoinedStr [.Constant (.str c1) j1 a1, .FormattedValue (.Name prm b1) (-1) none b2] a3) env) Q E s := by
  have e0 : (Str.empty ++ c1).length = c1.length := by rw [strLen_append]; exact Nat.zero_add _
  refine wpAny_JoinedStr (js_const (by omega) fun tk => js_field hF hk hu hkind hloc ns hm hd (by omega) fun y tk hy => js_nil ⟨?_, hQ _ _ _⟩)
  rw [strLen_append]
  omega
theorem fstr3 {c1 c2 prm : Str} {j1 j2 : Nat} {a1 a2 a3 b1 b2 : Pos} {s : Shared} {h : Heap} {u : Value} {n : Nat} {m : Str → Option Value} {Q : Value → Shared → Prop} (hF : Field P w h u n) (hk : ∀ c o, h.get? c = some o → s.heap.get? c = some o)
    (hu : A.units + 12 < cLine) (hkind : env.scope.kind = .function) (hloc : env.kindOf prm = some .local) (ns : s.heap.Ns env.locals m) (hm : m prm = some u) (hd : (prm == ("__debug__" : Str)) = false) (hl : c1.length + n + c2.length ≤ sizeLine)
    (hQ : ∀ z u tk, Q (.str z u) { s with toks := tk }) : wpAny (model P w) A (eval (.JoinedStr [.Constant (.str c1) j1 a1, .FormattedValue (.Name prm b1) (-1) none b2, .Constant (.str c2) j2 a2] a3) env) Q E s := by
  have e0 : (Str.empty ++ c1).length = c1.length := by rw [strLen_append]; exact Nat.zero_add _
  refine wpAny_JoinedStr (js_const (by omega) fun tk => js_field hF hk hu hkind hloc ns hm hd (by omega) fun y tk hy => js_const ?_ fun tk => js_nil ⟨?_, hQ _ _ _⟩)
  all_goals
    rw [strLen_append, strLen_append]
    omega
theorem fstr5 {c1 c2 c3 prm prm2 : Str} {j1 j2 j3 : Nat} {a1 a2 a3 a4 b1 b2 b3 b4 : Pos} {s : Shared} {h : Heap} {u u2 : Value} {n : Nat} {m : Str → Option Value} {Q : Value → Shared → Prop} (hF : Field P w h u n) (hF2 : Field P w h u2 n) (hk : ∀ c o, h.get? c = some o → s.heap.get? c = some o)
    (hu : A.units + 12 < cLine) (hkind : env.scope.kind = .function) (hloc : env.kindOf prm = some .local) (hloc2 : env.kindOf prm2 = some .local) (ns : s.heap.Ns env.locals m) (hm : m prm = some u) (hm2 : m prm2 = some u2) (hd : (prm == ("__debug__" : Str)) = false) (hd2 : (prm2 == ("__debug__" : Str)) = false)
    (hl : c1.length + n + c2.length + n + c3.length ≤ sizeLine)
    (hQ : ∀ z u tk, Q (.str z u) { s with toks := tk }) : wpAny (model P w) A (eval (.JoinedStr [.Constant (.str c1) j1 a1, .FormattedValue (.Name prm b1) (-1) none b2, .Constant (.str c2) j2 a2, .FormattedValue (.Name prm2 b3) (-1) none b4, .Constant (.str c3) j3 a4] a3) env) Q E s := by
  have e0 : (Str.empty ++ c1).length = c1.length := by rw [strLen_append]; exact Nat.zero_add _
  refine wpAny_JoinedStr (js_const (by omega) fun tk => js_field hF hk hu hkind hloc ns hm hd (by omega) fun y tk hy => js_const ?_ fun tk => js_field hF2 hk hu hkind hloc2 ns hm2 hd2 ?_ fun y2 tk hy2 => js_const ?_ fun tk => js_nil ⟨?_, hQ _ _ _⟩)
  all_goals
    have e1 : Str.empty.length = 0 := rfl
    simp only [strLen_append]
    omega
end
/-- what the call of C's __init__ does, whatever runs around -/
def InitOk (P : Program) (w : World) (K : PySem.W.Frag) (mg : Str → Option Value) (C f : Addr) (ok : Hp → List V → Prop) (fs : List V → List (Str × V)) : Prop :=
  ∀ (A : Around) (R : Result → Shared → Prop) (s : Shared) (x t0 : Addr) (vs : List V) (us : List Value) (H : Hp), K.In s.heap → s.heap.NoLimit → s.heap.Ns mainGlobals mg → (∃ mb, s.heap.Ns builtinsNs mb ∧ ∀ y : Str, y ≠ "__name__" → mb y = bootBuiltins y) →
    s.heap.get? x = some (PySem.HandSPX.excO C t0) → K.lookup x = none → A.depth < recursionLimit → A.units + 40 < cLine → HOk P w H s.heap → Vals vs us → ok H vs →
    (∀ h' tk dx t1 mA, KC.Made s.heap h' x C dx t1 mA → (∀ y, RelO ((fs vs).lookup y) (mA y)) → R (.ok (.ret .none)) { s with heap := h', toks := tk }) →
    codeAny (model P w) A (.call (.ref f) ⟨.ref x :: us, []⟩) R s
section
variable {X : Cx}
/-- C(e, ..), an own error with its own __init__, as a value -/
theorem pe_err {x : Str} {C f cda cc : Addr} {qual : Str} {params : Arguments} {body : List Stmt} {scope : Scope} {ok : Hp → List V → Prop} {fs : List V → List (Str × V)} {e : Expr} {es : List Expr} {ta : TA} {p pos : Pos} {k : Nat}
    (T : KC.ErrC X.prog X.K X.mg C f cda cc qual params body scope) (IK : InitOk X.prog X.w X.K X.mg C f ok fs) (hr : Room (k + 1) X.A) (hg : Gl X x) (hm : X.mg x = some (.ref C)) (ha : PA X (e :: es) ta)
    (hdb : (x == ("__debug__" : Str)) = false := by decide) (he : starEach (e :: es) X.env = (false, eval e X.env) :: starEach es X.env := by rfl) (hpl : (backTo pos (starEach es X.env)).any (·.1) = false := by rfl) :
    PE X (.Call (.Name x p) (e :: es) [] pos) (fun σ H Q => ta σ H fun vs H1 => vs.length ≤ 1000 ∧ ok H1 vs ∧ ∀ a d, H1 a = none → H1 d = none → d ≠ a → Q (.ref a) (upd (upd H1 d (exd d (fs vs))) a (exo a C (some d)))) := by
  refine ⟨fun pins s σ H Q I h => ?_⟩
  obtain ⟨nm, q, N, bs, bm, sn, sub, ab, col, dd, k0, k1, k2, k3, k5, hC, hbm⟩ := T.cls
  refine wpAny_Call_Name_kw (ld_glob I hg hm ?_ hdb)
  refine PySem.W.callWith_K (h₀ := X.base) I.ok.mod.kin T.kC (thn (ha.run pos pins s σ H _ I h) fun us s1 ⟨vs, H1, I1, r1, hz, hok, q1⟩ => ⟨I1.kIn, ?_⟩) he hpl
  show wpAny _ _ (call (.ref C) us) _ _ _
  have hlim := I1.nolimit
  have hglob := I1.mod.glob.keeps I1.bk
  obtain ⟨mb, hb1, hb2⟩ := I1.mod.blt
  have hb1' := hb1.keeps I1.bk
  obtain ⟨hp, g, dr, tk, os⟩ := s1
  have hsz : hp.objs.size ≤ hp.objs.size + 1 := Nat.le_succ _
  have hn : H1 (hp.objs.size + 1) = none := I1.hok.fresh hsz
  have kk : ∀ b o, hp.get? b = some o → ((hp.push (PySem.W.kdv_tup us)).push (PySem.HandSPX.excO C hp.objs.size)).get? b = some o := fun b o e => Heap.get?_push_of_some _ (Heap.get?_push_of_some _ e)
  have hget : ((hp.push (PySem.W.kdv_tup us)).push (PySem.HandSPX.excO C hp.objs.size)).get? (hp.objs.size + 1) = some (PySem.HandSPX.excO C hp.objs.size) := by heap_get
  have hus : us.length ≤ sizeLine := by
    rw [← Paired.length r1, sizeLine_eq]
    omega
  have hnx : X.K.lookup (hp.objs.size + 1) = none := by
    cases e : X.K.lookup (hp.objs.size + 1) with
    | none => rfl
    | some o =>
      have z : hp.get? (hp.objs.size + 1) = some o := I1.kIn _ _ e
      exact absurd (Nat.lt_of_succ_lt (Heap.lt_size z)) (Nat.lt_irrefl _)
  refine wpAny_call (PySem.HandSPX.call_own F.excBase_ValueError (fun Y => PySem.HandSPX.refsVE_contains Y bm hbm) (I1.kIn _ _ hC) (PySem.W.looks_findIn I1.kIn T.ic) (fun self => PySem.W.bind_fn I1.kIn self T.tf) hus ?_)
  refine IK _ _ ⟨(hp.push (PySem.W.kdv_tup us)).push (PySem.HandSPX.excO C hp.objs.size), g, dr, tk, os⟩ (hp.objs.size + 1) hp.objs.size vs us H1 (I1.kIn.keeps kk) (hlim.keeps kk) (hglob.keeps kk) ⟨mb, hb1'.keeps kk, hb2⟩ hget hnx ?_ ?_ (I1.hok.kept kk) r1 hok fun h' tk' dx t1 mA M hrel => ?_
  · have z := (hr.make C us []).dp
    omega
  · have z := (hr.make C us []).un
    omega
  have hda : dx ≠ hp.objs.size + 1 := M.ne
  have hdn : hp.objs.size ≤ dx := by
    have := M.big
    have e2 : ((hp.push (PySem.W.kdv_tup us)).push (PySem.HandSPX.excO C hp.objs.size)).objs.size = hp.objs.size + 1 + 1 := by rw [Heap.size_push, Heap.size_push]
    have e3 : ((hp.push (PySem.W.kdv_tup us)).push (PySem.HandSPX.excO C hp.objs.size)).objs.size ≤ dx := this
    omega
  obtain ⟨G, g1, g2⟩ := restrict h' fun b => decide (b ≠ hp.objs.size + 1)
  have gk : ∀ b, b ≠ hp.objs.size + 1 → G.get? b = h'.get? b := fun b hb => g1 b (decide_eq_true hb)
  have ge : G.get? (hp.objs.size + 1) = none := g2 _ (by simp)
  have nha : ∀ {b : Addr} {o : Obj}, hp.get? b = some o → b ≠ hp.objs.size + 1 := fun {b o} z => Nat.ne_of_lt (Nat.lt_of_lt_of_le (Heap.lt_size z) hsz)
  have old : ∀ b o, hp.get? b = some o → G.get? b = some o := fun b o z => (gk b (nha z)).trans (M.keep b o (nha z) (kk b o z))
  have nsG : G.Ns1 dx mA := M.ns.at fun o q => (gk dx hda).trans q
  have J : Inv X pins σ (upd H1 dx (exd dx (fs vs))) ⟨G, g, dr, tk', os⟩ := I1.laid (t' := tk') old hdn (exd_ok nsG hrel)
  have hna : upd H1 dx (exd dx (fs vs)) (hp.objs.size + 1) = none := by rw [upd_ne (Ne.symm hda)]; exact hn
  have J2 : Inv X pins σ (upd (upd H1 dx (exd dx (fs vs))) (hp.objs.size + 1) (exo (hp.objs.size + 1) C (some dx))) ⟨h', g, dr, tk', os⟩ :=
    J.laidN (t' := tk') (h' := h') (fun b o z => by
      have hb : b ≠ hp.objs.size + 1 := fun e => by rw [e, ge] at z; cases z
      exact (gk b hb).symm.trans z) ge hna (exo_ok M.obj)
  refine ⟨rfl, .ref (hp.objs.size + 1), _, J2, rfl, q1 _ dx hn (I1.hok.fresh hdn) hda⟩
end
end KE0

namespace KG
open PySem PySem.Spec PyProof.Rows L2 KE0 KA
abbrev iText : Stmt := inClass (top 3) 0
abbrev iLet : Stmt := inClass (top 4) 0
abbrev iRows : Stmt := inClass (top 8) 0
abbrev iVer : Stmt := inClass (top 9) 0
def okInt : Hp → List V → Prop := fun _ vs => ∃ i : Int, vs = [.int i] ∧ i.natAbs < 10 ^ 60
def okDat : Hp → List V → Prop := fun H vs => ∃ (a : Addr) (n : Nat), vs = [.ref a] ∧ Dat H (n + 1) (.ref a) ∧ n ≤ 2
def okInts : Hp → List V → Prop := fun _ vs => ∃ i j : Int, vs = [.int i, .int j] ∧ i.natAbs < 10 ^ 60 ∧ j.natAbs < 10 ^ 60
def f1 (x : Str) : List V → List (Str × V) := fun vs => match vs with | [v] => [(x, v)] | _ => []
def f2 (x y : Str) : List V → List (Str × V) := fun vs => match vs with | [v, u] => [(y, u), (x, v)] | _ => []
section
variable {P : Program} {w : World} {K : PySem.W.Frag} {mg : Str → Option Value} {C f cda cc : Addr}
theorem init_text (T : KC.ErrC P K mg C f cda cc "BadText.__init__" (defArgs iText) (defBody iText) (defScope iText)) (no : PySem.W.findIn K (.ref C) "place" = some none) : InitOk P w K mg C f okInt (f1 "place") := by
  intro A R s x t0 vs us H X hlim hg hb hx hnx hroom hun hok rv ⟨i, ev, hi⟩ hq
  subst ev
  cases rv with
  | cons r rr =>
    cases rr
    obtain ⟨t, rfl⟩ := (show ∃ t, _ = Value.int i t from r)
    refine KC.init_one (fld := "place") (prm := "place") T X hlim hg hb hx hnx hroom no (fun _ _ _ _ => .of_eq rfl) rfl rfl (by decide +kernel) rfl rfl rfl rfl rfl (by decide +kernel) rfl rfl (by decide) (fun L h1 tk E' k1 ⟨m, ns, hm⟩ Q hQ => ?_)
      (fun h' tk dx t1 M => hq h' tk dx t1 _ M (relO_put (fs := []) ⟨t, rfl⟩ fun _ => True.intro)) (fun _ => rfl) (fun _ => rfl) (fun _ => rfl) (fun _ => rfl) (fun _ => rfl)
    exact fstr3 (field_int (P := P) (w := w) (h := s.heap) hi) k1 (by show A.units + 3 + 12 < cLine; omega) rfl rfl ns hm (by decide) (by decide) fun z u tk => hQ z u tk
theorem init_let {st : Stmt} {q : Str} (hst : st = iLet ∧ q = "NotLetBy.__init__" ∨ st = iVer ∧ q = "NotVerified.__init__") (T : KC.ErrC P K mg C f cda cc q (defArgs st) (defBody st) (defScope st)) (no : PySem.W.findIn K (.ref C) "what" = some none) : InitOk P w K mg C f okDat (f1 "what") := by
  intro A R s x t0 vs us H X hlim hg hb hx hnx hroom hun hok rv ⟨a, n, ev, hd, hn⟩ hq
  subst ev
  cases rv with
  | cons r rr =>
    cases rr
    cases (show _ = Value.ref a from r)
    have hs : (60 + 730000 : Nat) ≤ sizeLine := by decide
    rcases hst with ⟨rfl, rfl⟩ | ⟨rfl, rfl⟩
    all_goals
      refine KC.init_one (fld := "what") (prm := "what") T X hlim hg hb hx hnx hroom no (fun _ _ _ _ => .of_eq rfl) rfl rfl (by decide +kernel) rfl rfl rfl rfl rfl (by decide +kernel) rfl rfl (by decide) (fun L h1 tk E' k1 ⟨m, ns, hm⟩ Q hQ => ?_)
        (fun h' tk dx t1 M => hq h' tk dx t1 _ M (relO_put (fs := []) (y := .ref a) rfl fun _ => True.intro)) (fun _ => rfl) (fun _ => rfl) (fun _ => rfl) (fun _ => rfl) (fun _ => rfl)
      exact fstr2 (field_tup hok hd hn) k1 (by show A.units + 3 + 12 < cLine; omega) rfl rfl ns hm (by decide) (by decide) fun z u tk => hQ z u tk
theorem init_rows (T : KC.ErrC P K mg C f cda cc "BadRows.__init__" (defArgs iRows) (defBody iRows) (defScope iRows)) (no : PySem.W.findIn K (.ref C) "row" = some none) (no2 : PySem.W.findIn K (.ref C) "word" = some none) : InitOk P w K mg C f okInts (f2 "row" "word") := by
  intro A R s x t0 vs us H X hlim hg hb hx hnx hroom hun hok rv ⟨i, j, ev, hi, hj⟩ hq
  subst ev
  cases rv with
  | cons r rr =>
    cases rr with
    | cons r2 rr =>
      cases rr
      obtain ⟨t, rfl⟩ := (show ∃ t, _ = Value.int i t from r)
      obtain ⟨t2, rfl⟩ := (show ∃ t, _ = Value.int j t from r2)
      refine KC.init_two (fld := "row") (prm := "row") (fld2 := "word") (prm2 := "word") rfl T X hlim hg hb hx hnx hroom no no2 (fun _ _ _ _ => .of_eq rfl) rfl rfl (by decide +kernel) (by decide +kernel) (by decide +kernel) rfl rfl rfl rfl rfl rfl (by decide +kernel) rfl rfl (by decide) (by decide) (fun L h1 tk E' k1 ⟨m, ns, hm, hm2⟩ Q hQ => ?_)
        (fun h' tk dx t1 M => hq h' tk dx t1 _ M (relO_put (fs := [("row", .int i)]) ⟨t2, rfl⟩ (relO_put (fs := []) ⟨t, rfl⟩ fun _ => True.intro))) (fun _ => rfl) (fun _ => rfl) (fun _ => rfl) (fun _ => rfl) (fun _ => rfl) (fun _ => rfl)
      exact fstr5 (field_int (P := P) (w := w) (h := s.heap) hi) (field_int hj) k1 (by show A.units + 3 + 12 < cLine; omega) rfl rfl rfl ns hm hm2 (by decide) (by decide) (by decide) fun z u tk => hQ z u tk
end
end KG

/-! Own errors as values: their fields, isinstance. -/
namespace KV
open PySem PySem.Spec PyProof.Rows L2 KE0
/-- what the written part says of an own error class D, for attributes and isinstance -/
structure ErrG (K : PySem.W.Frag) (D : Addr) : Prop where
  ga : PySem.W.findIn K (.ref D) "__getattribute__" = some (some (.builtin "BaseException.__getattribute__"))
  gt : PySem.W.findIn K (.ref D) "__getattr__" = some none
  sb : PySem.W.subIn K (.ref D) (.type "BaseException") = some true
  hd : PySem.W.hasDictIn K D = true
  ca : PySem.W.findIn K (.ref D) "__class__" = some (some (.builtin "object.__class__"))
  cn : PySem.W.specialIn K (.builtin "object.__class__") "__get__" = some (some (.builtin "getset_descriptor.__get__"))
  ct : PySem.W.takesIn K (.builtin "object.__class__") = some true
  mo : PySem.W.mroIn K D (.type "object") = some true
theorem ErrG.isc {K : PySem.W.Frag} {D : Addr} (G : ErrG K D) : (PySem.W.clsIn K D).isSome = true := by
  obtain ⟨cd, hc, _⟩ := PySem.W.any_some G.hd
  rw [hc]
  rfl
/-- an error of the class C at a; its fields fs -/
def ErrAt (H : Hp) (a C : Addr) (fs : List (Str × V)) : Prop := (H a = some (ExO (.ref C) a) ∧ fs = []) ∨ ∃ d, H a = some (exo a C (some d)) ∧ H d = some (exd d fs)
theorem ErrAt.keep {H H' : Hp} {a C : Addr} {fs : List (Str × V)} (e : ErrAt H a C fs) (s : ∀ b o, H b = some o → H' b = some o) : ErrAt H' a C fs := by
  rcases e with ⟨h, z⟩ | ⟨d, h1, h2⟩
  · exact .inl ⟨s _ _ h, z⟩
  · exact .inr ⟨d, s _ _ h1, s _ _ h2⟩
theorem ErrAt.some {H : Hp} {a C : Addr} {fs : List (Str × V)} (e : ErrAt H a C fs) : ∃ o, H a = some o := by
  rcases e with ⟨h, z⟩ | ⟨d, h1, h2⟩
  · exact ⟨_, h⟩
  · exact ⟨_, h1⟩
section
variable {X : Cx}
/-- e.f, e an own error -/
theorem pe_efld {e : Expr} {te : TE} {f : Str} {pos : Pos} (he : PE X e te) (hb : attributeBase e f X.env (eval e X.env) = eval e X.env := by rfl) :
    PE X (.Attribute e f pos) (fun σ H Q => te σ H fun x H1 => ∃ (a C : Addr) (fs : List (Str × V)) (v : V), x = .ref a ∧ ErrAt H1 a C fs ∧ ErrG X.K C ∧ PySem.W.findIn X.K (.ref C) f = some none ∧ fs.lookup f = some v ∧ Q v H1) := by
  refine ⟨fun pins s σ H Q I h => ?_⟩
  refine attr_of hb (thn (he.run pins s σ H _ I h) fun u s1 hh => ?_)
  obtain ⟨x, H1, I1, rx, a, C, fs, v, ex, ea, G, hno, hl, q⟩ := hh
  subst ex
  obtain rfl : u = Value.ref a := rx
  rcases ea with ⟨_, e0⟩ | ⟨d, e1, e2⟩
  · rw [e0] at hl
    cases hl
  · obtain ⟨t1, ho⟩ := exo_at I1.hok e1
    obtain ⟨mA, hns, rel⟩ := exd_at I1.hok e2
    obtain ⟨od, hod, hlk⟩ := lookIn_ns hns
    obtain ⟨u, hu, ru⟩ := RelO.some_of (v := v) (o := mA f) (by rw [← hl]; exact rel f)
    have J : PySem.W.InstAt s1.heap a { cls := .ref C, dict := some d, data := .fields #[.ref t1, .none, .none, .none, .bool false, .none] } C (some od) := ⟨ho, rfl, rfl, hod⟩
    exact HandSPX.exc_get I1.kIn J G.ga G.gt G.sb (PySem.W.findObj_own G.hd hno rfl (by rw [hlk, hu])) (handed_of ru) ⟨v, H1, I1.tok _, ru, q⟩
/-- isinstance(e, c), e an own error -/
theorem call_isErr : CallR X (.builtin "isinstance") (fun xs H Q => ∃ (a C : Addr) (fs : List (Str × V)) (c : V) (cv : Value) (b : Bool), xs = [.ref a, c] ∧ ClsV c cv ∧ ErrAt H a C fs ∧ ErrG X.K C ∧ PySem.W.kitOne X.K (.ref C) cv = some b ∧ Q (.bl b) H) := by
  intro pins s σ H xs us Q I r h
  obtain ⟨a, C, fs, c, cv, b, rfl, hcv, ea, G, e, q⟩ := h
  obtain ⟨u1, u2, rfl, r1, r2⟩ := vals2 r
  cases (show u1 = Value.ref a from r1)
  have ec := hcv.eq r2
  subst ec
  have fin : ∀ {ox : Obj} {od : Option Obj}, PySem.W.InstAt s.heap a ox C od → wpAny (model X.prog X.w) X.A (call (.builtin "isinstance") [.ref a, u2]) (EP X pins σ Q) X.xe s := fun J =>
    PySem.W.kia_one (PySem.W.kitx_exc G.isc G.ga G.gt G.sb G.ca G.cn G.ct G.mo) I.kIn J e (fun z => nomatch z) fun tk => ⟨.bl b, H, I.tok tk, rfl, q⟩
  rcases ea with ⟨e0, _⟩ | ⟨d, e1, e2⟩
  · obtain ⟨⟨oe, vs, ho, hz, hd, _⟩, _, _⟩ := (show ObjOk X.prog X.w H s.heap a (ExO (.ref C) a) from I.hok a _ e0)
    obtain ⟨oc, oda, odt, osl⟩ := oe
    obtain ⟨h1, h2⟩ := hz
    dsimp only at h1 h2 hd
    subst h1 h2 hd
    exact fin (od := none) ⟨ho, rfl, rfl, trivial⟩
  · obtain ⟨t1, ho⟩ := exo_at I.hok e1
    obtain ⟨mA, hns, rel⟩ := exd_at I.hok e2
    obtain ⟨od, hod, hlk⟩ := lookIn_ns hns
    exact fin (od := some od) ⟨ho, rfl, rfl, hod⟩
end
end KV

/-! Data whose tuples are tracked; _law_alike of one and the same data. -/
namespace KI
open PySem PySem.Spec PyProof.Rows L2 KA
mutual
inductive Dv (H : Hp) : V → PyData → Prop
  | non : Dv H .non .none
  | bl (b : Bool) : Dv H (.bl b) (.bool b)
  | int (i : Int) : Dv H (.int i) (.int i)
  | str (z : Str) : Dv H (.str z) (.str z)
  | tup {a : Addr} {xs : List V} {ds : List PyData} (h : H a = some (.tup xs)) (r : DvAll H xs ds) : Dv H (.ref a) (.tuple ds)
inductive DvAll (H : Hp) : List V → List PyData → Prop
  | nil : DvAll H [] []
  | cons {v : V} {vs : List V} {d : PyData} {ds : List PyData} (h : Dv H v d) (r : DvAll H vs ds) : DvAll H (v :: vs) (d :: ds)
end
mutual
theorem Dv.dp (K : PySem.W.Frag) {H : Hp} : ∀ {v : V} {d : PyData}, Dv H v d → Dp K H v d
  | _, _, .non => .non
  | _, _, .bl b => .bl b
  | _, _, .int i => .int i
  | _, _, .str z => .str z
  | _, _, .tup h r => .tup (SqT.of h) (DvAll.dp K r)
theorem DvAll.dp (K : PySem.W.Frag) {H : Hp} : ∀ {vs : List V} {ds : List PyData}, DvAll H vs ds → DpAll K H vs ds
  | _, _, .nil => .nil
  | _, _, .cons h r => .cons (Dv.dp K h) (DvAll.dp K r)
end
def TupSame (H H' : Hp) : Prop := ∀ a xs, H a = some (.tup xs) → H' a = some (.tup xs)
mutual
theorem Dv.same {H H' : Hp} (s : TupSame H H') : ∀ {v : V} {d : PyData}, Dv H v d → Dv H' v d
  | _, _, .non => .non
  | _, _, .bl b => .bl b
  | _, _, .int i => .int i
  | _, _, .str z => .str z
  | _, _, .tup h r => .tup (s _ _ h) (DvAll.same s r)
theorem DvAll.same {H H' : Hp} (s : TupSame H H') : ∀ {vs : List V} {ds : List PyData}, DvAll H vs ds → DvAll H' vs ds
  | _, _, .nil => .nil
  | _, _, .cons h r => .cons (Dv.same s h) (DvAll.same s r)
end
theorem DvAll.len {H : Hp} : ∀ {vs : List V} {ds : List PyData}, DvAll H vs ds → vs.length = ds.length
  | _, _, .nil => rfl
  | _, _, .cons h r => congrArg (· + 1) r.len
theorem DvAll.get {H : Hp} : ∀ {vs : List V} {ds : List PyData} {i : Nat} {v : V} {d : PyData}, DvAll H vs ds → vs[i]? = some v → ds[i]? = some d → Dv H v d
  | _, _, _, _, _, .nil, h, _ => by simp at h
  | _, _, 0, _, _, .cons h r, e1, e2 => by
    simp at e1 e2
    rw [← e1, ← e2]
    exact h
  | _, _, i + 1, _, _, .cons h r, e1, e2 => r.get (i := i) (by simpa using e1) (by simpa using e2)
mutual
def nodes : PyData → Nat
  | .tuple ds => 1 + nodesAll ds
  | _ => 1
def nodesAll : List PyData → Nat
  | [] => 0
  | d :: ds => nodes d + nodesAll ds
end
theorem nodesAll_append : ∀ a b : List PyData, nodesAll (a ++ b) = nodesAll a + nodesAll b
  | [], b => by simp [nodesAll]
  | d :: a, b => by
    show nodes d + nodesAll (a ++ b) = nodes d + nodesAll a + nodesAll b
    rw [nodesAll_append a b]
    omega
theorem nodes_pos : ∀ d : PyData, 1 ≤ nodes d
  | .tuple ds => by show 1 ≤ 1 + nodesAll ds; omega
  | .none => Nat.le_refl _
  | .bool _ => Nat.le_refl _
  | .int _ => Nat.le_refl _
  | .str _ => Nat.le_refl _
  | .list _ => Nat.le_refl _
  | .dict _ => Nat.le_refl _
theorem len_le : ∀ ds : List PyData, ds.length ≤ nodesAll ds
  | [] => Nat.le_refl _
  | d :: ds => by
    have h1 := nodes_pos d
    have h2 := len_le ds
    show ds.length + 1 ≤ nodes d + nodesAll ds
    omega
/-- d may be compared -/
def Good (d : PyData) : Prop := d.canLay0 = true ∧ d.depth ≤ 20
theorem canAll {ds : List PyData} : PyData.canLayAll0 ds = true ↔ ∀ d ∈ ds, d.canLay0 = true := by
  induction ds with
  | nil => simp [PyData.canLayAll0]
  | cons d ds ih => simp [PyData.canLayAll0, ih]
theorem depthAll_le {ds : List PyData} {n : Nat} : PyData.depthAll ds ≤ n ↔ ∀ d ∈ ds, d.depth ≤ n := by
  induction ds with
  | nil => simp [PyData.depthAll]
  | cons d ds ih =>
    simp only [PyData.depthAll, List.mem_cons, forall_eq_or_imp]
    rw [← ih]
    omega
theorem Good.sub {ds : List PyData} (g : Good (.tuple ds)) : ∀ d ∈ ds, Good d := fun d hd => by
  obtain ⟨g1, g2⟩ := g
  have e1 : PyData.canLayAll0 ds = true := by simpa [PyData.canLay0] using g1
  have e2 : PyData.depthAll ds + 1 ≤ 20 := by simpa [PyData.depth] using g2
  exact ⟨canAll.mp e1 d hd, depthAll_le.mp (show PyData.depthAll ds ≤ 20 by omega) d hd⟩
/-- the pairs that are still to be compared -/
def two (d : PyData) : PyData := .tuple [d, d]
theorem two_all {ds : List PyData} (g : ∀ d ∈ ds, Good d) : SeqAt.shaped (.list (ds.map two)) = true := by
  have e1 : PyData.canLayAll0 (ds.map two) = true := canAll.mpr fun d hd => by
    obtain ⟨e, he, rfl⟩ := List.mem_map.mp hd
    have := (g e he).1
    simp [two, PyData.canLay0, PyData.canLayAll0, this]
  have e2 : PyData.depthAll (ds.map two) ≤ 21 := depthAll_le.mpr fun d hd => by
    obtain ⟨e, he, rfl⟩ := List.mem_map.mp hd
    have := (g e he).2
    simp [two, PyData.depth, PyData.depthAll]
    omega
  unfold SeqAt.shaped
  simp [PyData.canLay0, PyData.depth, e1]
  omega
def isT : PyData → Bool
  | .tuple _ => true
  | _ => false
def isB : PyData → Bool
  | .bool _ => true
  | _ => false
/-- its type, as isinstance asks -/
theorem Dv.ty {K : PySem.W.Frag} {H : Hp} {v : V} {d : PyData} (h : Dv H v d) : ∃ t : String, TyX K H v (.type t) ∧ PySem.W.kitOne K (.type t) (.type "bool") = some (isB d) ∧ PySem.W.kitOne K (.type t) (.type "tuple") = some (isT d) := by
  cases h with
  | non => exact ⟨"NoneType", .base .non, kit_ty (show kitB "NoneType" "bool" = some false by decide +kernel), kit_ty (show kitB "NoneType" "tuple" = some false by decide +kernel)⟩
  | bl b => exact ⟨"bool", .base (.bl b), kit_ty (show kitB "bool" "bool" = some true by decide +kernel), kit_ty (show kitB "bool" "tuple" = some false by decide +kernel)⟩
  | int i => exact ⟨"int", .base (.int i), kit_ty (show kitB "int" "bool" = some false by decide +kernel), kit_ty (show kitB "int" "tuple" = some false by decide +kernel)⟩
  | str z => exact ⟨"str", .base (.str z), kit_ty (show kitB "str" "bool" = some false by decide +kernel), kit_ty (show kitB "str" "tuple" = some false by decide +kernel)⟩
  | tup h r => exact ⟨"tuple", .base (.tup h), kit_ty (show kitB "tuple" "bool" = some false by decide +kernel), kit_ty (show kitB "tuple" "tuple" = some true by decide +kernel)⟩
theorem Dv.leaf {H : Hp} {v u : V} {d : PyData} (h : Dv H v d) (h2 : Dv H u d) (ht : isT d = false) : v = u ∧ scal v u = true := by
  cases h with
  | non => cases h2; exact ⟨rfl, rfl⟩
  | bl b => cases h2; exact ⟨rfl, rfl⟩
  | int i => cases h2; exact ⟨rfl, rfl⟩
  | str z => cases h2; exact ⟨rfl, rfl⟩
  | tup h r => cases ht
end KI

namespace KI
open PySem PySem.Spec PyProof.Rows L2 KA
abbrev sAlike : Stmt := top 32
theorem scAlike : FnScope ["_law_found", "_law_due", "_law_left", "_law_one_here", "_law_other", "_law_k"] ["_law_found", "_law_due"] (defScope sAlike) := ⟨rfl, rfl, rfl, by decide +kernel, rfl, by decide +kernel, by decide +kernel⟩
/-- both are the same data: True -/
def spAlike : Sp := fun vs H Q _ => ∃ (x y : V) (d : PyData), vs = [x, y] ∧ Dv H x d ∧ Dv H y d ∧ Good d ∧ nodes d ≤ 1000 ∧ ∀ H', Same H H' → Q (.bl true) H'
/-- what is still to be compared: pairs at ps, of the data ds -/
structure Left (H : Hp) (l : Addr) (ps : List V) (ds : List PyData) : Prop where
  at_ : H l = some (.lst ps)
  all : DvAll H ps (ds.map two)
  good : ∀ d ∈ ds, Good d
theorem DvAll.app {H : Hp} : ∀ {vs us : List V} {ds es : List PyData}, DvAll H vs ds → DvAll H us es → DvAll H (vs ++ us) (ds ++ es)
  | _, _, _, _, .nil, b => b
  | _, _, _, _, .cons h r, b => .cons h (r.app b)
theorem DvAll.split {H : Hp} : ∀ {ds : List PyData} {e : PyData} {vs : List V}, DvAll H vs (ds ++ [e]) → ∃ us v, vs = us ++ [v] ∧ DvAll H us ds ∧ Dv H v e
  | [], e, _, .cons h .nil => ⟨[], _, rfl, .nil, h⟩
  | d :: ds, e, _, .cons h r => by
    obtain ⟨us, v, e1, r1, h1⟩ := r.split (ds := ds)
    exact ⟨_ :: us, v, by rw [e1]; rfl, .cons h r1, h1⟩
section
variable {P : Program} {w : World} {K : PySem.W.Frag} {mg : Str → Option Value} {base : Heap}
theorem ok_alike {f : Addr} {fd : FuncData} (F : Fun K "_law_alike" "_law_alike" sAlike f fd) (mIsi : mg "isinstance" = none) (mBool : mg "bool" = none) (mTup : mg "tuple" = none) (mLen : mg "len" = none) (mRng : mg "range" = none) :
    FnOk P w K mg base CX0 1 f fd ["_law_found", "_law_due"] spAlike := by
  refine F.ok scAlike (fun vs H Q E h => ?_) (fun cdv A outer s H vs Q E hr h => ?_)
  · obtain ⟨x, y, d, rfl, _⟩ := h
    rfl
  · obtain ⟨x, y, d, rfl, hx, hy, hg, hn, q⟩ := h
    refine ⟨_, pss_cons (ps_set (i := 2) scAlike.nd rfl (Or.inl rfl) (pe_lst (pa_cons (pe_tup (pa_cons (pv 0) (pa_cons (pv 1) pa_nil))) pa_nil)))
      (pss_cons (ps_while PassesOwn.never (pt_cmpR (op_neD hr.units) (pv 2) (pe_lst pa_nil) (nomark _))
        (pss_cons (ps_asg (pe_bm0 PySem.F.plainAttrs_list PySem.F.slot_list_pop PySem.F.type_list_pop mt_pop (pv 2)) (pg_tup rfl (pgs_cons (pg_name (i := 3) scAlike.nd rfl (Or.inr rfl)) (pgs_cons (pg_name (i := 4) scAlike.nd rfl (Or.inr rfl)) pgs_nil))))
        (pss_cons (ps_if (PW.pt (pw_or (pt_cmpR op_ne (pe_callB call_isi (by rfl) mIsi (by decide +kernel) (pa_cons (pv 3) (pa_cons (pe_bltn (by rfl) mBool (v := .ty "bool") (by decide +kernel) rfl) pa_nil))) (pe_callB call_isi (by rfl) mIsi (by decide +kernel) (pa_cons (pv 4) (pa_cons (pe_bltn (by rfl) mBool (v := .ty "bool") (by decide +kernel) rfl) pa_nil))) (nomark _))
            (pw_or1 (pt_cmpR op_ne (pe_callB call_isi (by rfl) mIsi (by decide +kernel) (pa_cons (pv 3) (pa_cons (pe_bltn (by rfl) mTup (v := .ty "tuple") (by decide +kernel) rfl) pa_nil))) (pe_callB call_isi (by rfl) mIsi (by decide +kernel) (pa_cons (pv 4) (pa_cons (pe_bltn (by rfl) mTup (v := .ty "tuple") (by decide +kernel) rfl) pa_nil))) (nomark _)))))
          (pss_one (ps_ret pe_bl)) pss_nil)
        (pss_one (ps_if (pt_val (pe_callB call_isi (by rfl) mIsi (by decide +kernel) (pa_cons (pv 4) (pa_cons (pe_bltn (by rfl) mTup (v := .ty "tuple") (by decide +kernel) rfl) pa_nil))))
          (pss_cons (ps_if (pt_cmpR op_ne (pe_callB call_len (by rfl) mLen PySem.boot_len (pa_cons (pv 3) pa_nil)) (pe_callB call_len (by rfl) mLen PySem.boot_len (pa_cons (pv 4) pa_nil)) (nomark _)) (pss_one (ps_ret pe_bl)) pss_nil)
          (pss_one (ps_expr (pe_bm PySem.F.plainAttrs_list PySem.F.slot_list_extend PySem.F.type_list_extend mt_extend (pv 2)
            (pa_cons (pe_lc (own := [("_law_k", 5)]) (g := gName 5) (tt := tYes) (te := tTup (tCons (tOp (rIxT K) (tVar 3) (tVar 5)) (tCons (tOp (rIxT K) (tVar 4) (tVar 5)) tNil))) rfl scAlike.nd (pi_range1 (by rfl) mRng (pa_cons (pe_callB call_len (by rfl) mLen PySem.boot_len (pa_cons (pv 4) pa_nil)) pa_nil))
              (blkOk_by (N := ["_law_found", "_law_due", "_law_left", "_law_one_here", "_law_other", "_law_k"]) (sc := defScope sAlike) (by decide +kernel)) (fun _ _ _ _ _ => pg_name (i := 5) scAlike.nd rfl (Or.inl rfl)) (fun _ _ _ _ _ => pts_nil)
              (fun _ _ _ _ _ => pe_tup (pa_cons (pe_ix ix_tup (pv 3) (pv 5) (fun _ _ => rfl)) (pa_cons (pe_ix ix_tup (pv 4) (pv 5) (fun _ _ => rfl)) pa_nil)))) pa_nil)))))
          (pss_one (ps_if (pt_cmpR op_ne (pv 3) (pv 4) (nomark _)) (pss_one (ps_ret pe_bl)) pss_nil)))))))
      (pss_one (ps_ret pe_bl))), ?_⟩
    have same_new : ∀ {H1 : Hp} {p : Addr} {o : HO}, H1 p = none → Same H1 (upd H1 p o) := fun h b u e => by rw [upd_ne (ne_of_none e h)]; exact e
    have same_at : ∀ {H1 : Hp} {p : Addr} {o : HO}, H p = none → Same H H1 → Same H (upd H1 p o) := fun h s b u e => by rw [upd_ne (ne_of_none e h)]; exact s b u e
    have tups : ∀ {H1 H2 : Hp}, Same H1 H2 → TupSame H1 H2 := fun s a xs e => s _ _ e
    have tup_at : ∀ {H1 : Hp} {p : Addr} {ps : List V} {o : HO}, H1 p = some (.lst ps) → TupSame H1 (upd H1 p o) := fun h a xs e => by
      rw [upd_ne (ne_of e h (by intro z; cases z))]
      exact e
    refine ⟨_, rfl, _, rfl, (by show 2 ≤ sizeLine; decide), fun t nt => ⟨(by show 1 ≤ sizeLine; decide), fun l nl => ?_⟩⟩
    have lt : l ≠ t := fun e => by rw [e, upd_same] at nl; cases nl
    have hl : H l = none := by rw [upd_ne lt] at nl; exact nl
    have s1 : Same H (upd (upd H t (.tup [x, y])) l (.lst [.ref t])) := same_at hl (same_new nt)
    refine ⟨fun m σ H2 => ∃ (ds : List PyData) (ps : List V) (o3 o4 o5 : Option V), σ = [some x, some y, some (.ref l), o3, o4, o5] ∧ Left H2 l ps ds ∧ nodesAll ds = m ∧ m ≤ 1000 ∧ Same H H2,
      ⟨nodes d, [d], [.ref t], none, none, none, rfl, ⟨upd_same, ?_, ?_⟩, by show nodes d + 0 = _; omega, hn, s1⟩, ?_⟩
    · refine .cons (.tup (xs := [x, y]) (by rw [upd_ne lt.symm, upd_same]) (.cons ?_ (.cons ?_ .nil))) .nil
      · exact Dv.same (tups s1) hx
      · exact Dv.same (tups s1) hy
    · intro d' hd'
      rw [List.mem_singleton.mp hd']
      exact hg
    rintro m σ H2 ⟨ds, ps, o3, o4, o5, rfl, hL, em, hm, hS⟩
    -- left != []
    refine ⟨_, rfl, Nat.zero_le _, fun e ne => ?_⟩
    have le : l ≠ e := ne_of_none hL.at_ ne
    have s2 : Same H2 (upd H2 e (.lst [])) := same_new ne
    refine ⟨.list (ds.map two), .list [], .lst (SqL.of (by rw [upd_ne le]; exact hL.at_)) ((hL.all.same (tups s2)).dp K), .lst (SqL.of upd_same) .nil, two_all hL.good, by decide +kernel, ?_⟩
    have hS2 : Same H (upd H2 e (.lst [])) := hS.trans s2
    have hL2 : Left (upd H2 e (.lst [])) l ps ds := ⟨by rw [upd_ne le]; exact hL.at_, hL.all.same (tups s2), hL.good⟩
    generalize upd H2 e (.lst []) = H3 at hS2 hL2
    rcases List.eq_nil_or_concat ds with e0 | ⟨es, d', e0⟩
    · subst e0
      refine ⟨false, by simp [PyData.eqv, PyData.eqvAll], iteF ?_⟩
      exact q _ hS2
    · rw [List.concat_eq_append] at e0
      subst e0
      refine ⟨true, ?_, iteT ?_⟩
      · cases es <;> simp [PyData.eqv, PyData.eqvAll]
      obtain ⟨qs, v, e1, hq, hv⟩ := DvAll.split (ds := es.map two) (e := two d') (by have := hL2.all; rw [List.map_append] at this; exact this)
      subst e1
      cases hv with
      | @tup a xs _ ha hxs =>
      cases hxs with
      | @cons v3 _ _ _ h3 hr =>
      cases hr with
      | @cons v4 _ _ _ h4 hr =>
      cases hr
      have gd : Good d' := hL2.good d' (by simp)
      rw [nodesAll_append] at em
      have en : nodesAll [d'] = nodes d' := by show nodes d' + 0 = _; omega
      rw [en] at em
      refine ⟨fun σ' H' => ∃ (ds' : List PyData) (ps' : List V) (o3 o4 o5 : Option V), σ' = [some x, some y, some (.ref l), o3, o4, o5] ∧ Left H' l ps' ds' ∧ nodesAll ds' < m ∧ Same H H', ?_, ?_⟩
      · rintro σ' H' ⟨ds', ps', p3, p4, p5, rfl, hL', hm', hS'⟩
        exact ⟨nodesAll ds', hm', ds', ps', p3, p4, p5, rfl, hL', rfl, by omega, hS'⟩
      -- pop
      refine ⟨_, rfl, .inl ⟨rfl, _, SqL.of hL2.at_⟩, l, qs ++ [.ref a], .ref a, rfl, rfl, hL2.at_, by simp, ?_⟩
      rw [List.dropLast_concat]
      have al : a ≠ l := ne_of ha hL2.at_ (by intro z; cases z)
      have t4 : TupSame H3 (upd H3 l (.lst qs)) := tup_at hL2.at_
      have hS4 : Same H (upd H3 l (.lst qs)) := same_at hl hS2
      have ha4 := t4 _ _ ha
      have h34 := Dv.same t4 h3
      have h44 := Dv.same t4 h4
      have hq4 := hq.same t4
      have hl4 : (upd H3 l (.lst qs)) l = some (.lst qs) := upd_same
      generalize upd H3 l (.lst qs) = H4 at hS4 ha4 h34 h44 hq4 hl4
      refine ⟨a, [v3, v4], rfl, SqT.of ha4, rfl, v3, [v4], rfl, v4, [], rfl, rfl, ?_⟩
      obtain ⟨t3, ty3, kb3, kt3⟩ := h34.ty (K := K)
      obtain ⟨t4', ty4, kb4, kt4⟩ := h44.ty (K := K)
      refine ⟨_, rfl, _, _, _, _, _, rfl, .ty _, ty3, kb3, _, rfl, _, _, _, _, _, rfl, .ty _, ty4, kb4, rfl, false, by simp, iteF ?_⟩
      refine ⟨_, rfl, _, _, _, _, _, rfl, .ty _, ty3, kt3, _, rfl, _, _, _, _, _, rfl, .ty _, ty4, kt4, rfl, false, by simp, iteF ?_⟩
      refine ⟨_, rfl, _, _, _, _, _, rfl, .ty _, ty4, kt4, isT d', rfl, ?_⟩
      cases et : isT d' with
      | false =>
        refine iteF ?_
        obtain ⟨e34, hs34⟩ := h34.leaf h44 et
        refine ⟨_, rfl, _, rfl, hs34, false, by simp [e34], iteF ?_⟩
        exact ⟨es, qs, _, _, _, rfl, ⟨hl4, hq4, fun d hd => hL2.good d (by simp [hd])⟩, by have := nodes_pos d'; omega, hS4⟩
      | true =>
        refine iteT ?_
        obtain ⟨ds, rfl⟩ : ∃ ds, d' = .tuple ds := by
          cases d' <;> first | exact ⟨_, rfl⟩ | cases et
        cases h34 with
        | @tup a3 xs3 _ ha3 r3 =>
        cases h44 with
        | @tup a4 xs4 _ ha4' r4 =>
        have l3 := r3.len
        have l4 := r4.len
        refine ⟨_, rfl, .ref a3, xs3.length, rfl, .inr ⟨_, SqT.of ha3, rfl⟩, _, rfl, .ref a4, xs4.length, rfl, .inr ⟨_, SqT.of ha4', rfl⟩, rfl, false, by simp [l3, l4], iteF ?_⟩
        have hnd : nodes (.tuple ds) = 1 + nodesAll ds := rfl
        have hsz := len_le ds
        -- the pairs of the items
        refine ⟨_, rfl, .inl ⟨rfl, _, SqL.of hl4⟩, _, rfl, .ref a4, xs4.length, rfl, .inr ⟨_, SqT.of ha4', rfl⟩, (xs4.length : Int), rfl, by omega, by omega, fun D nD => ?_⟩
        have hlD : l ≠ D := ne_of_none hl4 nD
        have hDn : H D = none := hS4.free nD
        refine lc_range (n := (xs4.length : Int).toNat) (lo := 0) (fun i H5 => ∃ acc, H5 D = some (.lst acc) ∧ DvAll H5 acc ((ds.take i).map two) ∧ Same H4 H5) ⟨[], upd_same, .nil, same_new nD⟩ ?_ ?_
        · rintro i H5 hi ⟨acc, hacc, hdv, hS5⟩
          have hi4 : i < xs4.length := by omega
          have hi3 : i < xs3.length := by omega
          have hid : i < ds.length := by omega
          refine ⟨rfl, iteT (B := ∃ acc, H5 D = some (HO.lst acc) ∧ DvAll H5 acc (List.map two (List.take (i + 1) ds)) ∧ Same H4 H5) ?_⟩
          have hlen : acc.length = i := by
            have := hdv.len
            rw [List.length_map, List.length_take] at this
            omega
          have hD5 : ∀ {b : Addr} {o : HO}, H4 b = some o → b ≠ D := fun e => ne_of_none e nD
          refine ⟨_, rfl, _, rfl, a3, xs3, _, xs3[i], rfl, rfl, SqT.of (hS5 _ _ ha3), atI_nat (by simp [List.getElem?_eq_getElem hi3]), ?_⟩
          refine ⟨_, rfl, _, rfl, a4, xs4, _, xs4[i], rfl, rfl, SqT.of (hS5 _ _ ha4'), atI_nat (by simp [List.getElem?_eq_getElem hi4]), ?_⟩
          refine ⟨by show 2 ≤ sizeLine; decide, fun p np => ?_⟩
          have pD : D ≠ p := ne_of_none hacc np
          refine ⟨acc, by rw [upd_ne pD]; exact hacc, Nat.lt_of_le_of_lt (by omega) (small1000 (n := 1000) (by omega)), acc ++ [.ref p], upd_same, ?_, fun b o e => ?_⟩
          · have t6 : TupSame H5 (upd (upd H5 p (.tup [xs3[i], xs4[i]])) D (.lst (acc ++ [.ref p]))) := fun b xs e => by
              rw [upd_ne (ne_of e hacc (by intro z; cases z)), upd_ne (ne_of_none e np)]
              exact e
            rw [List.take_add_one, List.getElem?_eq_getElem hid, List.map_append]
            refine (hdv.same t6).app (.cons (.tup (xs := [xs3[i], xs4[i]]) (by rw [upd_ne pD.symm, upd_same]) (.cons ?_ (.cons ?_ .nil))) .nil)
            · exact ((r3.get (List.getElem?_eq_getElem hi3) (List.getElem?_eq_getElem hid)).same (tups hS5)).same t6
            · exact ((r4.get (List.getElem?_eq_getElem hi4) (List.getElem?_eq_getElem hid)).same (tups hS5)).same t6
          · rw [upd_ne (hD5 e), upd_ne (ne_of_none (hS5 b o e) np)]
            exact hS5 b o e
        · rintro H5 ⟨acc, hacc, hdv, hS5⟩
          have hnt : (xs4.length : Int).toNat = ds.length := by omega
          rw [hnt, List.take_length] at hdv
          have hl5 := hS5 _ _ hl4
          have hq5 := hq4.same (tups hS5)
          refine ⟨l, D, qs, acc, rfl, rfl, hl5, hacc, ?_, es ++ ds, qs ++ acc, _, _, _, rfl, ⟨upd_same, ?_, fun d hd => ?_⟩, by rw [nodesAll_append]; omega, same_at hl (hS4.trans hS5)⟩
          · have e1 := hq5.len
            have e2 := hdv.len
            have e3 := len_le es
            rw [List.length_map] at e1 e2
            exact Nat.le_of_lt (small1000 (by omega))
          · rw [List.map_append]
            exact (hq5.app hdv).same (tup_at hl5)
          · rcases List.mem_append.mp hd with hd | hd
            · exact hL2.good d (by simp [hd])
            · exact gd.sub d hd
end
end KI

namespace KK
open PySem PySem.Spec PyProof.Rows L2 KA KI
abbrev sPlace : Stmt := top 33
abbrev sWhat : Stmt := top 34
theorem scPlace : FnScope ["_law_feed_here"] ["_law_feed_here"] (defScope sPlace) := ⟨rfl, rfl, rfl, by decide +kernel, rfl, by decide +kernel, by decide +kernel⟩
theorem scWhat : FnScope ["_law_feed_here", "_law_where"] ["_law_feed_here"] (defScope sWhat) := ⟨rfl, rfl, rfl, by decide +kernel, rfl, by decide +kernel, by decide +kernel⟩
/-- all but p is kept -/
def Kept (p : Addr) (H H' : Hp) : Prop := ∀ b o, b ≠ p → H b = some o → H' b = some o
theorem Kept.trans {p : Addr} {H H1 H2 : Hp} (a : Kept p H H1) (b : Kept p H1 H2) : Kept p H H2 := fun c o n h => b c o n (a c o n h)
theorem Kept.of_but {p : Addr} {H H' : Hp} (b : But p H H') : Kept p H H' := fun c o n h => (b c n).trans h
theorem Kept.of_same {p : Addr} {H H' : Hp} (b : Same H H') : Kept p H H' := fun c o n h => b c o h
theorem Kept.new {p q : Addr} {H : Hp} {o : HO} (h : H q = none) : Kept p H (upd H q o) := fun b u n e => by rw [upd_ne (ne_of_none e h)]; exact e
theorem Kept.tups {p : Addr} {H H' : Hp} {n : Nat} (k : Kept p H H') (hF : FeedAt H p n) : TupSame H H' := fun a xs e => by
  obtain ⟨x, y, z, h, _⟩ := hF
  exact k a _ (ne_of e h (by intro z; cases z)) e
theorem feed_new {H : Hp} {p q : Addr} {n : Nat} {o : HO} (hF : FeedAt H p n) (h : H q = none) : FeedAt (upd H q o) p n := by
  obtain ⟨x, y, z, e, r⟩ := hF
  exact ⟨x, y, z, by rw [upd_ne (ne_of_none e h)]; exact e, r⟩
theorem feed_ne {H : Hp} {p q : Addr} {n : Nat} (hF : FeedAt H p n) (h : H q = none) : q ≠ p := by
  obtain ⟨x, y, z, e, r⟩ := hF
  exact (ne_of_none e h).symm
theorem draw_k {H : Hp} {p : Addr} {m : Int} {n : Nat} {Q : VK} {E : XK} (hF : FeedAt H p n) (hn : n ≤ 2 ^ 60) (h0 : 0 < m) (h1 : m < 2 ^ 30) (k : ∀ (r : Int) (H' : Hp), 0 ≤ r → r < m → Kept p H H' → FeedAt H' p (n + 1) → Q (.int r) H') :
    spDraw [.ref p, .int m] H Q E := ⟨p, m, n, rfl, hF, hn, h0, h1, fun r H' a b c d => k r H' a b (.of_but c) d⟩
theorem one_lst {K : PySem.W.Frag} {H : Hp} {p L : Addr} {n : Nat} {xs : List V} {Q : VK} {E : XK} (hF : FeedAt H p n) (hn : n ≤ 2 ^ 60) (nL : H L = none) (h0 : 0 < xs.length) (h1 : xs.length < 2 ^ 30)
    (k : ∀ (x : V) (H' : Hp), x ∈ xs → Kept p H H' → FeedAt H' p (n + 1) → Q x H') : spOne K [.ref p, .ref L] (upd H L (.lst xs)) Q E :=
  ⟨p, n, feed_new hF nL, hn, .inl ⟨L, xs, rfl, feed_ne hF nL, SqL.of upd_same, h0, h1, fun x H' hx bt hF' => k x H' hx ((Kept.new nL).trans (.of_but bt)) hF'⟩⟩
theorem kept_free {H H' : Hp} {p a : Addr} {m : Nat} (k : Kept p H H') (hF : FeedAt H' p m) (h : H' a = none) : H a = none := by
  cases e : H a with
  | none => rfl
  | some o =>
    rw [k a o (feed_ne hF h) e] at h
    cases h
/-- a place: a number from 0 to below 10 ** 9 -/
def spPlace : Sp := fun vs H Q _ => ∃ (p : Addr) (n : Nat), vs = [.ref p] ∧ FeedAt H p n ∧ n + 2 ≤ 2 ^ 60 ∧ ∀ (i : Int) (H' : Hp), i.natAbs < 10 ^ 9 → Kept p H H' → FeedAt H' p (n + 2) → Q (.int i) H'
/-- leaves: None, small ints, short texts -/
def leafOk : V → Prop
  | .non => True
  | .int i => i.natAbs < 10 ^ 60
  | .str z => z.length ≤ 60 ∧ ∀ c ∈ z.cps.toList, c < 0x110000
  | _ => False
def dOf : V → PyData
  | .int i => .int i
  | .str z => .str z
  | _ => .none
theorem leaf_dv {H : Hp} {x : V} (h : leafOk x) : Dv H x (dOf x) ∧ (dOf x).canLay0 = true ∧ (dOf x).depth = 0 ∧ nodes (dOf x) = 1 := by
  cases x with
  | non => exact ⟨.non, rfl, rfl, rfl⟩
  | int i => exact ⟨.int i, rfl, rfl, rfl⟩
  | str z =>
    refine ⟨.str z, ?_, rfl, rfl⟩
    have h2 := h.2
    show z.cps.all (· < 0x110000) = true
    rw [← Array.all_toList, List.all_eq_true]
    exact fun c hc => decide_eq_true (h2 c hc)
  | _ => exact h.elim
theorem leaf_dat {H : Hp} {x : V} {n : Nat} (h : leafOk x) : KE0.Dat H n x := by
  cases x with
  | non => exact .non
  | int i => exact .int i h
  | str z => exact .str z h.1 fun c hc => Nat.lt_trans (h.2 c hc) (by decide)
  | _ => exact h.elim
/-- what check or verify tells: a tuple, shown and compared as data -/
structure WhatAt (H : Hp) (a : Addr) (d : PyData) : Prop where
  dv : Dv H (.ref a) d
  dat : KE0.Dat H (1 + 1) (.ref a)
  lay : d.canLay0 = true
  deep : d.depth ≤ 2
  few : nodes d ≤ 20
def spWhat : Sp := fun vs H Q _ => ∃ (p : Addr) (n : Nat), vs = [.ref p] ∧ FeedAt H p n ∧ n + 20 ≤ 2 ^ 60 ∧ ∀ (a : Addr) (d : PyData) (m : Nat) (H' : Hp), H a = none → WhatAt H' a d → Kept p H H' → FeedAt H' p m → m ≤ n + 20 → Q (.ref a) H'
section
variable {P : Program} {w : World} {K : PySem.W.Frag} {mg : Str → Option Value} {base : Heap}
theorem ok_place {f fD fO : Addr} {fd fdD fdO : FuncData} (F : Fun K "_law_place" "_law_place" sPlace f fd)
    (FD : Fun K "_law_draw" "_law_draw" sDraw fD fdD) (bD : Binds K fdD ["_law_feed_here", "_law_many"] []) (gD : mg "_law_draw" = some (.ref fD))
    (FO : Fun K "_law_one" "_law_one" sOne fO fdO) (bO : Binds K fdO ["_law_feed_here", "_law_things"] []) (gO : mg "_law_one" = some (.ref fO)) (mInt : mg "int" = none) (mLen : mg "len" = none) :
    FnOk P w K mg base CX0 3 f fd ["_law_feed_here"] spPlace := by
  have GD : FnOk P w K mg base CX0 1 fD fdD ["_law_feed_here", "_law_many"] spDraw := ok_draw FD mInt
  have GO : FnOk P w K mg base CX0 2 fO fdO ["_law_feed_here", "_law_things"] (spOne K) := ok_one FO FD bD gD mInt mLen
  refine F.ok scPlace (fun vs H Q E h => ?_) (fun cdv A outer s H vs Q E hr h => ?_)
  · obtain ⟨p, n, rfl, _⟩ := h
    rfl
  · obtain ⟨p, n, rfl, hF, hn, q⟩ := h
    have hr1 : Room 1 _ := hr.mono (by decide)
    refine ⟨_, pss_one (ps_ret (pe_call GO hr (by rfl) gO FO.kp bO .nil pass0 (pa_cons (pv 0) (pa_cons (pe_lst (pa_cons pe_int (pa_cons pe_int (pa_cons pe_int (pa_cons
      (pe_call GD hr1 (by rfl) gD FD.kp bD .nil pass0 (pa_cons (pv 0) (pa_cons (pe_op op_pow pe_int pe_int) pa_nil))) pa_nil))))) pa_nil)))), ?_⟩
    refine ⟨_, rfl, _, rfl, _, _, rfl, rfl, ⟨by decide, by decide, by decide⟩, p, _, n, rfl, hF, by omega, by decide +kernel, by decide +kernel, fun r H1 r0 r1 b1 hF1 => ?_⟩
    refine ⟨by show 4 ≤ sizeLine; decide, fun L nL => ⟨p, n + 1, feed_new hF1 nL, by omega, .inl ⟨L, _, rfl, feed_ne hF1 nL, SqL.of upd_same, by show 0 < 4; decide, by show 4 < 2 ^ 30; decide, fun x H2 hx b2 hF2 => ?_⟩⟩⟩
    have k1 : Kept p H H1 := .of_but b1
    have k2 : Kept p H1 H2 := (Kept.new nL).trans (.of_but b2)
    have e9 : (10 : Int) ^ Int.toNat 9 = 10 ^ 9 := by decide +kernel
    have r2 : r < 10 ^ 9 := by rw [← e9]; exact r1
    simp only [List.mem_cons, List.not_mem_nil, or_false] at hx
    rcases hx with rfl | rfl | rfl | rfl
    · exact q 0 H2 (by decide) (k1.trans k2) hF2
    · exact q 1 H2 (by decide) (k1.trans k2) hF2
    · exact q 9999 H2 (by decide) (k1.trans k2) hF2
    · exact q r H2 (by omega) (k1.trans k2) hF2
theorem tup_what {H : Hp} {a : Addr} {x y z : V} (h : H a = some (.tup [x, y, z])) (hx : leafOk x) (hy : leafOk y) (hz : leafOk z) : WhatAt H a (.tuple [dOf x, dOf y, dOf z]) := by
  obtain ⟨x1, x2, x3, x4⟩ := leaf_dv (H := H) hx
  obtain ⟨y1, y2, y3, y4⟩ := leaf_dv (H := H) hy
  obtain ⟨z1, z2, z3, z4⟩ := leaf_dv (H := H) hz
  refine ⟨.tup h (.cons x1 (.cons y1 (.cons z1 .nil))), .tup a _ h (by show 3 ≤ 10; decide) ?_, ?_, ?_, ?_⟩
  · intro v hv
    simp only [List.mem_cons, List.not_mem_nil, or_false] at hv
    rcases hv with rfl | rfl | rfl
    · exact leaf_dat hx
    · exact leaf_dat hy
    · exact leaf_dat hz
  · simp [PyData.canLay0, PyData.canLayAll0, x2, y2, z2]
  · simp [PyData.depth, PyData.depthAll, x3, y3, z3]
  · simp [nodes, nodesAll, x4, y4, z4]
theorem pair_what {H : Hp} {a b : Addr} {x : V} {d : PyData} (h : H a = some (.tup [x, .ref b])) (hx : leafOk x) {u y z : V} (hb : H b = some (.tup [u, y, z])) (hu : leafOk u) (hy : leafOk y) (hz : leafOk z) :
    WhatAt H a (.tuple [dOf x, .tuple [dOf u, dOf y, dOf z]]) := by
  obtain ⟨x1, x2, x3, x4⟩ := leaf_dv (H := H) hx
  obtain ⟨u1, u2, u3, u4⟩ := leaf_dv (H := H) hu
  obtain ⟨y1, y2, y3, y4⟩ := leaf_dv (H := H) hy
  obtain ⟨z1, z2, z3, z4⟩ := leaf_dv (H := H) hz
  refine ⟨.tup h (.cons x1 (.cons (.tup hb (.cons u1 (.cons y1 (.cons z1 .nil)))) .nil)), .tup a _ h (by show 2 ≤ 10; decide) ?_, ?_, ?_, ?_⟩
  · intro v hv
    simp only [List.mem_cons, List.not_mem_nil, or_false] at hv
    rcases hv with rfl | rfl
    · exact leaf_dat hx
    · refine .tup b _ hb (by show 3 ≤ 10; decide) ?_
      intro v hv
      simp only [List.mem_cons, List.not_mem_nil, or_false] at hv
      rcases hv with rfl | rfl | rfl
      · exact leaf_dat hu
      · exact leaf_dat hy
      · exact leaf_dat hz
  · simp [PyData.canLay0, PyData.canLayAll0, x2, u2, y2, z2]
  · simp [PyData.depth, PyData.depthAll, x3, u3, y3, z3]
  · simp [nodes, nodesAll, x4, u4, y4, z4]
theorem ok_what {f fD fO : Addr} {fd fdD fdO : FuncData} (F : Fun K "_law_what" "_law_what" sWhat f fd)
    (FD : Fun K "_law_draw" "_law_draw" sDraw fD fdD) (bD : Binds K fdD ["_law_feed_here", "_law_many"] []) (gD : mg "_law_draw" = some (.ref fD))
    (FO : Fun K "_law_one" "_law_one" sOne fO fdO) (bO : Binds K fdO ["_law_feed_here", "_law_things"] []) (gO : mg "_law_one" = some (.ref fO)) (mInt : mg "int" = none) (mLen : mg "len" = none) :
    FnOk P w K mg base CX0 3 f fd ["_law_feed_here"] spWhat := by
  have GD : FnOk P w K mg base CX0 1 fD fdD ["_law_feed_here", "_law_many"] spDraw := ok_draw FD mInt
  have GO : FnOk P w K mg base CX0 2 fO fdO ["_law_feed_here", "_law_things"] (spOne K) := ok_one FO FD bD gD mInt mLen
  refine F.ok scWhat (fun vs H Q E h => ?_) (fun cdv A outer s H vs Q E hr h => ?_)
  · obtain ⟨p, n, rfl, _⟩ := h
    rfl
  · obtain ⟨p, n, rfl, hF, hn, q⟩ := h
    have hr1 : Room 1 _ := hr.mono (by decide)
    refine ⟨_, pss_cons (ps_if (pt_cmpR op_eq (pe_call GD hr1 (by rfl) gD FD.kp bD .nil pass0 (pa_cons (pv 0) (pa_cons pe_int pa_nil))) pe_int (nomark _))
        (pss_one (ps_ret (pe_tup (pa_cons (pe_call GO hr (by rfl) gO FO.kp bO .nil pass0 (pa_cons (pv 0) (pa_cons (pe_lst (pa_cons pe_str (pa_cons pe_str (pa_cons pe_str pa_nil)))) pa_nil)))
          (pa_cons (pe_call GO hr (by rfl) gO FO.kp bO .nil pass0 (pa_cons (pv 0) (pa_cons (pe_lst (pa_cons pe_non (pa_cons (pe_call GD hr1 (by rfl) gD FD.kp bD .nil pass0 (pa_cons (pv 0) (pa_cons pe_int pa_nil))) pa_nil))) pa_nil)))
          (pa_cons (pe_call GO hr (by rfl) gO FO.kp bO .nil pass0 (pa_cons (pv 0) (pa_cons (pe_lst (pa_cons pe_non (pa_cons (pe_call GD hr1 (by rfl) gD FD.kp bD .nil pass0 (pa_cons (pv 0) (pa_cons pe_int pa_nil))) pa_nil))) pa_nil))) pa_nil)))))) pss_nil)
      (pss_cons (ps_set (i := 1) scWhat.nd rfl (Or.inl rfl) (pe_tup (pa_cons (pe_call GO hr (by rfl) gO FO.kp bO .nil pass0 (pa_cons (pv 0) (pa_cons (pe_lst (pa_cons pe_non (pa_cons pe_str pa_nil))) pa_nil)))
          (pa_cons (pe_call GO hr (by rfl) gO FO.kp bO .nil pass0 (pa_cons (pv 0) (pa_cons (pe_lst (pa_cons pe_non (pa_cons pe_str pa_nil))) pa_nil)))
          (pa_cons (pe_call GO hr (by rfl) gO FO.kp bO .nil pass0 (pa_cons (pv 0) (pa_cons (pe_lst (pa_cons pe_non (pa_cons pe_int (pa_cons pe_int (pa_cons (pe_call GD hr1 (by rfl) gD FD.kp bD .nil pass0 (pa_cons (pv 0) (pa_cons pe_int pa_nil))) pa_nil))))) pa_nil))) pa_nil)))))
      (pss_one (ps_ret (pe_tup (pa_cons (pe_call GO hr (by rfl) gO FO.kp bO .nil pass0 (pa_cons (pv 0) (pa_cons (pe_lst (pa_cons pe_str (pa_cons pe_str (pa_cons pe_str pa_nil)))) pa_nil))) (pa_cons (pv 1) pa_nil)))))), ?_⟩
    refine ⟨_, rfl, p, _, n, rfl, hF, by omega, by decide, by decide, fun r H1 r0 r1 b1 hF1 => ?_⟩
    have k1 : Kept p H H1 := .of_but b1
    refine ⟨rfl, _, rfl, ite2 (fun _ => ?_) (fun _ => ?_)⟩
    · -- three leaves
      refine ⟨_, rfl, by show 3 ≤ sizeLine; decide, fun L1 nL1 => ⟨p, n + 1, feed_new hF1 nL1, by omega, .inl ⟨L1, _, rfl, feed_ne hF1 nL1, SqL.of upd_same, by show 0 < 3; decide, by show 3 < 2 ^ 30; decide, fun x H2 hx b2 hF2 => ?_⟩⟩⟩
      have k2 : Kept p H H2 := (k1.trans (Kept.new nL1)).trans (.of_but b2)
      refine ⟨_, rfl, _, rfl, p, _, _, rfl, hF2, by omega, by decide, by decide, fun r2 H3 r20 r21 b3 hF3 => ?_⟩
      refine ⟨by show 2 ≤ sizeLine; decide, fun L2 nL2 => ⟨p, _, feed_new hF3 nL2, by omega, .inl ⟨L2, _, rfl, feed_ne hF3 nL2, SqL.of upd_same, by show 0 < 2; decide, by show 2 < 2 ^ 30; decide, fun y H4 hy b4 hF4 => ?_⟩⟩⟩
      have k4 : Kept p H H4 := ((k2.trans (.of_but b3)).trans (Kept.new nL2)).trans (.of_but b4)
      refine ⟨_, rfl, _, rfl, p, _, _, rfl, hF4, by omega, by decide, by decide, fun r3 H5 r30 r31 b5 hF5 => ?_⟩
      refine ⟨by show 2 ≤ sizeLine; decide, fun L3 nL3 => ⟨p, _, feed_new hF5 nL3, by omega, .inl ⟨L3, _, rfl, feed_ne hF5 nL3, SqL.of upd_same, by show 0 < 2; decide, by show 2 < 2 ^ 30; decide, fun z H6 hz b6 hF6 => ?_⟩⟩⟩
      have k6 : Kept p H H6 := ((k4.trans (.of_but b5)).trans (Kept.new nL3)).trans (.of_but b6)
      refine ⟨by show 3 ≤ sizeLine; decide, fun a na => ?_⟩
      have lx : leafOk x := by
        simp only [List.mem_cons, List.not_mem_nil, or_false] at hx
        rcases hx with rfl | rfl | rfl <;> exact ⟨by decide +kernel, by decide +kernel⟩
      have ly : leafOk y := by
        simp only [List.mem_cons, List.not_mem_nil, or_false] at hy
        rcases hy with rfl | rfl
        · trivial
        · show r2.natAbs < 10 ^ 60
          omega
      have lz : leafOk z := by
        simp only [List.mem_cons, List.not_mem_nil, or_false] at hz
        rcases hz with rfl | rfl
        · trivial
        · show r3.natAbs < 10 ^ 60
          omega
      exact q a _ _ _ (kept_free k6 hF6 na) (tup_what upd_same lx ly lz) (k6.trans (Kept.new na)) (feed_new hF6 na) (by omega)
    · -- a word, and where
      refine ⟨_, rfl, by show 2 ≤ sizeLine; decide, fun L1 nL1 => ⟨p, n + 1, feed_new hF1 nL1, by omega, .inl ⟨L1, _, rfl, feed_ne hF1 nL1, SqL.of upd_same, by show 0 < 2; decide, by show 2 < 2 ^ 30; decide, fun x H2 hx b2 hF2 => ?_⟩⟩⟩
      have k2 : Kept p H H2 := (k1.trans (Kept.new nL1)).trans (.of_but b2)
      refine ⟨_, rfl, by show 2 ≤ sizeLine; decide, fun L2 nL2 => ⟨p, _, feed_new hF2 nL2, by omega, .inl ⟨L2, _, rfl, feed_ne hF2 nL2, SqL.of upd_same, by show 0 < 2; decide, by show 2 < 2 ^ 30; decide, fun y H4 hy b4 hF4 => ?_⟩⟩⟩
      have k4 : Kept p H H4 := (k2.trans (Kept.new nL2)).trans (.of_but b4)
      refine ⟨_, rfl, _, rfl, p, _, _, rfl, hF4, by omega, by decide, by decide, fun r3 H5 r30 r31 b5 hF5 => ?_⟩
      refine ⟨by show 4 ≤ sizeLine; decide, fun L3 nL3 => ⟨p, _, feed_new hF5 nL3, by omega, .inl ⟨L3, _, rfl, feed_ne hF5 nL3, SqL.of upd_same, by show 0 < 4; decide, by show 4 < 2 ^ 30; decide, fun z H6 hz b6 hF6 => ?_⟩⟩⟩
      have k6 : Kept p H H6 := ((k4.trans (.of_but b5)).trans (Kept.new nL3)).trans (.of_but b6)
      refine ⟨by show 3 ≤ sizeLine; decide, fun b nb => ?_⟩
      have hF7 := feed_new (o := .tup [x, y, z]) hF6 nb
      have k7 : Kept p H (upd H6 b (.tup [x, y, z])) := k6.trans (Kept.new nb)
      have hb : (upd H6 b (.tup [x, y, z])) b = some (.tup [x, y, z]) := upd_same
      generalize upd H6 b (.tup [x, y, z]) = H7 at hF7 k7 hb
      refine ⟨_, rfl, by show 3 ≤ sizeLine; decide, fun L4 nL4 => ⟨p, _, feed_new hF7 nL4, by omega, .inl ⟨L4, _, rfl, feed_ne hF7 nL4, SqL.of upd_same, by show 0 < 3; decide, by show 3 < 2 ^ 30; decide, fun u H8 hu b8 hF8 => ?_⟩⟩⟩
      have k78 : Kept p H7 H8 := (Kept.new nL4).trans (.of_but b8)
      have hb8 := k78.tups hF7 _ _ hb
      have k8 : Kept p H H8 := k7.trans k78
      refine ⟨_, rfl, by show 2 ≤ sizeLine; decide, fun a na => ?_⟩
      have lx : leafOk x := by
        simp only [List.mem_cons, List.not_mem_nil, or_false] at hx
        rcases hx with rfl | rfl
        · trivial
        · exact ⟨by decide +kernel, by decide +kernel⟩
      have ly : leafOk y := by
        simp only [List.mem_cons, List.not_mem_nil, or_false] at hy
        rcases hy with rfl | rfl
        · trivial
        · exact ⟨by decide +kernel, by decide +kernel⟩
      have lz : leafOk z := by
        simp only [List.mem_cons, List.not_mem_nil, or_false] at hz
        rcases hz with rfl | rfl | rfl | rfl
        · trivial
        · show (0 : Int).natAbs < 10 ^ 60
          decide
        · show (1 : Int).natAbs < 10 ^ 60
          decide
        · show r3.natAbs < 10 ^ 60
          omega
      have lu : leafOk u := by
        simp only [List.mem_cons, List.not_mem_nil, or_false] at hu
        rcases hu with rfl | rfl | rfl <;> exact ⟨by decide +kernel, by decide +kernel⟩
      exact q a _ _ _ (kept_free k8 hF8 na) (pair_what (d := .none) upd_same lu (by rw [upd_ne (ne_of_none hb8 na)]; exact hb8) lx ly lz) (k8.trans (Kept.new na)) (feed_new hF8 na) (by omega)
end
end KK

namespace KL
open PySem PySem.Spec PyProof.Rows L2 KA KI KK KV KE0 KG
abbrev sMade : Stmt := top 35
abbrev sMarks : Stmt := top 36
abbrev sFields : Stmt := top 37
def nm (i : Nat) : Str := (["BadForm", "BadText", "NotLetBy", "BadGiven", "BadCount", "BadModule", "BadRows", "NotVerified", "BadIndex", "BadPlace", "BadGraph", "BadShapes", "BadKind", "BadSize", "BadValue", "BadSizes", "BadRoots", "BadAddress", "BadSlot", "Marking", "BadPicture", "BadSchedule", "BadView", "BadStrip", "BadGuesses", "BadOpened"] : List Str).getD i ""
abbrev veB : List Value := [.type "ValueError", .type "Exception", .type "BaseException", .type "object"]
theorem scMade : FnScope ["_law_text", "_law_one_here", "_law_other", "_law_what_here", "_law_more"] ["_law_text", "_law_one_here", "_law_other", "_law_what_here", "_law_more"] (defScope sMade) := ⟨rfl, rfl, rfl, by decide +kernel, rfl, by decide +kernel, by decide +kernel⟩
theorem scMarks : FnScope ["_law_e"] ["_law_e"] (defScope sMarks) := ⟨rfl, rfl, rfl, by decide +kernel, rfl, by decide +kernel, by decide +kernel⟩
theorem scFields : FnScope ["_law_errors"] ["_law_errors"] (defScope sFields) := ⟨rfl, rfl, rfl, by decide +kernel, rfl, by decide +kernel, by decide +kernel⟩
/-- what the written part says of the twenty-six classes, C i the i-th one -/
structure Errs (P : Program) (K : PySem.W.Frag) (mg : Str → Option Value) (C : Nat → Addr) (CM : Addr) (f1 d1 c1 f2 d2 c2 f6 d6 c6 f7 d7 c7 : Addr) : Prop where
  gl : ∀ i, i < 26 → mg (nm i) = some (.ref (C i))
  g : ∀ i, i < 26 → ErrG K (C i)
  kit : ∀ i j, i < 26 → j < 26 → PySem.W.kitOne K (.ref (C i)) (.ref (C j)) = some (decide (i = j))
  kitM : ∀ i, i < 26 → PySem.W.kitOne K (.ref (C i)) (.ref CM) = some true
  kitV : ∀ i, i < 26 → PySem.W.kitOne K (.ref (C i)) (.type "ValueError") = some true
  glM : mg "MachineError" = some (.ref CM)
  ex : ∀ i, i < 26 → i ≠ 1 → i ≠ 2 → i ≠ 6 → i ≠ 7 → PySem.W.excIn K (C i) veB "ValueError.__new__" = true
  kp : ∀ i, i < 26 → PySem.W.keepIn K (.ref (C i)) = true
  text : KC.ErrC P K mg (C 1) f1 d1 c1 "BadText.__init__" (defArgs iText) (defBody iText) (defScope iText)
  lets : KC.ErrC P K mg (C 2) f2 d2 c2 "NotLetBy.__init__" (defArgs iLet) (defBody iLet) (defScope iLet)
  rows : KC.ErrC P K mg (C 6) f6 d6 c6 "BadRows.__init__" (defArgs iRows) (defBody iRows) (defScope iRows)
  vers : KC.ErrC P K mg (C 7) f7 d7 c7 "NotVerified.__init__" (defArgs iVer) (defBody iVer) (defScope iVer)
  noPlace : PySem.W.findIn K (.ref (C 1)) "place" = some none
  noWhat : PySem.W.findIn K (.ref (C 2)) "what" = some none
  noRow : PySem.W.findIn K (.ref (C 6)) "row" = some none
  noWord : PySem.W.findIn K (.ref (C 6)) "word" = some none
  noWhat7 : PySem.W.findIn K (.ref (C 7)) "what" = some none

/-- errors at es: (where, its class, its fields) -/
def AllE (H : Hp) (es : List (Addr × Addr × List (Str × V))) : Prop := ∀ p ∈ es, ErrAt H p.1 p.2.1 p.2.2
theorem AllE.keep {H H' : Hp} {es : List (Addr × Addr × List (Str × V))} (e : AllE H es) (s : Same H H') : AllE H' es := fun p hp => (e p hp).keep s
theorem AllE.nil {H : Hp} : AllE H [] := fun p hp => absurd hp List.not_mem_nil
theorem same_new {H1 : Hp} {p : Addr} {o : HO} (h : H1 p = none) : Same H1 (upd H1 p o) := fun b u e => by rw [upd_ne (ne_of_none e h)]; exact e
theorem AllE.plain {H : Hp} {es : List (Addr × Addr × List (Str × V))} {a C : Addr} (e : AllE H es) (n : H a = none) : AllE (upd H a (ExO (.ref C) a)) ((a, C, []) :: es) := fun p hp => by
  rcases List.mem_cons.mp hp with rfl | hp
  · exact .inl ⟨upd_same, rfl⟩
  · exact (e p hp).keep (same_new n)
theorem same_two {H : Hp} {a d : Addr} {o u : HO} (na : H a = none) (nd : H d = none) : Same H (upd (upd H d u) a o) := fun b x e => by
  rw [upd_ne (ne_of_none e na), upd_ne (ne_of_none e nd)]
  exact e
theorem AllE.own {H : Hp} {es : List (Addr × Addr × List (Str × V))} {a d C : Addr} {fs : List (Str × V)} (e : AllE H es) (na : H a = none) (nd : H d = none) (ne : d ≠ a) : AllE (upd (upd H d (exd d fs)) a (exo a C (some d))) ((a, C, fs) :: es) := fun p hp => by
  rcases List.mem_cons.mp hp with rfl | hp
  · exact .inr ⟨d, upd_same, by rw [upd_ne ne, upd_same]⟩
  · exact (e p hp).keep (same_two na nd)
/-- the fields of the twenty-six -/
def fsOf (one other what more : V) (i : Nat) : List (Str × V) := if i = 1 then [("place", one)] else if i = 2 then [("what", what)] else if i = 6 then [("word", other), ("row", one)] else if i = 7 then [("what", more)] else []
/-- a list of one error of each class -/
def MadeAt (C : Nat → Addr) (H : Hp) (l : Addr) (one other what more : V) : Prop := ∃ as : List Addr, H l = some (.lst (as.map V.ref)) ∧ as.length = 26 ∧ ∀ i a, as[i]? = some a → ErrAt H a (C i) (fsOf one other what more i)
theorem MadeAt.keep {C : Nat → Addr} {H H' : Hp} {l : Addr} {one other what more : V} (h : MadeAt C H l one other what more) (s : Same H H') : MadeAt C H' l one other what more := by
  obtain ⟨as, h1, h2, h3⟩ := h
  exact ⟨as, s _ _ h1, h2, fun i a e => (h3 i a e).keep s⟩
def spMade (C : Nat → Addr) : Sp := fun vs H Q _ => ∃ (z : Str) (i j : Int) (a b : Addr) (d e : PyData), vs = [.str z, .int i, .int j, .ref a, .ref b] ∧ i.natAbs < 10 ^ 60 ∧ j.natAbs < 10 ^ 60 ∧ WhatAt H a d ∧ WhatAt H b e ∧
  ∀ (l : Addr) (H' : Hp), H l = none → Same H H' → MadeAt C H' l (.int i) (.int j) (.ref a) (.ref b) → Q (.ref l) H'
def spMarks (C : Nat → Addr) : Sp := fun vs H Q _ => ∃ (a : Addr) (i : Nat) (fs : List (Str × V)), vs = [.ref a] ∧ i < 26 ∧ ErrAt H a (C i) fs ∧
  ∀ (l : Addr) (H' : Hp), H l = none → Same H H' → H' l = some (.lst ((List.range 26).map fun j => V.bl (decide (i = j)))) → Q (.ref l) H'
def spFields (C : Nat → Addr) : Sp := fun vs H Q _ => ∃ (l : Addr) (one other what more : V), vs = [.ref l] ∧ MadeAt C H l one other what more ∧
  ∀ (t : Addr) (H' : Hp), H t = none → Same H H' → H' t = some (.tup [one, what, one, other, more]) → Q (.ref t) H'
section
variable {P : Program} {w : World} {K : PySem.W.Frag} {mg : Str → Option Value} {base : Heap} {C : Nat → Addr} {CM f1 d1 c1 f2 d2 c2 f6 d6 c6 f7 d7 c7 : Addr}
theorem what_keep {H H' : Hp} {a : Addr} {d : PyData} (h : WhatAt H a d) (s : TupSame H H') : WhatAt H' a d := ⟨h.dv.same s, h.dat.same s, h.lay, h.deep, h.few⟩

end
end KL

namespace KL
open PySem PySem.Spec PyProof.Rows L2 KA KI KK KV KE0 KG
section
variable {P : Program} {w : World} {K : PySem.W.Frag} {mg : Str → Option Value} {base : Heap} {C : Nat → Addr} {CM f1 d1 c1 f2 d2 c2 f6 d6 c6 f7 d7 c7 : Addr}
theorem ok_made {f : Addr} {fd : FuncData} (F : Fun K "_law_made" "_law_made" sMade f fd) (T : Errs P K mg C CM f1 d1 c1 f2 d2 c2 f6 d6 c6 f7 d7 c7) : FnOk P w K mg base CX0 6 f fd ["_law_text", "_law_one_here", "_law_other", "_law_what_here", "_law_more"] (spMade C) := by
  refine F.ok scMade (fun vs H Q E h => ?_) (fun cdv A outer s H vs Q E hr h => ?_)
  · obtain ⟨z, i, j, a, b, d, e, rfl, _⟩ := h
    rfl
  · obtain ⟨z, i, j, wa, wb, d, e, rfl, hi, hj, hwa, hwb, q⟩ := h
    have I1 := init_text (w := w) T.text T.noPlace
    have I2 := init_let (w := w) (.inl ⟨rfl, rfl⟩) T.lets T.noWhat
    have I6 := init_rows (w := w) T.rows T.noRow T.noWord
    have I7 := init_let (w := w) (.inr ⟨rfl, rfl⟩) T.vers T.noWhat7
    have hr4 : Room (4 + 1) _ := hr
    refine ⟨_, pss_one (ps_ret (pe_lst (pa_cons (pe_exc1 PySem.F.excBase_ValueError (T.ex 0 (by decide) (by decide) (by decide) (by decide) (by decide)) (T.gl 0 (by decide)) (T.kp 0 (by decide)) (by rfl) (pv 0))
      (pa_cons (pe_err T.text I1 hr4 (by rfl) (T.gl 1 (by decide)) (pa_cons (pv 1) pa_nil))
      (pa_cons (pe_err T.lets I2 hr4 (by rfl) (T.gl 2 (by decide)) (pa_cons (pv 3) pa_nil))
      (pa_cons (pe_exc1 PySem.F.excBase_ValueError (T.ex 3 (by decide) (by decide) (by decide) (by decide) (by decide)) (T.gl 3 (by decide)) (T.kp 3 (by decide)) (by rfl) (pv 0))
      (pa_cons (pe_exc1 PySem.F.excBase_ValueError (T.ex 4 (by decide) (by decide) (by decide) (by decide) (by decide)) (T.gl 4 (by decide)) (T.kp 4 (by decide)) (by rfl) (pv 0))
      (pa_cons (pe_exc1 PySem.F.excBase_ValueError (T.ex 5 (by decide) (by decide) (by decide) (by decide) (by decide)) (T.gl 5 (by decide)) (T.kp 5 (by decide)) (by rfl) (pv 0))
      (pa_cons (pe_err T.rows I6 hr4 (by rfl) (T.gl 6 (by decide)) (pa_cons (pv 1) (pa_cons (pv 2) pa_nil)))
      (pa_cons (pe_err T.vers I7 hr4 (by rfl) (T.gl 7 (by decide)) (pa_cons (pv 4) pa_nil))
      (pa_cons (pe_exc1 PySem.F.excBase_ValueError (T.ex 8 (by decide) (by decide) (by decide) (by decide) (by decide)) (T.gl 8 (by decide)) (T.kp 8 (by decide)) (by rfl) (pv 0))
      (pa_cons (pe_exc1 PySem.F.excBase_ValueError (T.ex 9 (by decide) (by decide) (by decide) (by decide) (by decide)) (T.gl 9 (by decide)) (T.kp 9 (by decide)) (by rfl) (pv 0))
      (pa_cons (pe_exc1 PySem.F.excBase_ValueError (T.ex 10 (by decide) (by decide) (by decide) (by decide) (by decide)) (T.gl 10 (by decide)) (T.kp 10 (by decide)) (by rfl) (pv 0))
      (pa_cons (pe_exc1 PySem.F.excBase_ValueError (T.ex 11 (by decide) (by decide) (by decide) (by decide) (by decide)) (T.gl 11 (by decide)) (T.kp 11 (by decide)) (by rfl) (pv 0))
      (pa_cons (pe_exc1 PySem.F.excBase_ValueError (T.ex 12 (by decide) (by decide) (by decide) (by decide) (by decide)) (T.gl 12 (by decide)) (T.kp 12 (by decide)) (by rfl) (pv 0))
      (pa_cons (pe_exc1 PySem.F.excBase_ValueError (T.ex 13 (by decide) (by decide) (by decide) (by decide) (by decide)) (T.gl 13 (by decide)) (T.kp 13 (by decide)) (by rfl) (pv 0))
      (pa_cons (pe_exc1 PySem.F.excBase_ValueError (T.ex 14 (by decide) (by decide) (by decide) (by decide) (by decide)) (T.gl 14 (by decide)) (T.kp 14 (by decide)) (by rfl) (pv 0))
      (pa_cons (pe_exc1 PySem.F.excBase_ValueError (T.ex 15 (by decide) (by decide) (by decide) (by decide) (by decide)) (T.gl 15 (by decide)) (T.kp 15 (by decide)) (by rfl) (pv 0))
      (pa_cons (pe_exc1 PySem.F.excBase_ValueError (T.ex 16 (by decide) (by decide) (by decide) (by decide) (by decide)) (T.gl 16 (by decide)) (T.kp 16 (by decide)) (by rfl) (pv 0))
      (pa_cons (pe_exc1 PySem.F.excBase_ValueError (T.ex 17 (by decide) (by decide) (by decide) (by decide) (by decide)) (T.gl 17 (by decide)) (T.kp 17 (by decide)) (by rfl) (pv 0))
      (pa_cons (pe_exc1 PySem.F.excBase_ValueError (T.ex 18 (by decide) (by decide) (by decide) (by decide) (by decide)) (T.gl 18 (by decide)) (T.kp 18 (by decide)) (by rfl) (pv 0))
      (pa_cons (pe_exc1 PySem.F.excBase_ValueError (T.ex 19 (by decide) (by decide) (by decide) (by decide) (by decide)) (T.gl 19 (by decide)) (T.kp 19 (by decide)) (by rfl) (pv 0))
      (pa_cons (pe_exc1 PySem.F.excBase_ValueError (T.ex 20 (by decide) (by decide) (by decide) (by decide) (by decide)) (T.gl 20 (by decide)) (T.kp 20 (by decide)) (by rfl) (pv 0))
      (pa_cons (pe_exc1 PySem.F.excBase_ValueError (T.ex 21 (by decide) (by decide) (by decide) (by decide) (by decide)) (T.gl 21 (by decide)) (T.kp 21 (by decide)) (by rfl) (pv 0))
      (pa_cons (pe_exc1 PySem.F.excBase_ValueError (T.ex 22 (by decide) (by decide) (by decide) (by decide) (by decide)) (T.gl 22 (by decide)) (T.kp 22 (by decide)) (by rfl) (pv 0))
      (pa_cons (pe_exc1 PySem.F.excBase_ValueError (T.ex 23 (by decide) (by decide) (by decide) (by decide) (by decide)) (T.gl 23 (by decide)) (T.kp 23 (by decide)) (by rfl) (pv 0))
      (pa_cons (pe_exc1 PySem.F.excBase_ValueError (T.ex 24 (by decide) (by decide) (by decide) (by decide) (by decide)) (T.gl 24 (by decide)) (T.kp 24 (by decide)) (by rfl) (pv 0))
      (pa_cons (pe_exc1 PySem.F.excBase_ValueError (T.ex 25 (by decide) (by decide) (by decide) (by decide) (by decide)) (T.gl 25 (by decide)) (T.kp 25 (by decide)) (by rfl) (pv 0))
      pa_nil)))))))))))))))))))))))))))), ?_⟩
    have hE : AllE H [] := AllE.nil
    have hS : Same H H := Same.refl H
    refine ⟨_, rfl, fun a0 na0 => ?_⟩
    replace hE := AllE.plain (C := C 0) hE na0
    replace hS := hS.trans (same_new (o := ExO (.ref (C 0)) a0) na0)
    generalize upd H a0 (ExO (.ref (C 0)) a0) = H1 at hE hS ⊢
    refine ⟨_, rfl, by show 1 ≤ 1000; decide, ⟨i, rfl, hi⟩, fun a1 x1 na1 nd1 ne1 => ?_⟩
    replace hE := AllE.own (C := C 1) (fs := KG.f1 "place" [.int i]) hE na1 nd1 ne1
    replace hS := hS.trans (same_two (o := exo a1 (C 1) (some x1)) (u := exd x1 (KG.f1 "place" [.int i])) na1 nd1)
    generalize upd (upd H1 x1 (exd x1 (KG.f1 "place" [.int i]))) a1 (exo a1 (C 1) (some x1)) = H2 at hE hS ⊢
    refine ⟨_, rfl, by show 1 ≤ 1000; decide, ⟨wa, 1, rfl, (what_keep hwa fun a xs e => hS a _ e).dat, by decide⟩, fun a2 x2 na2 nd2 ne2 => ?_⟩
    replace hE := AllE.own (C := C 2) (fs := KG.f1 "what" [.ref wa]) hE na2 nd2 ne2
    replace hS := hS.trans (same_two (o := exo a2 (C 2) (some x2)) (u := exd x2 (KG.f1 "what" [.ref wa])) na2 nd2)
    generalize upd (upd H2 x2 (exd x2 (KG.f1 "what" [.ref wa]))) a2 (exo a2 (C 2) (some x2)) = H3 at hE hS ⊢
    refine ⟨_, rfl, fun a3 na3 => ?_⟩
    replace hE := AllE.plain (C := C 3) hE na3
    replace hS := hS.trans (same_new (o := ExO (.ref (C 3)) a3) na3)
    generalize upd H3 a3 (ExO (.ref (C 3)) a3) = H4 at hE hS ⊢
    refine ⟨_, rfl, fun a4 na4 => ?_⟩
    replace hE := AllE.plain (C := C 4) hE na4
    replace hS := hS.trans (same_new (o := ExO (.ref (C 4)) a4) na4)
    generalize upd H4 a4 (ExO (.ref (C 4)) a4) = H5 at hE hS ⊢
    refine ⟨_, rfl, fun a5 na5 => ?_⟩
    replace hE := AllE.plain (C := C 5) hE na5
    replace hS := hS.trans (same_new (o := ExO (.ref (C 5)) a5) na5)
    generalize upd H5 a5 (ExO (.ref (C 5)) a5) = H6 at hE hS ⊢
    refine ⟨_, rfl, _, rfl, by show 2 ≤ 1000; decide, ⟨i, j, rfl, hi, hj⟩, fun a6 x6 na6 nd6 ne6 => ?_⟩
    replace hE := AllE.own (C := C 6) (fs := KG.f2 "row" "word" [.int i, .int j]) hE na6 nd6 ne6
    replace hS := hS.trans (same_two (o := exo a6 (C 6) (some x6)) (u := exd x6 (KG.f2 "row" "word" [.int i, .int j])) na6 nd6)
    generalize upd (upd H6 x6 (exd x6 (KG.f2 "row" "word" [.int i, .int j]))) a6 (exo a6 (C 6) (some x6)) = H7 at hE hS ⊢
    refine ⟨_, rfl, by show 1 ≤ 1000; decide, ⟨wb, 1, rfl, (what_keep hwb fun a xs e => hS a _ e).dat, by decide⟩, fun a7 x7 na7 nd7 ne7 => ?_⟩
    replace hE := AllE.own (C := C 7) (fs := KG.f1 "what" [.ref wb]) hE na7 nd7 ne7
    replace hS := hS.trans (same_two (o := exo a7 (C 7) (some x7)) (u := exd x7 (KG.f1 "what" [.ref wb])) na7 nd7)
    generalize upd (upd H7 x7 (exd x7 (KG.f1 "what" [.ref wb]))) a7 (exo a7 (C 7) (some x7)) = H8 at hE hS ⊢
    refine ⟨_, rfl, fun a8 na8 => ?_⟩
    replace hE := AllE.plain (C := C 8) hE na8
    replace hS := hS.trans (same_new (o := ExO (.ref (C 8)) a8) na8)
    generalize upd H8 a8 (ExO (.ref (C 8)) a8) = H9 at hE hS ⊢
    refine ⟨_, rfl, fun a9 na9 => ?_⟩
    replace hE := AllE.plain (C := C 9) hE na9
    replace hS := hS.trans (same_new (o := ExO (.ref (C 9)) a9) na9)
    generalize upd H9 a9 (ExO (.ref (C 9)) a9) = H10 at hE hS ⊢
    refine ⟨_, rfl, fun a10 na10 => ?_⟩
    replace hE := AllE.plain (C := C 10) hE na10
    replace hS := hS.trans (same_new (o := ExO (.ref (C 10)) a10) na10)
    generalize upd H10 a10 (ExO (.ref (C 10)) a10) = H11 at hE hS ⊢
    refine ⟨_, rfl, fun a11 na11 => ?_⟩
    replace hE := AllE.plain (C := C 11) hE na11
    replace hS := hS.trans (same_new (o := ExO (.ref (C 11)) a11) na11)
    generalize upd H11 a11 (ExO (.ref (C 11)) a11) = H12 at hE hS ⊢
    refine ⟨_, rfl, fun a12 na12 => ?_⟩
    replace hE := AllE.plain (C := C 12) hE na12
    replace hS := hS.trans (same_new (o := ExO (.ref (C 12)) a12) na12)
    generalize upd H12 a12 (ExO (.ref (C 12)) a12) = H13 at hE hS ⊢
    refine ⟨_, rfl, fun a13 na13 => ?_⟩
    replace hE := AllE.plain (C := C 13) hE na13
    replace hS := hS.trans (same_new (o := ExO (.ref (C 13)) a13) na13)
    generalize upd H13 a13 (ExO (.ref (C 13)) a13) = H14 at hE hS ⊢
    refine ⟨_, rfl, fun a14 na14 => ?_⟩
    replace hE := AllE.plain (C := C 14) hE na14
    replace hS := hS.trans (same_new (o := ExO (.ref (C 14)) a14) na14)
    generalize upd H14 a14 (ExO (.ref (C 14)) a14) = H15 at hE hS ⊢
    refine ⟨_, rfl, fun a15 na15 => ?_⟩
    replace hE := AllE.plain (C := C 15) hE na15
    replace hS := hS.trans (same_new (o := ExO (.ref (C 15)) a15) na15)
    generalize upd H15 a15 (ExO (.ref (C 15)) a15) = H16 at hE hS ⊢
    refine ⟨_, rfl, fun a16 na16 => ?_⟩
    replace hE := AllE.plain (C := C 16) hE na16
    replace hS := hS.trans (same_new (o := ExO (.ref (C 16)) a16) na16)
    generalize upd H16 a16 (ExO (.ref (C 16)) a16) = H17 at hE hS ⊢
    refine ⟨_, rfl, fun a17 na17 => ?_⟩
    replace hE := AllE.plain (C := C 17) hE na17
    replace hS := hS.trans (same_new (o := ExO (.ref (C 17)) a17) na17)
    generalize upd H17 a17 (ExO (.ref (C 17)) a17) = H18 at hE hS ⊢
    refine ⟨_, rfl, fun a18 na18 => ?_⟩
    replace hE := AllE.plain (C := C 18) hE na18
    replace hS := hS.trans (same_new (o := ExO (.ref (C 18)) a18) na18)
    generalize upd H18 a18 (ExO (.ref (C 18)) a18) = H19 at hE hS ⊢
    refine ⟨_, rfl, fun a19 na19 => ?_⟩
    replace hE := AllE.plain (C := C 19) hE na19
    replace hS := hS.trans (same_new (o := ExO (.ref (C 19)) a19) na19)
    generalize upd H19 a19 (ExO (.ref (C 19)) a19) = H20 at hE hS ⊢
    refine ⟨_, rfl, fun a20 na20 => ?_⟩
    replace hE := AllE.plain (C := C 20) hE na20
    replace hS := hS.trans (same_new (o := ExO (.ref (C 20)) a20) na20)
    generalize upd H20 a20 (ExO (.ref (C 20)) a20) = H21 at hE hS ⊢
    refine ⟨_, rfl, fun a21 na21 => ?_⟩
    replace hE := AllE.plain (C := C 21) hE na21
    replace hS := hS.trans (same_new (o := ExO (.ref (C 21)) a21) na21)
    generalize upd H21 a21 (ExO (.ref (C 21)) a21) = H22 at hE hS ⊢
    refine ⟨_, rfl, fun a22 na22 => ?_⟩
    replace hE := AllE.plain (C := C 22) hE na22
    replace hS := hS.trans (same_new (o := ExO (.ref (C 22)) a22) na22)
    generalize upd H22 a22 (ExO (.ref (C 22)) a22) = H23 at hE hS ⊢
    refine ⟨_, rfl, fun a23 na23 => ?_⟩
    replace hE := AllE.plain (C := C 23) hE na23
    replace hS := hS.trans (same_new (o := ExO (.ref (C 23)) a23) na23)
    generalize upd H23 a23 (ExO (.ref (C 23)) a23) = H24 at hE hS ⊢
    refine ⟨_, rfl, fun a24 na24 => ?_⟩
    replace hE := AllE.plain (C := C 24) hE na24
    replace hS := hS.trans (same_new (o := ExO (.ref (C 24)) a24) na24)
    generalize upd H24 a24 (ExO (.ref (C 24)) a24) = H25 at hE hS ⊢
    refine ⟨_, rfl, fun a25 na25 => ?_⟩
    replace hE := AllE.plain (C := C 25) hE na25
    replace hS := hS.trans (same_new (o := ExO (.ref (C 25)) a25) na25)
    generalize upd H25 a25 (ExO (.ref (C 25)) a25) = H26 at hE hS ⊢
    refine ⟨by show 26 ≤ sizeLine; decide, fun l nl => ?_⟩
    have hE2 := hE.keep (same_new (o := .lst [.ref a0, .ref a1, .ref a2, .ref a3, .ref a4, .ref a5, .ref a6, .ref a7, .ref a8, .ref a9, .ref a10, .ref a11, .ref a12, .ref a13, .ref a14, .ref a15, .ref a16, .ref a17, .ref a18, .ref a19, .ref a20, .ref a21, .ref a22, .ref a23, .ref a24, .ref a25]) nl)
    refine q l _ (hS.free nl) (hS.trans (same_new nl)) ⟨[a0, a1, a2, a3, a4, a5, a6, a7, a8, a9, a10, a11, a12, a13, a14, a15, a16, a17, a18, a19, a20, a21, a22, a23, a24, a25], upd_same, rfl, fun k a e => ?_⟩
    rcases k with _ | _ | _ | _ | _ | _ | _ | _ | _ | _ | _ | _ | _ | _ | _ | _ | _ | _ | _ | _ | _ | _ | _ | _ | _ | _ | k
    · cases e; exact hE2 (a0, C 0, []) (List.mem_of_getElem? (i := 25) rfl)
    · cases e; exact hE2 (a1, C 1, KG.f1 "place" [.int i]) (List.mem_of_getElem? (i := 24) rfl)
    · cases e; exact hE2 (a2, C 2, KG.f1 "what" [.ref wa]) (List.mem_of_getElem? (i := 23) rfl)
    · cases e; exact hE2 (a3, C 3, []) (List.mem_of_getElem? (i := 22) rfl)
    · cases e; exact hE2 (a4, C 4, []) (List.mem_of_getElem? (i := 21) rfl)
    · cases e; exact hE2 (a5, C 5, []) (List.mem_of_getElem? (i := 20) rfl)
    · cases e; exact hE2 (a6, C 6, KG.f2 "row" "word" [.int i, .int j]) (List.mem_of_getElem? (i := 19) rfl)
    · cases e; exact hE2 (a7, C 7, KG.f1 "what" [.ref wb]) (List.mem_of_getElem? (i := 18) rfl)
    · cases e; exact hE2 (a8, C 8, []) (List.mem_of_getElem? (i := 17) rfl)
    · cases e; exact hE2 (a9, C 9, []) (List.mem_of_getElem? (i := 16) rfl)
    · cases e; exact hE2 (a10, C 10, []) (List.mem_of_getElem? (i := 15) rfl)
    · cases e; exact hE2 (a11, C 11, []) (List.mem_of_getElem? (i := 14) rfl)
    · cases e; exact hE2 (a12, C 12, []) (List.mem_of_getElem? (i := 13) rfl)
    · cases e; exact hE2 (a13, C 13, []) (List.mem_of_getElem? (i := 12) rfl)
    · cases e; exact hE2 (a14, C 14, []) (List.mem_of_getElem? (i := 11) rfl)
    · cases e; exact hE2 (a15, C 15, []) (List.mem_of_getElem? (i := 10) rfl)
    · cases e; exact hE2 (a16, C 16, []) (List.mem_of_getElem? (i := 9) rfl)
    · cases e; exact hE2 (a17, C 17, []) (List.mem_of_getElem? (i := 8) rfl)
    · cases e; exact hE2 (a18, C 18, []) (List.mem_of_getElem? (i := 7) rfl)
    · cases e; exact hE2 (a19, C 19, []) (List.mem_of_getElem? (i := 6) rfl)
    · cases e; exact hE2 (a20, C 20, []) (List.mem_of_getElem? (i := 5) rfl)
    · cases e; exact hE2 (a21, C 21, []) (List.mem_of_getElem? (i := 4) rfl)
    · cases e; exact hE2 (a22, C 22, []) (List.mem_of_getElem? (i := 3) rfl)
    · cases e; exact hE2 (a23, C 23, []) (List.mem_of_getElem? (i := 2) rfl)
    · cases e; exact hE2 (a24, C 24, []) (List.mem_of_getElem? (i := 1) rfl)
    · cases e; exact hE2 (a25, C 25, []) (List.mem_of_getElem? (i := 0) rfl)
    · simp at e
end
end KL

namespace KL
open PySem PySem.Spec PyProof.Rows L2 KA KI KK KV KE0 KG
section
variable {P : Program} {w : World} {K : PySem.W.Frag} {mg : Str → Option Value} {base : Heap} {C : Nat → Addr} {CM f1 d1 c1 f2 d2 c2 f6 d6 c6 f7 d7 c7 : Addr}
theorem ok_marks {f : Addr} {fd : FuncData} (F : Fun K "_law_marks" "_law_marks" sMarks f fd) (T : Errs P K mg C CM f1 d1 c1 f2 d2 c2 f6 d6 c6 f7 d7 c7) (mIsi : mg "isinstance" = none) : FnOk P w K mg base CX0 1 f fd ["_law_e"] (spMarks C) := by
  refine F.ok scMarks (fun vs H Q E h => ?_) (fun cdv A outer s H vs Q E hr h => ?_)
  · obtain ⟨a, i, fs, rfl, _⟩ := h
    rfl
  · obtain ⟨a, i, fs, rfl, hi, ea, q⟩ := h
    refine ⟨_, pss_one (ps_ret (pe_lst (pa_cons (pe_callB call_isErr (by rfl) mIsi (by decide +kernel) (pa_cons (pv 0) (pa_cons (pe_glob (by rfl) (T.gl 0 (by decide)) (v := .ref (C 0)) rfl) pa_nil)))
      (pa_cons (pe_callB call_isErr (by rfl) mIsi (by decide +kernel) (pa_cons (pv 0) (pa_cons (pe_glob (by rfl) (T.gl 1 (by decide)) (v := .ref (C 1)) rfl) pa_nil)))
      (pa_cons (pe_callB call_isErr (by rfl) mIsi (by decide +kernel) (pa_cons (pv 0) (pa_cons (pe_glob (by rfl) (T.gl 2 (by decide)) (v := .ref (C 2)) rfl) pa_nil)))
      (pa_cons (pe_callB call_isErr (by rfl) mIsi (by decide +kernel) (pa_cons (pv 0) (pa_cons (pe_glob (by rfl) (T.gl 3 (by decide)) (v := .ref (C 3)) rfl) pa_nil)))
      (pa_cons (pe_callB call_isErr (by rfl) mIsi (by decide +kernel) (pa_cons (pv 0) (pa_cons (pe_glob (by rfl) (T.gl 4 (by decide)) (v := .ref (C 4)) rfl) pa_nil)))
      (pa_cons (pe_callB call_isErr (by rfl) mIsi (by decide +kernel) (pa_cons (pv 0) (pa_cons (pe_glob (by rfl) (T.gl 5 (by decide)) (v := .ref (C 5)) rfl) pa_nil)))
      (pa_cons (pe_callB call_isErr (by rfl) mIsi (by decide +kernel) (pa_cons (pv 0) (pa_cons (pe_glob (by rfl) (T.gl 6 (by decide)) (v := .ref (C 6)) rfl) pa_nil)))
      (pa_cons (pe_callB call_isErr (by rfl) mIsi (by decide +kernel) (pa_cons (pv 0) (pa_cons (pe_glob (by rfl) (T.gl 7 (by decide)) (v := .ref (C 7)) rfl) pa_nil)))
      (pa_cons (pe_callB call_isErr (by rfl) mIsi (by decide +kernel) (pa_cons (pv 0) (pa_cons (pe_glob (by rfl) (T.gl 8 (by decide)) (v := .ref (C 8)) rfl) pa_nil)))
      (pa_cons (pe_callB call_isErr (by rfl) mIsi (by decide +kernel) (pa_cons (pv 0) (pa_cons (pe_glob (by rfl) (T.gl 9 (by decide)) (v := .ref (C 9)) rfl) pa_nil)))
      (pa_cons (pe_callB call_isErr (by rfl) mIsi (by decide +kernel) (pa_cons (pv 0) (pa_cons (pe_glob (by rfl) (T.gl 10 (by decide)) (v := .ref (C 10)) rfl) pa_nil)))
      (pa_cons (pe_callB call_isErr (by rfl) mIsi (by decide +kernel) (pa_cons (pv 0) (pa_cons (pe_glob (by rfl) (T.gl 11 (by decide)) (v := .ref (C 11)) rfl) pa_nil)))
      (pa_cons (pe_callB call_isErr (by rfl) mIsi (by decide +kernel) (pa_cons (pv 0) (pa_cons (pe_glob (by rfl) (T.gl 12 (by decide)) (v := .ref (C 12)) rfl) pa_nil)))
      (pa_cons (pe_callB call_isErr (by rfl) mIsi (by decide +kernel) (pa_cons (pv 0) (pa_cons (pe_glob (by rfl) (T.gl 13 (by decide)) (v := .ref (C 13)) rfl) pa_nil)))
      (pa_cons (pe_callB call_isErr (by rfl) mIsi (by decide +kernel) (pa_cons (pv 0) (pa_cons (pe_glob (by rfl) (T.gl 14 (by decide)) (v := .ref (C 14)) rfl) pa_nil)))
      (pa_cons (pe_callB call_isErr (by rfl) mIsi (by decide +kernel) (pa_cons (pv 0) (pa_cons (pe_glob (by rfl) (T.gl 15 (by decide)) (v := .ref (C 15)) rfl) pa_nil)))
      (pa_cons (pe_callB call_isErr (by rfl) mIsi (by decide +kernel) (pa_cons (pv 0) (pa_cons (pe_glob (by rfl) (T.gl 16 (by decide)) (v := .ref (C 16)) rfl) pa_nil)))
      (pa_cons (pe_callB call_isErr (by rfl) mIsi (by decide +kernel) (pa_cons (pv 0) (pa_cons (pe_glob (by rfl) (T.gl 17 (by decide)) (v := .ref (C 17)) rfl) pa_nil)))
      (pa_cons (pe_callB call_isErr (by rfl) mIsi (by decide +kernel) (pa_cons (pv 0) (pa_cons (pe_glob (by rfl) (T.gl 18 (by decide)) (v := .ref (C 18)) rfl) pa_nil)))
      (pa_cons (pe_callB call_isErr (by rfl) mIsi (by decide +kernel) (pa_cons (pv 0) (pa_cons (pe_glob (by rfl) (T.gl 19 (by decide)) (v := .ref (C 19)) rfl) pa_nil)))
      (pa_cons (pe_callB call_isErr (by rfl) mIsi (by decide +kernel) (pa_cons (pv 0) (pa_cons (pe_glob (by rfl) (T.gl 20 (by decide)) (v := .ref (C 20)) rfl) pa_nil)))
      (pa_cons (pe_callB call_isErr (by rfl) mIsi (by decide +kernel) (pa_cons (pv 0) (pa_cons (pe_glob (by rfl) (T.gl 21 (by decide)) (v := .ref (C 21)) rfl) pa_nil)))
      (pa_cons (pe_callB call_isErr (by rfl) mIsi (by decide +kernel) (pa_cons (pv 0) (pa_cons (pe_glob (by rfl) (T.gl 22 (by decide)) (v := .ref (C 22)) rfl) pa_nil)))
      (pa_cons (pe_callB call_isErr (by rfl) mIsi (by decide +kernel) (pa_cons (pv 0) (pa_cons (pe_glob (by rfl) (T.gl 23 (by decide)) (v := .ref (C 23)) rfl) pa_nil)))
      (pa_cons (pe_callB call_isErr (by rfl) mIsi (by decide +kernel) (pa_cons (pv 0) (pa_cons (pe_glob (by rfl) (T.gl 24 (by decide)) (v := .ref (C 24)) rfl) pa_nil)))
      (pa_cons (pe_callB call_isErr (by rfl) mIsi (by decide +kernel) (pa_cons (pv 0) (pa_cons (pe_glob (by rfl) (T.gl 25 (by decide)) (v := .ref (C 25)) rfl) pa_nil)))
      pa_nil)))))))))))))))))))))))))))), ?_⟩
    refine ⟨_, rfl, a, C i, fs, _, _, decide (i = 0), rfl, .own _, ea, T.g i hi, T.kit i 0 hi (by decide), ?_⟩
    refine ⟨_, rfl, a, C i, fs, _, _, decide (i = 1), rfl, .own _, ea, T.g i hi, T.kit i 1 hi (by decide), ?_⟩
    refine ⟨_, rfl, a, C i, fs, _, _, decide (i = 2), rfl, .own _, ea, T.g i hi, T.kit i 2 hi (by decide), ?_⟩
    refine ⟨_, rfl, a, C i, fs, _, _, decide (i = 3), rfl, .own _, ea, T.g i hi, T.kit i 3 hi (by decide), ?_⟩
    refine ⟨_, rfl, a, C i, fs, _, _, decide (i = 4), rfl, .own _, ea, T.g i hi, T.kit i 4 hi (by decide), ?_⟩
    refine ⟨_, rfl, a, C i, fs, _, _, decide (i = 5), rfl, .own _, ea, T.g i hi, T.kit i 5 hi (by decide), ?_⟩
    refine ⟨_, rfl, a, C i, fs, _, _, decide (i = 6), rfl, .own _, ea, T.g i hi, T.kit i 6 hi (by decide), ?_⟩
    refine ⟨_, rfl, a, C i, fs, _, _, decide (i = 7), rfl, .own _, ea, T.g i hi, T.kit i 7 hi (by decide), ?_⟩
    refine ⟨_, rfl, a, C i, fs, _, _, decide (i = 8), rfl, .own _, ea, T.g i hi, T.kit i 8 hi (by decide), ?_⟩
    refine ⟨_, rfl, a, C i, fs, _, _, decide (i = 9), rfl, .own _, ea, T.g i hi, T.kit i 9 hi (by decide), ?_⟩
    refine ⟨_, rfl, a, C i, fs, _, _, decide (i = 10), rfl, .own _, ea, T.g i hi, T.kit i 10 hi (by decide), ?_⟩
    refine ⟨_, rfl, a, C i, fs, _, _, decide (i = 11), rfl, .own _, ea, T.g i hi, T.kit i 11 hi (by decide), ?_⟩
    refine ⟨_, rfl, a, C i, fs, _, _, decide (i = 12), rfl, .own _, ea, T.g i hi, T.kit i 12 hi (by decide), ?_⟩
    refine ⟨_, rfl, a, C i, fs, _, _, decide (i = 13), rfl, .own _, ea, T.g i hi, T.kit i 13 hi (by decide), ?_⟩
    refine ⟨_, rfl, a, C i, fs, _, _, decide (i = 14), rfl, .own _, ea, T.g i hi, T.kit i 14 hi (by decide), ?_⟩
    refine ⟨_, rfl, a, C i, fs, _, _, decide (i = 15), rfl, .own _, ea, T.g i hi, T.kit i 15 hi (by decide), ?_⟩
    refine ⟨_, rfl, a, C i, fs, _, _, decide (i = 16), rfl, .own _, ea, T.g i hi, T.kit i 16 hi (by decide), ?_⟩
    refine ⟨_, rfl, a, C i, fs, _, _, decide (i = 17), rfl, .own _, ea, T.g i hi, T.kit i 17 hi (by decide), ?_⟩
    refine ⟨_, rfl, a, C i, fs, _, _, decide (i = 18), rfl, .own _, ea, T.g i hi, T.kit i 18 hi (by decide), ?_⟩
    refine ⟨_, rfl, a, C i, fs, _, _, decide (i = 19), rfl, .own _, ea, T.g i hi, T.kit i 19 hi (by decide), ?_⟩
    refine ⟨_, rfl, a, C i, fs, _, _, decide (i = 20), rfl, .own _, ea, T.g i hi, T.kit i 20 hi (by decide), ?_⟩
    refine ⟨_, rfl, a, C i, fs, _, _, decide (i = 21), rfl, .own _, ea, T.g i hi, T.kit i 21 hi (by decide), ?_⟩
    refine ⟨_, rfl, a, C i, fs, _, _, decide (i = 22), rfl, .own _, ea, T.g i hi, T.kit i 22 hi (by decide), ?_⟩
    refine ⟨_, rfl, a, C i, fs, _, _, decide (i = 23), rfl, .own _, ea, T.g i hi, T.kit i 23 hi (by decide), ?_⟩
    refine ⟨_, rfl, a, C i, fs, _, _, decide (i = 24), rfl, .own _, ea, T.g i hi, T.kit i 24 hi (by decide), ?_⟩
    refine ⟨_, rfl, a, C i, fs, _, _, decide (i = 25), rfl, .own _, ea, T.g i hi, T.kit i 25 hi (by decide), ?_⟩
    exact ⟨by show 26 ≤ sizeLine; decide, fun l nl => q l _ nl (same_new nl) upd_same⟩
end
end KL

namespace KL
open PySem PySem.Spec PyProof.Rows L2 KA KI KK KV KE0 KG
section
variable {P : Program} {w : World} {K : PySem.W.Frag} {mg : Str → Option Value} {base : Heap} {C : Nat → Addr} {CM f1 d1 c1 f2 d2 c2 f6 d6 c6 f7 d7 c7 : Addr}
theorem ok_fields {f : Addr} {fd : FuncData} (F : Fun K "_law_fields" "_law_fields" sFields f fd) (T : Errs P K mg C CM f1 d1 c1 f2 d2 c2 f6 d6 c6 f7 d7 c7) : FnOk P w K mg base CX0 1 f fd ["_law_errors"] (spFields C) := by
  refine F.ok scFields (fun vs H Q E h => ?_) (fun cdv A outer s H vs Q E hr h => ?_)
  · obtain ⟨l, a, b, c, d, rfl, _⟩ := h
    rfl
  · obtain ⟨l, one, other, what, more, rfl, ⟨as, h1, h2, h3⟩, q⟩ := h
    refine ⟨_, pss_one (ps_ret (pe_tup (pa_cons (pe_efld (pe_ix ix_list (pv 0) pe_int (fun _ _ => rfl))) (pa_cons (pe_efld (pe_ix ix_list (pv 0) pe_int (fun _ _ => rfl))) (pa_cons (pe_efld (pe_ix ix_list (pv 0) pe_int (fun _ _ => rfl)))
      (pa_cons (pe_efld (pe_ix ix_list (pv 0) pe_int (fun _ _ => rfl))) (pa_cons (pe_efld (pe_ix ix_list (pv 0) pe_int (fun _ _ => rfl))) pa_nil))))))), ?_⟩
    have at_ : ∀ i, i < 26 → ∃ a, atI (as.map V.ref) ((i : Nat) : Int) = some (V.ref a) ∧ ErrAt H a (C i) (fsOf one other what more i) := fun i hi => by
      have hi2 : i < as.length := by omega
      exact ⟨as[i], atI_nat (by rw [List.getElem?_map, List.getElem?_eq_getElem hi2]; rfl), h3 i _ (List.getElem?_eq_getElem hi2)⟩
    obtain ⟨a1, i1, e1⟩ := at_ 1 (by decide)
    obtain ⟨a2, i2, e2⟩ := at_ 2 (by decide)
    obtain ⟨a6, i6, e6⟩ := at_ 6 (by decide)
    obtain ⟨a7, i7, e7⟩ := at_ 7 (by decide)
    refine ⟨_, rfl, l, _, 1, _, rfl, rfl, SqL.of h1, i1, a1, C 1, _, one, rfl, e1, T.g 1 (by decide), T.noPlace, by rfl, ?_⟩
    refine ⟨_, rfl, l, _, 2, _, rfl, rfl, SqL.of h1, i2, a2, C 2, _, what, rfl, e2, T.g 2 (by decide), T.noWhat, by rfl, ?_⟩
    refine ⟨_, rfl, l, _, 6, _, rfl, rfl, SqL.of h1, i6, a6, C 6, _, one, rfl, e6, T.g 6 (by decide), T.noRow, by rfl, ?_⟩
    refine ⟨_, rfl, l, _, 6, _, rfl, rfl, SqL.of h1, i6, a6, C 6, _, other, rfl, e6, T.g 6 (by decide), T.noWord, by rfl, ?_⟩
    refine ⟨_, rfl, l, _, 7, _, rfl, rfl, SqL.of h1, i7, a7, C 7, _, more, rfl, e7, T.g 7 (by decide), T.noWhat7, by rfl, ?_⟩
    exact ⟨by show 5 ≤ sizeLine; decide, fun t nt => q t _ nt (same_new nt) upd_same⟩
end
end KL

namespace KM
open PySem PySem.Spec PyProof.Rows L2 KA KI KK KV KE0 KG KL
abbrev sLaw : Stmt := top 38
theorem scLaw : FnScope ["_law_script", "_law_k", "_law_feed_here", "_law_one_here", "_law_other", "_law_what_here", "_law_more", "_law_text", "_law_turn", "_law_errors", "_law_others", "_law_at", "_law_place_here"] ["_law_script"] (defScope sLaw) := ⟨rfl, rfl, rfl, by decide +kernel, rfl, by decide +kernel, by decide +kernel⟩
def spLaw (K : PySem.W.Frag) : Sp := fun vs H Q _ => ∃ (a : Addr) (ns : List Int), vs = [.ref a] ∧ SqL K H a (ns.map V.int) ∧ ns.length ≤ 63 ∧ ∀ H', Q (.bl true) H'
/-- the built-in names that the module leaves alone -/
structure Bl (mg : Str → Option Value) : Prop where
  isi : mg "isinstance" = none
  bool : mg "bool" = none
  tup : mg "tuple" = none
  len : mg "len" = none
  rng : mg "range" = none
  max : mg "max" = none
  min : mg "min" = none
  int : mg "int" = none
  sum : mg "sum" = none
  ve : mg "ValueError" = none
section
variable {P : Program} {w : World} {K : PySem.W.Frag} {mg : Str → Option Value} {base : Heap} {C : Nat → Addr} {CM f1 d1 c1 f2 d2 c2 f6 d6 c6 f7 d7 c7 : Addr}
theorem ok_law {f fF fD fO fA fP fW fM fK fG : Addr} {fd fdF fdD fdO fdA fdP fdW fdM fdK fdG : FuncData} (F : Fun K "law" "law" sLaw f fd) (T : Errs P K mg C CM f1 d1 c1 f2 d2 c2 f6 d6 c6 f7 d7 c7) (B : Bl mg)
    (FF : Fun K "_law_feed" "_law_feed" sFeed fF fdF) (bF : Binds K fdF ["_law_script", "_law_k"] []) (gF : mg "_law_feed" = some (.ref fF))
    (FD : Fun K "_law_draw" "_law_draw" sDraw fD fdD) (bD : Binds K fdD ["_law_feed_here", "_law_many"] []) (gD : mg "_law_draw" = some (.ref fD))
    (FO : Fun K "_law_one" "_law_one" sOne fO fdO) (bO : Binds K fdO ["_law_feed_here", "_law_things"] []) (gO : mg "_law_one" = some (.ref fO))
    (FA : Fun K "_law_alike" "_law_alike" sAlike fA fdA) (bA : Binds K fdA ["_law_found", "_law_due"] []) (gA : mg "_law_alike" = some (.ref fA))
    (FP : Fun K "_law_place" "_law_place" sPlace fP fdP) (bP : Binds K fdP ["_law_feed_here"] []) (gP : mg "_law_place" = some (.ref fP))
    (FW : Fun K "_law_what" "_law_what" sWhat fW fdW) (bW : Binds K fdW ["_law_feed_here"] []) (gW : mg "_law_what" = some (.ref fW))
    (FM : Fun K "_law_made" "_law_made" sMade fM fdM) (bM : Binds K fdM ["_law_text", "_law_one_here", "_law_other", "_law_what_here", "_law_more"] []) (gM : mg "_law_made" = some (.ref fM))
    (FK : Fun K "_law_marks" "_law_marks" sMarks fK fdK) (bK : Binds K fdK ["_law_e"] []) (gK : mg "_law_marks" = some (.ref fK))
    (FG : Fun K "_law_fields" "_law_fields" sFields fG fdG) (bG : Binds K fdG ["_law_errors"] []) (gG : mg "_law_fields" = some (.ref fG)) :
    FnOk P w K mg base CX0 7 f fd ["_law_script"] (spLaw K) := by
  have GF : FnOk P w K mg base CX0 1 fF fdF ["_law_script", "_law_k"] (spFeed K) := ok_feed FF B.sum B.len B.max B.int
  have GD : FnOk P w K mg base CX0 1 fD fdD ["_law_feed_here", "_law_many"] spDraw := ok_draw FD B.int
  have GO : FnOk P w K mg base CX0 2 fO fdO ["_law_feed_here", "_law_things"] (spOne K) := ok_one FO FD bD gD B.int B.len
  have GA : FnOk P w K mg base CX0 1 fA fdA ["_law_found", "_law_due"] spAlike := ok_alike FA B.isi B.bool B.tup B.len B.rng
  have GP : FnOk P w K mg base CX0 3 fP fdP ["_law_feed_here"] spPlace := ok_place FP FD bD gD FO bO gO B.int B.len
  have GW : FnOk P w K mg base CX0 3 fW fdW ["_law_feed_here"] spWhat := ok_what FW FD bD gD FO bO gO B.int B.len
  have GM : FnOk P w K mg base CX0 6 fM fdM ["_law_text", "_law_one_here", "_law_other", "_law_what_here", "_law_more"] (spMade C) := ok_made FM T
  have GK : FnOk P w K mg base CX0 1 fK fdK ["_law_e"] (spMarks C) := ok_marks FK T B.isi
  have GG : FnOk P w K mg base CX0 1 fG fdG ["_law_errors"] (spFields C) := ok_fields FG T
  refine F.ok scLaw (fun vs H Q E h => ?_) (fun cdv A outer s H vs Q E hr h => ?_)
  · obtain ⟨a, ns, rfl, _⟩ := h
    rfl
  · obtain ⟨a, ns, rfl, hS, hlen, q⟩ := h
    have hr1 : Room 1 _ := hr.mono (by decide)
    have hr2 : Room 2 _ := hr.mono (by decide)
    have hr3 : Room 3 _ := hr.mono (by decide)
    refine ⟨_, pss_cons (ps_for PassesOwn.never rfl (pi_range1 (by rfl) B.rng (pa_cons (pe_callB (call_max2 rfl) (by rfl) B.max (by decide +kernel) (pa_cons pe_int (pa_cons (pe_callB (call_min2 rfl) (by rfl) B.min (by decide +kernel) (pa_cons pe_int (pa_cons (pe_callB call_len_seq (by rfl) B.len PySem.boot_len (pa_cons (pv 0) pa_nil)) pa_nil))) pa_nil))) pa_nil))
        (pg_name (i := 1) scLaw.nd rfl (Or.inl rfl))
        (pss_cons (ps_set (i := 2) scLaw.nd rfl (Or.inl rfl) (pe_call GF hr1 (by rfl) gF FF.kp bF .nil pass0 (pa_cons (pv 0) (pa_cons (pv 1) pa_nil))))
        (pss_cons (ps_asg (pe_tup (pa_cons (pe_call GP hr3 (by rfl) gP FP.kp bP .nil pass0 (pa_cons (pv 2) pa_nil)) (pa_cons (pe_call GP hr3 (by rfl) gP FP.kp bP .nil pass0 (pa_cons (pv 2) pa_nil)) (pa_cons (pe_call GW hr3 (by rfl) gW FW.kp bW .nil pass0 (pa_cons (pv 2) pa_nil)) (pa_cons (pe_call GW hr3 (by rfl) gW FW.kp bW .nil pass0 (pa_cons (pv 2) pa_nil)) pa_nil)))))
          (pg_tup rfl (pgs_cons (pg_name (i := 3) scLaw.nd rfl (Or.inl rfl)) (pgs_cons (pg_name (i := 4) scLaw.nd rfl (Or.inl rfl)) (pgs_cons (pg_name (i := 5) scLaw.nd rfl (Or.inl rfl)) (pgs_cons (pg_name (i := 6) scLaw.nd rfl (Or.inl rfl)) pgs_nil))))))
        (pss_cons (ps_set (i := 7) scLaw.nd rfl (Or.inl rfl) pe_str)
        (pss_cons (ps_for PassesOwn.never rfl (pi_range1 (by rfl) B.rng (pa_cons (pe_call GD hr1 (by rfl) gD FD.kp bD .nil pass0 (pa_cons (pv 2) (pa_cons pe_int pa_nil))) pa_nil)) (pg_name (i := 8) scLaw.nd rfl (Or.inl rfl))
          (pss_one (ps_set (i := 7) scLaw.nd rfl (Or.inl rfl) (pe_op op_add_str (pv 7) (pe_call GO hr2 (by rfl) gO FO.kp bO .nil pass0 (pa_cons (pv 2) (pa_cons pe_str pa_nil)))))))
        (pss_cons (ps_set (i := 9) scLaw.nd rfl (Or.inl rfl) (pe_call GM hr (by rfl) gM FM.kp bM .nil pass0 (pa_cons (pv 7) (pa_cons (pv 3) (pa_cons (pv 4) (pa_cons (pv 5) (pa_cons (pv 6) pa_nil)))))))
        (pss_cons (ps_set (i := 10) scLaw.nd rfl (Or.inl rfl) (pe_call GM hr (by rfl) gM FM.kp bM .nil pass0 (pa_cons (pv 7) (pa_cons (pv 4) (pa_cons (pv 3) (pa_cons (pv 6) (pa_cons (pv 5) pa_nil)))))))
        (pss_cons (ps_if (pt_not (pt_val (pe_call GA hr1 (by rfl) gA FA.kp bA .nil pass0 (pa_cons (pe_call GG hr1 (by rfl) gG FG.kp bG .nil pass0 (pa_cons (pv 9) pa_nil)) (pa_cons (pe_tup (pa_cons (pv 3) (pa_cons (pv 5) (pa_cons (pv 3) (pa_cons (pv 4) (pa_cons (pv 6) pa_nil)))))) pa_nil))))) (pss_one (ps_ret pe_bl)) pss_nil)
        (pss_cons (ps_if (pt_not (pt_val (pe_call GA hr1 (by rfl) gA FA.kp bA .nil pass0 (pa_cons (pe_call GG hr1 (by rfl) gG FG.kp bG .nil pass0 (pa_cons (pv 10) pa_nil)) (pa_cons (pe_tup (pa_cons (pv 4) (pa_cons (pv 6) (pa_cons (pv 4) (pa_cons (pv 3) (pa_cons (pv 5) pa_nil)))))) pa_nil))))) (pss_one (ps_ret pe_bl)) pss_nil)
        (pss_one (ps_for PassesOwn.never rfl (pi_range1 (by rfl) B.rng (pa_cons (pe_callB call_len_seq (by rfl) B.len PySem.boot_len (pa_cons (pv 9) pa_nil)) pa_nil)) (pg_name (i := 11) scLaw.nd rfl (Or.inr rfl))
          (pss_cons (ps_if (PW.pt (pw_or (pt_not (pt_val (pe_callB call_isErr (by rfl) B.isi (by decide +kernel) (pa_cons (pe_ix ix_list (pv 9) (pv 11) (fun _ _ => rfl)) (pa_cons (pe_glob (by rfl) T.glM (v := .ref CM) rfl) pa_nil)))))
              (pw_or1 (pt_not (pt_val (pe_callB call_isErr (by rfl) B.isi (by decide +kernel) (pa_cons (pe_ix ix_list (pv 9) (pv 11) (fun _ _ => rfl)) (pa_cons (pe_bltn (by rfl) B.ve (v := .ty "ValueError") (by decide +kernel) rfl) pa_nil)))))))) (pss_one (ps_ret pe_bl)) pss_nil)
          (pss_one (ps_if (pt_cmpR (op_neD hr.units) (pe_call GK hr1 (by rfl) gK FK.kp bK .nil pass0 (pa_cons (pe_ix ix_list (pv 9) (pv 11) (fun _ _ => rfl)) pa_nil))
            (pe_lc (own := [("_law_place_here", 12)]) (g := gName 12) (tt := tYes) (te := tOp rEq (tVar 12) (tVar 11)) rfl scLaw.nd (pi_range1 (by rfl) B.rng (pa_cons (pe_callB call_len_seq (by rfl) B.len PySem.boot_len (pa_cons (pv 9) pa_nil)) pa_nil))
              (blkOk_by (N := ["_law_script", "_law_k", "_law_feed_here", "_law_one_here", "_law_other", "_law_what_here", "_law_more", "_law_text", "_law_turn", "_law_errors", "_law_others", "_law_at", "_law_place_here"]) (sc := defScope sLaw) (by decide +kernel)) (fun _ _ _ _ _ => pg_name (i := 12) scLaw.nd rfl (Or.inl rfl)) (fun _ _ _ _ _ => pts_nil)
              (fun _ _ _ _ _ => pe_cmpR op_eq (pv 12) (pv 11) (nomark _))) (nomark _)) (pss_one (ps_ret pe_bl)) pss_nil))))))))))))))
      (pss_one (ps_ret pe_bl)), ?_⟩
    -- range(max(1, min(20, len(script))))
    refine ⟨_, rfl, a, _, rfl, .inl hS, _, _, rfl, _, _, rfl, _, rfl, ?_, ?_, ?_⟩
    · split <;> split <;> omega
    · split <;> split <;> omega
    refine for_range (lo := 0) (fun i σ H' => ∃ o1 o2 o3 o4 o5 o6 o7 o8 o9 o10 o11 o12 : Option V, σ = [some (.ref a), o1, o2, o3, o4, o5, o6, o7, o8, o9, o10, o11, o12] ∧ Same H H') ⟨none, none, none, none, none, none, none, none, none, none, none, none, rfl, Same.refl H⟩ ?_ (fun σ H' _ => q H')
    rintro k σ H1 hk ⟨o1, o2, o3, o4, o5, o6, o7, o8, o9, o10, o11, o12, rfl, hS1⟩
    have hk20 : k ≤ 20 := by
      have : k < 20 := by
        refine Nat.lt_of_lt_of_le hk ?_
        rw [List.length_map]
        split <;> split <;> omega
      omega
    -- the feed
    refine ⟨_, rfl, _, rfl, a, ns, k, by rw [Int.zero_add]; rfl, hS1.seq hS, by omega, fun p H2 np s2 hF2 => ?_⟩
    have k2 : Kept p H1 H2 := .of_same s2
    -- two places, two things told
    refine ⟨_, rfl, p, 0, rfl, hF2, by decide, fun i H3 hi k3 hF3 => ?_⟩
    refine ⟨_, rfl, p, _, rfl, hF3, by decide, fun j H4 hj k4 hF4 => ?_⟩
    refine ⟨_, rfl, p, _, rfl, hF4, by decide, fun wa da m5 H5 nwa hwa k5 hF5 hm5 => ?_⟩
    refine ⟨_, rfl, p, _, rfl, hF5, by omega, fun wb db m6 H6 nwb hwb k6 hF6 hm6 => ?_⟩
    have hwa6 := what_keep hwa (k6.tups hF5)
    refine ⟨by show 4 ≤ sizeLine; decide, fun t nt => ?_⟩
    refine ⟨t, _, rfl, SqT.of upd_same, rfl, _, _, rfl, _, _, rfl, _, _, rfl, _, _, rfl, rfl, ?_⟩
    have k7 : Kept p H1 (upd H6 t (.tup [.int i, .int j, .ref wa, .ref wb])) := ((((k2.trans k3).trans k4).trans k5).trans k6).trans (Kept.new nt)
    have hF7 := feed_new (o := .tup [.int i, .int j, .ref wa, .ref wb]) hF6 nt
    have tn : TupSame H6 (upd H6 t (.tup [.int i, .int j, .ref wa, .ref wb])) := (Kept.new (p := p) nt).tups hF6
    have hwa7 := what_keep hwa6 tn
    have hwb7 := what_keep hwb tn
    generalize upd H6 t (.tup [.int i, .int j, .ref wa, .ref wb]) = H7 at k7 hF7 hwa7 hwb7 ⊢
    -- the text
    refine ⟨_, rfl, p, _, m6, rfl, hF7, by omega, by decide, by decide, fun r H8 r0 r1 b8 hF8 => ⟨r, rfl, by omega, by omega, ?_⟩⟩
    have k78 : Kept p H7 H8 := .of_but b8
    have hwa8 := what_keep hwa7 (k78.tups hF7)
    have hwb8 := what_keep hwb7 (k78.tups hF7)
    have k8 : Kept p H1 H8 := k7.trans k78
    refine for_range (lo := 0) (fun i2 σ H' => ∃ (z : Str) (o8 : Option V), σ = [some (.ref a), some (.int (0 + k)), some (.ref p), some (.int i), some (.int j), some (.ref wa), some (.ref wb), some (.str z), o8, o9, o10, o11, o12] ∧ z.length ≤ i2 ∧ i2 ≤ 40 ∧ Kept p H1 H' ∧ TupSame H8 H' ∧ FeedAt H' p (m6 + 1 + i2))
      ⟨_, _, rfl, Nat.le_refl _, by omega, k8, fun _ _ e => e, hF8⟩ ?_ ?_
    · rintro i2 σ H9 hi2 ⟨z, p8, rfl, hz, hz2, k9, t9, hF9⟩
      have hi30 : i2 < 31 := by omega
      refine ⟨_, rfl, _, rfl, p, _, hF9, by omega, .inr ⟨_, rfl, by decide +kernel, by decide +kernel, fun c H10 hc b10 hF10 => ?_⟩⟩
      have k910 : Kept p H9 H10 := .of_but b10
      refine ⟨_, _, rfl, rfl, ?_, _, _, rfl, ?_, by omega, k9.trans k910, fun b xs e => k910.tups hF9 _ _ (t9 _ _ e), hF10⟩
      · have : (⟨#[c]⟩ : Str).length = 1 := rfl
        exact Nat.le_of_lt (small1000 (by omega))
      · rw [strLen_append]
        have : (⟨#[c]⟩ : Str).length = 1 := rfl
        omega
    rintro σ H9 ⟨z, p8, rfl, hz, hz2, k9, t9, hF9⟩
    have hwa9 := what_keep hwa8 t9
    have hwb9 := what_keep hwb8 t9
    have hS9 : Same H H9 := fun b o e => k9 b o (fun z => by rw [z] at e; have := hS1 _ _ e; rw [np] at this; cases this) (hS1 b o e)
    have hi6 : i.natAbs < 10 ^ 60 := Nat.lt_trans hi (by decide)
    have hj6 : j.natAbs < 10 ^ 60 := Nat.lt_trans hj (by decide)
    -- the errors
    refine ⟨_, rfl, _, rfl, _, rfl, _, rfl, _, rfl, z, i, j, wa, wb, da, db, rfl, hi6, hj6, hwa9, hwb9, fun l H10 nl s10 hm10 => ?_⟩
    have hwa10 := what_keep hwa9 fun _ _ e => s10 _ _ e
    have hwb10 := what_keep hwb9 fun _ _ e => s10 _ _ e
    refine ⟨_, rfl, _, rfl, _, rfl, _, rfl, _, rfl, z, j, i, wb, wa, db, da, rfl, hj6, hi6, hwb10, hwa10, fun l2 H11 nl2 s11 hm11 => ?_⟩
    have hwa11 := what_keep hwa10 fun _ _ e => s11 _ _ e
    have hwb11 := what_keep hwb10 fun _ _ e => s11 _ _ e
    have hm10' := hm10.keep s11
    have data : ∀ {Hx : Hp} {u v : Addr} {du dv : PyData} (x y : Int) (ta : Addr), WhatAt Hx u du → WhatAt Hx v dv → Hx ta = some (.tup [.int x, .ref u, .int x, .int y, .ref v]) → Dv Hx (.ref ta) (.tuple [.int x, du, .int x, .int y, dv]) := fun x y ta hu hv ht =>
      .tup ht (.cons (.int x) (.cons hu.dv (.cons (.int x) (.cons (.int y) (.cons hv.dv .nil)))))
    have good : ∀ {Hx : Hp} {u v : Addr} {du dv : PyData} (x y : Int), WhatAt Hx u du → WhatAt Hx v dv → Good (.tuple [.int x, du, .int x, .int y, dv]) ∧ nodes (.tuple [.int x, du, .int x, .int y, dv]) ≤ 1000 := fun {Hx u v du dv} x y hu hv => by
      have a1 := hu.lay
      have a2 := hv.lay
      have b1 := hu.deep
      have b2 := hv.deep
      have c1 := hu.few
      have c2 := hv.few
      refine ⟨⟨by simp [PyData.canLay0, PyData.canLayAll0, a1, a2], ?_⟩, ?_⟩
      · simp only [PyData.depth, PyData.depthAll]
        omega
      · simp only [nodes, nodesAll]
        omega
    have tups : ∀ {Hx Hy : Hp}, Same Hx Hy → TupSame Hx Hy := fun s _ _ e => s _ _ e
    -- the fields of the first ones
    refine ⟨_, rfl, l, _, _, _, _, rfl, hm10', fun t1 H12 nt1 s12 ht1 => ?_⟩
    refine ⟨_, rfl, _, rfl, _, rfl, _, rfl, _, rfl, by show 5 ≤ sizeLine; decide, fun t2 nt2 => ?_⟩
    have s13 := same_new (o := .tup [.int i, .ref wa, .int i, .int j, .ref wb]) nt2
    have ht1' := s13 _ _ ht1
    have ht2 : (upd H12 t2 (.tup [.int i, .ref wa, .int i, .int j, .ref wb])) t2 = some (.tup [.int i, .ref wa, .int i, .int j, .ref wb]) := upd_same
    have s11' := s12.trans s13
    generalize upd H12 t2 (.tup [.int i, .ref wa, .int i, .int j, .ref wb]) = H13 at ht1' ht2 s11' ⊢
    have hwa13 := what_keep hwa11 (tups s11')
    have hwb13 := what_keep hwb11 (tups s11')
    obtain ⟨g1, g2⟩ := good i j hwa13 hwb13
    refine ⟨_, _, _, rfl, data i j t1 hwa13 hwb13 ht1', data i j t2 hwa13 hwb13 ht2, g1, g2, fun H14 s14 => ⟨true, rfl, iteF ?_⟩⟩
    have sA := s11'.trans s14
    have hm14 := hm10'.keep sA
    have hm14' := hm11.keep sA
    have hwa14 := what_keep hwa11 (tups sA)
    have hwb14 := what_keep hwb11 (tups sA)
    have hSA : Same H H14 := ((hS9.trans s10).trans s11).trans sA
    -- of the others
    refine ⟨_, rfl, l2, _, _, _, _, rfl, hm14', fun t3 H15 nt3 s15 ht3 => ?_⟩
    refine ⟨_, rfl, _, rfl, _, rfl, _, rfl, _, rfl, by show 5 ≤ sizeLine; decide, fun t4 nt4 => ?_⟩
    have s16 := same_new (o := .tup [.int j, .ref wb, .int j, .int i, .ref wa]) nt4
    have ht3' := s16 _ _ ht3
    have ht4 : (upd H15 t4 (.tup [.int j, .ref wb, .int j, .int i, .ref wa])) t4 = some (.tup [.int j, .ref wb, .int j, .int i, .ref wa]) := upd_same
    have s14' := s15.trans s16
    generalize upd H15 t4 (.tup [.int j, .ref wb, .int j, .int i, .ref wa]) = H16 at ht3' ht4 s14' ⊢
    have hwa16 := what_keep hwa14 (tups s14')
    have hwb16 := what_keep hwb14 (tups s14')
    obtain ⟨g3, g4⟩ := good j i hwb16 hwa16
    refine ⟨_, _, _, rfl, data j i t3 hwb16 hwa16 ht3', data j i t4 hwb16 hwa16 ht4, g3, g4, fun H17 s17 => ⟨true, rfl, iteF ?_⟩⟩
    have sB := s14'.trans s17
    have hm17 := hm14.keep sB
    have hSB : Same H H17 := hSA.trans sB
    obtain ⟨as, hl, hlen26, hat⟩ := hm17
    have hl26 : (as.map V.ref).length = 26 := by rw [List.length_map]; exact hlen26
    -- each one's classes
    refine ⟨_, rfl, l, _, rfl, .inl (SqL.of hl), _, rfl, by rw [hl26]; decide, by rw [hl26]; decide, ?_⟩
    refine for_range (lo := 0) (fun i2 σ H' => ∃ p11 p12 : Option V, σ = [some (.ref a), some (.int (0 + k)), some (.ref p), some (.int i), some (.int j), some (.ref wa), some (.ref wb), some (.str z), p8, some (.ref l), some (.ref l2), p11, p12] ∧ Same H17 H')
      ⟨_, _, rfl, Same.refl _⟩ ?_ (fun σ H' ⟨p11, p12, e, s'⟩ => ⟨_, _, _, _, _, _, _, _, _, _, _, _, e, hSB.trans s'⟩)
    rintro i2 σ H18 hi2 ⟨p11, p12, rfl, s18⟩
    have hi26 : i2 < 26 := by rw [hl26] at hi2; exact hi2
    have hias : i2 < as.length := by omega
    have hl18 := s18 _ _ hl
    have he18 : ErrAt H18 as[i2] (C i2) _ := (hat i2 _ (List.getElem?_eq_getElem hias)).keep s18
    have hix : atI (as.map V.ref) (0 + (i2 : Int)) = some (V.ref as[i2]) := by
      rw [Int.zero_add]
      exact atI_nat (by rw [List.getElem?_map, List.getElem?_eq_getElem hias]; rfl)
    refine ⟨_, rfl, _, rfl, l, _, _, _, rfl, rfl, SqL.of hl18, hix, as[i2], C i2, _, _, _, true, rfl, .own _, he18, T.g i2 hi26, T.kitM i2 hi26, true, rfl, iteF ?_⟩
    refine ⟨_, rfl, _, rfl, l, _, _, _, rfl, rfl, SqL.of hl18, hix, as[i2], C i2, _, _, _, true, rfl, .ty _, he18, T.g i2 hi26, T.kitV i2 hi26, true, rfl, iteF ?_⟩
    refine ⟨_, rfl, _, rfl, l, _, _, _, rfl, rfl, SqL.of hl18, hix, as[i2], i2, _, rfl, hi26, he18, fun L H19 nL s19 hL => ?_⟩
    have hl19 := s19 _ _ hl18
    refine ⟨_, rfl, l, _, rfl, .inl (SqL.of hl19), _, rfl, by rw [hl26]; decide, by rw [hl26]; decide, fun D nD => ?_⟩
    refine lc_range (lo := 0) (fun i3 H' => H' D = some (.lst ((List.range i3).map fun j => V.bl (decide (i2 = j)))) ∧ Same H19 H') ⟨upd_same, same_new nD⟩ ?_ ?_
    · rintro i3 H20 hi3 ⟨hD, s20⟩
      have hi326 : i3 < 26 := by rw [hl26] at hi3; exact hi3
      refine ⟨rfl, iteT (B := H20 D = some (.lst ((List.range (i3 + 1)).map fun j => V.bl (decide (i2 = j)))) ∧ Same H19 H20) ?_⟩
      refine ⟨_, rfl, _, rfl, rfl, _, hD, Nat.lt_of_le_of_lt (m := 26) (by rw [List.length_map, List.length_range]; omega) (by decide), ?_, fun b o e => ?_⟩
      · have ed : decide (V.int (0 + (i3 : Int)) = V.int (0 + (i2 : Int))) = decide (i2 = i3) := by
          apply decide_eq_decide.mpr
          rw [V.int.injEq]
          omega
        rw [ed, upd_same, List.range_succ, List.map_append]
        rfl
      · rw [upd_ne (ne_of_none e nD)]
        exact s20 b o e
    · rintro H20 ⟨hD, s20⟩
      rw [hl26] at hD
      replace hD : H20 D = some (.lst ((List.range 26).map fun j => V.bl (decide (i2 = j)))) := hD
      have bools : ∀ (l : List Nat) (Hx : Hp), DpAll K Hx (l.map fun j => V.bl (decide (i2 = j))) (l.map fun j => PyData.bool (decide (i2 = j))) := fun l Hx => by
        induction l with
        | nil => exact .nil
        | cons x l ih => exact .cons (.bl _) ih
      have c0 : PyData.canLay0 (.list ((List.range 26).map fun j => PyData.bool (decide (i2 = j)))) = true := by
        show PyData.canLayAll0 _ = true
        refine canAll.mpr fun d hd => ?_
        obtain ⟨x, _, rfl⟩ := List.mem_map.mp hd
        rfl
      have c1 : PyData.depth (.list ((List.range 26).map fun j => PyData.bool (decide (i2 = j)))) ≤ 64 := by
        show PyData.depthAll _ + 1 ≤ 64
        have : PyData.depthAll ((List.range 26).map fun j => PyData.bool (decide (i2 = j))) ≤ 0 := depthAll_le.mpr fun d hd => by
          obtain ⟨x, _, rfl⟩ := List.mem_map.mp hd
          exact Nat.le_refl _
        omega
      have c2 : SeqAt.shaped (.list ((List.range 26).map fun j => PyData.bool (decide (i2 = j)))) = true := by
        unfold SeqAt.shaped
        rw [c0, decide_eq_true c1]
        rfl
      refine ⟨_, _, .lst (SqL.of (s20 _ _ hL)) (bools _ _), .lst (SqL.of hD) (bools _ _), c2, c2, false, ?_, iteF ?_⟩
      · rw [SeqAt.eqv_refl _ c0]
        rfl
      · exact ⟨_, _, rfl, (s18.trans s19).trans s20⟩
end
end KM

namespace KN
open PySem PySem.Spec PyProof.Rows L2 KA KI KK KV KE0 KG KL
/-- what k_is finds of an error class x at C, whose base is at CM -/
structure ClsX (K : PySem.W.Frag) (C CM : Addr) (x : Str) : Prop where
  xL : ∃ q N bs sn sub ab col dd m0 m1 m2 m3 m5, K.lookup C = some (excClassObj x q C N bs [.ref CM, .type "ValueError", .type "Exception", .type "BaseException", .type "object"] true sn sub ab col dd m0 m1 m2 m3 m5 "ValueError.__new__")
  ga : PySem.W.findIn K (.ref C) "__getattribute__" = some (some (.builtin "BaseException.__getattribute__"))
  gt : PySem.W.findIn K (.ref C) "__getattr__" = some none
  ca : PySem.W.findIn K (.ref C) "__class__" = some (some (.builtin "object.__class__"))
  kp : PySem.W.keepIn K (.ref C) = true
section
variable {K : PySem.W.Frag} {C CM : Addr} {x : Str}
theorem ClsX.cls (X : ClsX K C CM x) : ∃ cd : ClassData, PySem.W.clsIn K C = some cd ∧ cd.name = x ∧ cd.mro = .ref C :: [.ref CM, .type "ValueError", .type "Exception", .type "BaseException", .type "object"] ∧ cd.hasDict = true ∧ PySem.W.typeIn K (.ref C) = some (.type "type") := by
  obtain ⟨q, N, bs, sn, sub, ab, col, dd, m0, m1, m2, m3, m5, h⟩ := X.xL
  refine ⟨{ name := x, bases := bs, mro := .ref C :: [.ref CM, .type "ValueError", .type "Exception", .type "BaseException", .type "object"], ns := N, qualname := q, hasDict := true, slotNames := sn, subclasses := sub, abstract := ab, collection := col, hasDel := false }, ?_, rfl, rfl, rfl, ?_⟩
  · unfold PySem.W.clsIn
    rw [h]
    try rfl
  · show (K.lookup C).map (·.cls) = _
    rw [h]
    rfl
theorem ClsX.mro (X : ClsX K C CM x) (b : Value) : PySem.W.mroIn K C b = some ((Value.ref C :: [.ref CM, .type "ValueError", .type "Exception", .type "BaseException", .type "object"] : List Value).contains b) := by
  obtain ⟨cd, h1, _, h2, _⟩ := X.cls
  unfold PySem.W.mroIn
  rw [h1, Option.bind_some, h2, if_neg (by simp)]
theorem ClsX.g (X : ClsX K C CM x) (cn : PySem.W.specialIn K (.builtin "object.__class__") "__get__" = some (some (.builtin "getset_descriptor.__get__"))) (ct : PySem.W.takesIn K (.builtin "object.__class__") = some true) : ErrG K C := by
  obtain ⟨cd, h1, _, h2, h3, _⟩ := X.cls
  refine ⟨X.ga, X.gt, ?_, ?_, X.ca, cn, ct, ?_⟩
  · show PySem.W.mroIn K C _ = _
    rw [X.mro]
    simp [List.contains_cons]
  · unfold PySem.W.hasDictIn
    rw [h1]
    exact h3
  · rw [X.mro]
    simp [List.contains_cons]
theorem nm_inj : ∀ i, i < 26 → ∀ j, j < 26 → nm i = nm j → i = j := by decide +kernel
theorem nm_noM : ∀ i, i < 26 → nm i ≠ "MachineError" := by decide +kernel
theorem kit_ref {D : Addr} {cd : ClassData} {b : Bool} (hc : PySem.W.clsIn K D = some cd) (ht : PySem.W.typeIn K (.ref D) = some (.type "type")) (hne : C ≠ D) (hm : PySem.W.mroIn K C (.ref D) = some b) : PySem.W.kitOne K (.ref C) (.ref D) = some b := by
  unfold PySem.W.kitOne
  rw [if_neg (by simp [hne])]
  unfold PySem.W.kitCls
  simp only [hc, ht]
  rw [if_pos (by simp)]
  exact hm
end
theorem errs_of {P : Program} {K : PySem.W.Frag} {mg : Str → Option Value} {C : Nat → Addr} {CM f1 d1 c1 f2 d2 c2 f6 d6 c6 f7 d7 c7 : Addr} (X : ∀ i, i < 26 → ClsX K (C i) CM (nm i))
    (xM : ∃ cd, PySem.W.clsIn K CM = some cd ∧ cd.name = "MachineError") (tM : PySem.W.typeIn K (.ref CM) = some (.type "type"))
    (cn : PySem.W.specialIn K (.builtin "object.__class__") "__get__" = some (some (.builtin "getset_descriptor.__get__"))) (ct : PySem.W.takesIn K (.builtin "object.__class__") = some true)
    (gl : ∀ i, i < 26 → mg (nm i) = some (.ref (C i))) (glM : mg "MachineError" = some (.ref CM))
    (ex : ∀ i, i < 26 → i ≠ 1 → i ≠ 2 → i ≠ 6 → i ≠ 7 → PySem.W.excIn K (C i) veB "ValueError.__new__" = true)
    (text : KC.ErrC P K mg (C 1) f1 d1 c1 "BadText.__init__" (defArgs iText) (defBody iText) (defScope iText))
    (lets : KC.ErrC P K mg (C 2) f2 d2 c2 "NotLetBy.__init__" (defArgs iLet) (defBody iLet) (defScope iLet))
    (rows : KC.ErrC P K mg (C 6) f6 d6 c6 "BadRows.__init__" (defArgs iRows) (defBody iRows) (defScope iRows))
    (vers : KC.ErrC P K mg (C 7) f7 d7 c7 "NotVerified.__init__" (defArgs iVer) (defBody iVer) (defScope iVer))
    (n1 : PySem.W.findIn K (.ref (C 1)) "place" = some none) (n2 : PySem.W.findIn K (.ref (C 2)) "what" = some none) (n6 : PySem.W.findIn K (.ref (C 6)) "row" = some none) (n6w : PySem.W.findIn K (.ref (C 6)) "word" = some none) (n7 : PySem.W.findIn K (.ref (C 7)) "what" = some none) :
    Errs P K mg C CM f1 d1 c1 f2 d2 c2 f6 d6 c6 f7 d7 c7 := by
  have neM : ∀ i, i < 26 → C i ≠ CM := fun i hi e => by
    obtain ⟨cd, h1, h2, _⟩ := (X i hi).cls
    obtain ⟨cd', h3, h4⟩ := xM
    rw [e, h3] at h1
    cases h1
    exact nm_noM i hi (h2.symm.trans h4)
  have inj : ∀ i j, i < 26 → j < 26 → C i = C j → i = j := fun i j hi hj e => by
    obtain ⟨cd, h1, h2, _⟩ := (X i hi).cls
    obtain ⟨cd', h3, h4, _⟩ := (X j hj).cls
    rw [e, h3] at h1
    cases h1
    exact nm_inj i hi j hj (h2.symm.trans h4)
  refine ⟨gl, fun i hi => (X i hi).g cn ct, fun i j hi hj => ?_, fun i hi => ?_, fun i hi => ?_, glM, ex, fun i hi => (X i hi).kp, text, lets, rows, vers, n1, n2, n6, n6w, n7⟩
  · by_cases e : i = j
    · subst e
      unfold PySem.W.kitOne
      rw [if_pos (by simp), decide_eq_true rfl]
    · have ne : C i ≠ C j := fun z => e (inj i j hi hj z)
      obtain ⟨cd', h3, _, _, _, h5⟩ := (X j hj).cls
      rw [decide_eq_false e]
      refine kit_ref h3 h5 ne ?_
      rw [(X i hi).mro]
      have a1 : (Value.ref (C j) == Value.ref (C i)) = false := by simp [Ne.symm ne]
      have a2 : (Value.ref (C j) == Value.ref CM) = false := by simp [neM j hj]
      simp [List.contains_cons]
      exact ⟨Ne.symm ne, neM j hj⟩
  · obtain ⟨cd', h3, h4⟩ := xM
    refine kit_ref h3 tM (neM i hi) ?_
    rw [(X i hi).mro]
    simp [List.contains_cons]
  · unfold PySem.W.kitOne
    rw [if_neg (by simp)]
    unfold PySem.W.kitCls
    show (if PySem.W.kitMeta "ValueError" = true then PySem.W.mroIn K (C i) (.type "ValueError") else none) = some true
    rw [if_pos (by decide +kernel), (X i hi).mro]
    simp [List.contains_cons]
end KN

namespace KO
open PySem PySem.Spec PyProof.Rows L2 KL KN
theorem all_mk {P : Program} {w : World} {K : PySem.W.Frag} {h : Heap} {mg : Str → Option Value} {fa : Addr} (X : K.In h) (G : h.Ns mainGlobals mg) (hfa : mg "law" = some (.ref fa))
    {CM : Addr} {qM : Str} {NM : Addr} {bsM bmM : List Value} {snM : List Str} {subM : List Value} {abM : Bool} {colM : Option Bool} {ddM : Option Addr} {m0M m1M m2M m3M m5M : Option Value}
    {C0 : Addr} {q0 : Str} {N0 : Addr} {bs0 : List Value} {sn0 : List Str} {sub0 : List Value} {ab0 : Bool} {col0 : Option Bool} {dd0 : Option Addr} {m0x0 m1x0 m2x0 m3x0 m5x0 : Option Value}
    {C1 : Addr} {q1 : Str} {N1 : Addr} {bs1 : List Value} {sn1 : List Str} {sub1 : List Value} {ab1 : Bool} {col1 : Option Bool} {dd1 : Option Addr} {m0x1 m1x1 m2x1 m3x1 m5x1 : Option Value}
    {C2 : Addr} {q2 : Str} {N2 : Addr} {bs2 : List Value} {sn2 : List Str} {sub2 : List Value} {ab2 : Bool} {col2 : Option Bool} {dd2 : Option Addr} {m0x2 m1x2 m2x2 m3x2 m5x2 : Option Value}
    {C3 : Addr} {q3 : Str} {N3 : Addr} {bs3 : List Value} {sn3 : List Str} {sub3 : List Value} {ab3 : Bool} {col3 : Option Bool} {dd3 : Option Addr} {m0x3 m1x3 m2x3 m3x3 m5x3 : Option Value}
    {C4 : Addr} {q4 : Str} {N4 : Addr} {bs4 : List Value} {sn4 : List Str} {sub4 : List Value} {ab4 : Bool} {col4 : Option Bool} {dd4 : Option Addr} {m0x4 m1x4 m2x4 m3x4 m5x4 : Option Value}
    {C5 : Addr} {q5 : Str} {N5 : Addr} {bs5 : List Value} {sn5 : List Str} {sub5 : List Value} {ab5 : Bool} {col5 : Option Bool} {dd5 : Option Addr} {m0x5 m1x5 m2x5 m3x5 m5x5 : Option Value}
    {C6 : Addr} {q6 : Str} {N6 : Addr} {bs6 : List Value} {sn6 : List Str} {sub6 : List Value} {ab6 : Bool} {col6 : Option Bool} {dd6 : Option Addr} {m0x6 m1x6 m2x6 m3x6 m5x6 : Option Value}
    {C7 : Addr} {q7 : Str} {N7 : Addr} {bs7 : List Value} {sn7 : List Str} {sub7 : List Value} {ab7 : Bool} {col7 : Option Bool} {dd7 : Option Addr} {m0x7 m1x7 m2x7 m3x7 m5x7 : Option Value}
    {C8 : Addr} {q8 : Str} {N8 : Addr} {bs8 : List Value} {sn8 : List Str} {sub8 : List Value} {ab8 : Bool} {col8 : Option Bool} {dd8 : Option Addr} {m0x8 m1x8 m2x8 m3x8 m5x8 : Option Value}
    {C9 : Addr} {q9 : Str} {N9 : Addr} {bs9 : List Value} {sn9 : List Str} {sub9 : List Value} {ab9 : Bool} {col9 : Option Bool} {dd9 : Option Addr} {m0x9 m1x9 m2x9 m3x9 m5x9 : Option Value}
    {C10 : Addr} {q10 : Str} {N10 : Addr} {bs10 : List Value} {sn10 : List Str} {sub10 : List Value} {ab10 : Bool} {col10 : Option Bool} {dd10 : Option Addr} {m0x10 m1x10 m2x10 m3x10 m5x10 : Option Value}
    {C11 : Addr} {q11 : Str} {N11 : Addr} {bs11 : List Value} {sn11 : List Str} {sub11 : List Value} {ab11 : Bool} {col11 : Option Bool} {dd11 : Option Addr} {m0x11 m1x11 m2x11 m3x11 m5x11 : Option Value}
    {C12 : Addr} {q12 : Str} {N12 : Addr} {bs12 : List Value} {sn12 : List Str} {sub12 : List Value} {ab12 : Bool} {col12 : Option Bool} {dd12 : Option Addr} {m0x12 m1x12 m2x12 m3x12 m5x12 : Option Value}
    {C13 : Addr} {q13 : Str} {N13 : Addr} {bs13 : List Value} {sn13 : List Str} {sub13 : List Value} {ab13 : Bool} {col13 : Option Bool} {dd13 : Option Addr} {m0x13 m1x13 m2x13 m3x13 m5x13 : Option Value}
    {C14 : Addr} {q14 : Str} {N14 : Addr} {bs14 : List Value} {sn14 : List Str} {sub14 : List Value} {ab14 : Bool} {col14 : Option Bool} {dd14 : Option Addr} {m0x14 m1x14 m2x14 m3x14 m5x14 : Option Value}
    {C15 : Addr} {q15 : Str} {N15 : Addr} {bs15 : List Value} {sn15 : List Str} {sub15 : List Value} {ab15 : Bool} {col15 : Option Bool} {dd15 : Option Addr} {m0x15 m1x15 m2x15 m3x15 m5x15 : Option Value}
    {C16 : Addr} {q16 : Str} {N16 : Addr} {bs16 : List Value} {sn16 : List Str} {sub16 : List Value} {ab16 : Bool} {col16 : Option Bool} {dd16 : Option Addr} {m0x16 m1x16 m2x16 m3x16 m5x16 : Option Value}
    {C17 : Addr} {q17 : Str} {N17 : Addr} {bs17 : List Value} {sn17 : List Str} {sub17 : List Value} {ab17 : Bool} {col17 : Option Bool} {dd17 : Option Addr} {m0x17 m1x17 m2x17 m3x17 m5x17 : Option Value}
    {C18 : Addr} {q18 : Str} {N18 : Addr} {bs18 : List Value} {sn18 : List Str} {sub18 : List Value} {ab18 : Bool} {col18 : Option Bool} {dd18 : Option Addr} {m0x18 m1x18 m2x18 m3x18 m5x18 : Option Value}
    {C19 : Addr} {q19 : Str} {N19 : Addr} {bs19 : List Value} {sn19 : List Str} {sub19 : List Value} {ab19 : Bool} {col19 : Option Bool} {dd19 : Option Addr} {m0x19 m1x19 m2x19 m3x19 m5x19 : Option Value}
    {C20 : Addr} {q20 : Str} {N20 : Addr} {bs20 : List Value} {sn20 : List Str} {sub20 : List Value} {ab20 : Bool} {col20 : Option Bool} {dd20 : Option Addr} {m0x20 m1x20 m2x20 m3x20 m5x20 : Option Value}
    {C21 : Addr} {q21 : Str} {N21 : Addr} {bs21 : List Value} {sn21 : List Str} {sub21 : List Value} {ab21 : Bool} {col21 : Option Bool} {dd21 : Option Addr} {m0x21 m1x21 m2x21 m3x21 m5x21 : Option Value}
    {C22 : Addr} {q22 : Str} {N22 : Addr} {bs22 : List Value} {sn22 : List Str} {sub22 : List Value} {ab22 : Bool} {col22 : Option Bool} {dd22 : Option Addr} {m0x22 m1x22 m2x22 m3x22 m5x22 : Option Value}
    {C23 : Addr} {q23 : Str} {N23 : Addr} {bs23 : List Value} {sn23 : List Str} {sub23 : List Value} {ab23 : Bool} {col23 : Option Bool} {dd23 : Option Addr} {m0x23 m1x23 m2x23 m3x23 m5x23 : Option Value}
    {C24 : Addr} {q24 : Str} {N24 : Addr} {bs24 : List Value} {sn24 : List Str} {sub24 : List Value} {ab24 : Bool} {col24 : Option Bool} {dd24 : Option Addr} {m0x24 m1x24 m2x24 m3x24 m5x24 : Option Value}
    {C25 : Addr} {q25 : Str} {N25 : Addr} {bs25 : List Value} {sn25 : List Str} {sub25 : List Value} {ab25 : Bool} {col25 : Option Bool} {dd25 : Option Addr} {m0x25 m1x25 m2x25 m3x25 m5x25 : Option Value}
    {f1 cda1 cc1 : Addr} {oco1 doco1 pmo1 cto1 : Value} {odo1 ano1 : Option Addr} {slo1 : Array (Option Value)} {cclo1 : Value} {cddo1 : Option Addr} {vso1 : Array Value} {ccso1 : Array (Option Value)} {clo1 : Value} {cldo1 : Option Addr} {cslo1 : Array (Option Value)}
    {f2 cda2 cc2 : Addr} {oco2 doco2 pmo2 cto2 : Value} {odo2 ano2 : Option Addr} {slo2 : Array (Option Value)} {cclo2 : Value} {cddo2 : Option Addr} {vso2 : Array Value} {ccso2 : Array (Option Value)} {clo2 : Value} {cldo2 : Option Addr} {cslo2 : Array (Option Value)}
    {f6 cda6 cc6 : Addr} {oco6 doco6 pmo6 cto6 : Value} {odo6 ano6 : Option Addr} {slo6 : Array (Option Value)} {cclo6 : Value} {cddo6 : Option Addr} {vso6 : Array Value} {ccso6 : Array (Option Value)} {clo6 : Value} {cldo6 : Option Addr} {cslo6 : Array (Option Value)}
    {f7 cda7 cc7 : Addr} {oco7 doco7 pmo7 cto7 : Value} {odo7 ano7 : Option Addr} {slo7 : Array (Option Value)} {cclo7 : Value} {cddo7 : Option Addr} {vso7 : Array Value} {ccso7 : Array (Option Value)} {clo7 : Value} {cldo7 : Option Addr} {cslo7 : Array (Option Value)}
    {fn_feed : Addr} {oc_feed kV_feed dc_feed pm_feed cd_feed ct_feed : Value} {od_feed an_feed : Option Addr} {sl_feed : Array (Option Value)}
    {fn_draw : Addr} {oc_draw kV_draw dc_draw pm_draw cd_draw ct_draw : Value} {od_draw an_draw : Option Addr} {sl_draw : Array (Option Value)}
    {fn_one : Addr} {oc_one kV_one dc_one pm_one cd_one ct_one : Value} {od_one an_one : Option Addr} {sl_one : Array (Option Value)}
    {fn_alike : Addr} {oc_alike kV_alike dc_alike pm_alike cd_alike ct_alike : Value} {od_alike an_alike : Option Addr} {sl_alike : Array (Option Value)}
    {fn_place : Addr} {oc_place kV_place dc_place pm_place cd_place ct_place : Value} {od_place an_place : Option Addr} {sl_place : Array (Option Value)}
    {fn_what : Addr} {oc_what kV_what dc_what pm_what cd_what ct_what : Value} {od_what an_what : Option Addr} {sl_what : Array (Option Value)}
    {fn_made : Addr} {oc_made kV_made dc_made pm_made cd_made ct_made : Value} {od_made an_made : Option Addr} {sl_made : Array (Option Value)}
    {fn_marks : Addr} {oc_marks kV_marks dc_marks pm_marks cd_marks ct_marks : Value} {od_marks an_marks : Option Addr} {sl_marks : Array (Option Value)}
    {fn_fields : Addr} {oc_fields kV_fields dc_fields pm_fields cd_fields ct_fields : Value} {od_fields an_fields : Option Addr} {sl_fields : Array (Option Value)}
    {fn_law : Addr} {oc_law kV_law dc_law pm_law cd_law ct_law : Value} {od_law an_law : Option Addr} {sl_law : Array (Option Value)}
    (aM : PySem.W.nsIn K mainGlobals "MachineError" = some (some (.ref CM)))
    (xM : K.lookup CM = some (excClassObj "MachineError" qM CM NM bsM bmM true snM subM abM colM ddM m0M m1M m2M m3M m5M "ValueError.__new__"))
    (a0 : PySem.W.nsIn K mainGlobals "BadForm" = some (some (.ref C0)))
    (x0 : K.lookup C0 = some (excClassObj "BadForm" q0 C0 N0 bs0 [.ref CM, .type "ValueError", .type "Exception", .type "BaseException", .type "object"] true sn0 sub0 ab0 col0 dd0 m0x0 m1x0 m2x0 m3x0 m5x0 "ValueError.__new__"))
    (ga0 : PySem.W.findIn K (.ref C0) "__getattribute__" = some (some (.builtin "BaseException.__getattribute__")))
    (gt0 : PySem.W.findIn K (.ref C0) "__getattr__" = some none)
    (ca0 : PySem.W.findIn K (.ref C0) "__class__" = some (some (.builtin "object.__class__")))
    (kp0 : PySem.W.keepIn K (.ref C0) = true)
    (ex0 : PySem.W.excIn K C0 [.type "ValueError", .type "Exception", .type "BaseException", .type "object"] "ValueError.__new__" = true)
    (a1 : PySem.W.nsIn K mainGlobals "BadText" = some (some (.ref C1)))
    (x1 : K.lookup C1 = some (excClassObj "BadText" q1 C1 N1 bs1 [.ref CM, .type "ValueError", .type "Exception", .type "BaseException", .type "object"] true sn1 sub1 ab1 col1 dd1 m0x1 m1x1 m2x1 m3x1 m5x1 "ValueError.__new__"))
    (ga1 : PySem.W.findIn K (.ref C1) "__getattribute__" = some (some (.builtin "BaseException.__getattribute__")))
    (gt1 : PySem.W.findIn K (.ref C1) "__getattr__" = some none)
    (ca1 : PySem.W.findIn K (.ref C1) "__class__" = some (some (.builtin "object.__class__")))
    (kp1 : PySem.W.keepIn K (.ref C1) = true)
    (a2 : PySem.W.nsIn K mainGlobals "NotLetBy" = some (some (.ref C2)))
    (x2 : K.lookup C2 = some (excClassObj "NotLetBy" q2 C2 N2 bs2 [.ref CM, .type "ValueError", .type "Exception", .type "BaseException", .type "object"] true sn2 sub2 ab2 col2 dd2 m0x2 m1x2 m2x2 m3x2 m5x2 "ValueError.__new__"))
    (ga2 : PySem.W.findIn K (.ref C2) "__getattribute__" = some (some (.builtin "BaseException.__getattribute__")))
    (gt2 : PySem.W.findIn K (.ref C2) "__getattr__" = some none)
    (ca2 : PySem.W.findIn K (.ref C2) "__class__" = some (some (.builtin "object.__class__")))
    (kp2 : PySem.W.keepIn K (.ref C2) = true)
    (a3 : PySem.W.nsIn K mainGlobals "BadGiven" = some (some (.ref C3)))
    (x3 : K.lookup C3 = some (excClassObj "BadGiven" q3 C3 N3 bs3 [.ref CM, .type "ValueError", .type "Exception", .type "BaseException", .type "object"] true sn3 sub3 ab3 col3 dd3 m0x3 m1x3 m2x3 m3x3 m5x3 "ValueError.__new__"))
    (ga3 : PySem.W.findIn K (.ref C3) "__getattribute__" = some (some (.builtin "BaseException.__getattribute__")))
    (gt3 : PySem.W.findIn K (.ref C3) "__getattr__" = some none)
    (ca3 : PySem.W.findIn K (.ref C3) "__class__" = some (some (.builtin "object.__class__")))
    (kp3 : PySem.W.keepIn K (.ref C3) = true)
    (ex3 : PySem.W.excIn K C3 [.type "ValueError", .type "Exception", .type "BaseException", .type "object"] "ValueError.__new__" = true)
    (a4 : PySem.W.nsIn K mainGlobals "BadCount" = some (some (.ref C4)))
    (x4 : K.lookup C4 = some (excClassObj "BadCount" q4 C4 N4 bs4 [.ref CM, .type "ValueError", .type "Exception", .type "BaseException", .type "object"] true sn4 sub4 ab4 col4 dd4 m0x4 m1x4 m2x4 m3x4 m5x4 "ValueError.__new__"))
    (ga4 : PySem.W.findIn K (.ref C4) "__getattribute__" = some (some (.builtin "BaseException.__getattribute__")))
    (gt4 : PySem.W.findIn K (.ref C4) "__getattr__" = some none)
    (ca4 : PySem.W.findIn K (.ref C4) "__class__" = some (some (.builtin "object.__class__")))
    (kp4 : PySem.W.keepIn K (.ref C4) = true)
    (ex4 : PySem.W.excIn K C4 [.type "ValueError", .type "Exception", .type "BaseException", .type "object"] "ValueError.__new__" = true)
    (a5 : PySem.W.nsIn K mainGlobals "BadModule" = some (some (.ref C5)))
    (x5 : K.lookup C5 = some (excClassObj "BadModule" q5 C5 N5 bs5 [.ref CM, .type "ValueError", .type "Exception", .type "BaseException", .type "object"] true sn5 sub5 ab5 col5 dd5 m0x5 m1x5 m2x5 m3x5 m5x5 "ValueError.__new__"))
    (ga5 : PySem.W.findIn K (.ref C5) "__getattribute__" = some (some (.builtin "BaseException.__getattribute__")))
    (gt5 : PySem.W.findIn K (.ref C5) "__getattr__" = some none)
    (ca5 : PySem.W.findIn K (.ref C5) "__class__" = some (some (.builtin "object.__class__")))
    (kp5 : PySem.W.keepIn K (.ref C5) = true)
    (ex5 : PySem.W.excIn K C5 [.type "ValueError", .type "Exception", .type "BaseException", .type "object"] "ValueError.__new__" = true)
    (a6 : PySem.W.nsIn K mainGlobals "BadRows" = some (some (.ref C6)))
    (x6 : K.lookup C6 = some (excClassObj "BadRows" q6 C6 N6 bs6 [.ref CM, .type "ValueError", .type "Exception", .type "BaseException", .type "object"] true sn6 sub6 ab6 col6 dd6 m0x6 m1x6 m2x6 m3x6 m5x6 "ValueError.__new__"))
    (ga6 : PySem.W.findIn K (.ref C6) "__getattribute__" = some (some (.builtin "BaseException.__getattribute__")))
    (gt6 : PySem.W.findIn K (.ref C6) "__getattr__" = some none)
    (ca6 : PySem.W.findIn K (.ref C6) "__class__" = some (some (.builtin "object.__class__")))
    (kp6 : PySem.W.keepIn K (.ref C6) = true)
    (a7 : PySem.W.nsIn K mainGlobals "NotVerified" = some (some (.ref C7)))
    (x7 : K.lookup C7 = some (excClassObj "NotVerified" q7 C7 N7 bs7 [.ref CM, .type "ValueError", .type "Exception", .type "BaseException", .type "object"] true sn7 sub7 ab7 col7 dd7 m0x7 m1x7 m2x7 m3x7 m5x7 "ValueError.__new__"))
    (ga7 : PySem.W.findIn K (.ref C7) "__getattribute__" = some (some (.builtin "BaseException.__getattribute__")))
    (gt7 : PySem.W.findIn K (.ref C7) "__getattr__" = some none)
    (ca7 : PySem.W.findIn K (.ref C7) "__class__" = some (some (.builtin "object.__class__")))
    (kp7 : PySem.W.keepIn K (.ref C7) = true)
    (a8 : PySem.W.nsIn K mainGlobals "BadIndex" = some (some (.ref C8)))
    (x8 : K.lookup C8 = some (excClassObj "BadIndex" q8 C8 N8 bs8 [.ref CM, .type "ValueError", .type "Exception", .type "BaseException", .type "object"] true sn8 sub8 ab8 col8 dd8 m0x8 m1x8 m2x8 m3x8 m5x8 "ValueError.__new__"))
    (ga8 : PySem.W.findIn K (.ref C8) "__getattribute__" = some (some (.builtin "BaseException.__getattribute__")))
    (gt8 : PySem.W.findIn K (.ref C8) "__getattr__" = some none)
    (ca8 : PySem.W.findIn K (.ref C8) "__class__" = some (some (.builtin "object.__class__")))
    (kp8 : PySem.W.keepIn K (.ref C8) = true)
    (ex8 : PySem.W.excIn K C8 [.type "ValueError", .type "Exception", .type "BaseException", .type "object"] "ValueError.__new__" = true)
    (a9 : PySem.W.nsIn K mainGlobals "BadPlace" = some (some (.ref C9)))
    (x9 : K.lookup C9 = some (excClassObj "BadPlace" q9 C9 N9 bs9 [.ref CM, .type "ValueError", .type "Exception", .type "BaseException", .type "object"] true sn9 sub9 ab9 col9 dd9 m0x9 m1x9 m2x9 m3x9 m5x9 "ValueError.__new__"))
    (ga9 : PySem.W.findIn K (.ref C9) "__getattribute__" = some (some (.builtin "BaseException.__getattribute__")))
    (gt9 : PySem.W.findIn K (.ref C9) "__getattr__" = some none)
    (ca9 : PySem.W.findIn K (.ref C9) "__class__" = some (some (.builtin "object.__class__")))
    (kp9 : PySem.W.keepIn K (.ref C9) = true)
    (ex9 : PySem.W.excIn K C9 [.type "ValueError", .type "Exception", .type "BaseException", .type "object"] "ValueError.__new__" = true)
    (a10 : PySem.W.nsIn K mainGlobals "BadGraph" = some (some (.ref C10)))
    (x10 : K.lookup C10 = some (excClassObj "BadGraph" q10 C10 N10 bs10 [.ref CM, .type "ValueError", .type "Exception", .type "BaseException", .type "object"] true sn10 sub10 ab10 col10 dd10 m0x10 m1x10 m2x10 m3x10 m5x10 "ValueError.__new__"))
    (ga10 : PySem.W.findIn K (.ref C10) "__getattribute__" = some (some (.builtin "BaseException.__getattribute__")))
    (gt10 : PySem.W.findIn K (.ref C10) "__getattr__" = some none)
    (ca10 : PySem.W.findIn K (.ref C10) "__class__" = some (some (.builtin "object.__class__")))
    (kp10 : PySem.W.keepIn K (.ref C10) = true)
    (ex10 : PySem.W.excIn K C10 [.type "ValueError", .type "Exception", .type "BaseException", .type "object"] "ValueError.__new__" = true)
    (a11 : PySem.W.nsIn K mainGlobals "BadShapes" = some (some (.ref C11)))
    (x11 : K.lookup C11 = some (excClassObj "BadShapes" q11 C11 N11 bs11 [.ref CM, .type "ValueError", .type "Exception", .type "BaseException", .type "object"] true sn11 sub11 ab11 col11 dd11 m0x11 m1x11 m2x11 m3x11 m5x11 "ValueError.__new__"))
    (ga11 : PySem.W.findIn K (.ref C11) "__getattribute__" = some (some (.builtin "BaseException.__getattribute__")))
    (gt11 : PySem.W.findIn K (.ref C11) "__getattr__" = some none)
    (ca11 : PySem.W.findIn K (.ref C11) "__class__" = some (some (.builtin "object.__class__")))
    (kp11 : PySem.W.keepIn K (.ref C11) = true)
    (ex11 : PySem.W.excIn K C11 [.type "ValueError", .type "Exception", .type "BaseException", .type "object"] "ValueError.__new__" = true)
    (a12 : PySem.W.nsIn K mainGlobals "BadKind" = some (some (.ref C12)))
    (x12 : K.lookup C12 = some (excClassObj "BadKind" q12 C12 N12 bs12 [.ref CM, .type "ValueError", .type "Exception", .type "BaseException", .type "object"] true sn12 sub12 ab12 col12 dd12 m0x12 m1x12 m2x12 m3x12 m5x12 "ValueError.__new__"))
    (ga12 : PySem.W.findIn K (.ref C12) "__getattribute__" = some (some (.builtin "BaseException.__getattribute__")))
    (gt12 : PySem.W.findIn K (.ref C12) "__getattr__" = some none)
    (ca12 : PySem.W.findIn K (.ref C12) "__class__" = some (some (.builtin "object.__class__")))
    (kp12 : PySem.W.keepIn K (.ref C12) = true)
    (ex12 : PySem.W.excIn K C12 [.type "ValueError", .type "Exception", .type "BaseException", .type "object"] "ValueError.__new__" = true)
    (a13 : PySem.W.nsIn K mainGlobals "BadSize" = some (some (.ref C13)))
    (x13 : K.lookup C13 = some (excClassObj "BadSize" q13 C13 N13 bs13 [.ref CM, .type "ValueError", .type "Exception", .type "BaseException", .type "object"] true sn13 sub13 ab13 col13 dd13 m0x13 m1x13 m2x13 m3x13 m5x13 "ValueError.__new__"))
    (ga13 : PySem.W.findIn K (.ref C13) "__getattribute__" = some (some (.builtin "BaseException.__getattribute__")))
    (gt13 : PySem.W.findIn K (.ref C13) "__getattr__" = some none)
    (ca13 : PySem.W.findIn K (.ref C13) "__class__" = some (some (.builtin "object.__class__")))
    (kp13 : PySem.W.keepIn K (.ref C13) = true)
    (ex13 : PySem.W.excIn K C13 [.type "ValueError", .type "Exception", .type "BaseException", .type "object"] "ValueError.__new__" = true)
    (a14 : PySem.W.nsIn K mainGlobals "BadValue" = some (some (.ref C14)))
    (x14 : K.lookup C14 = some (excClassObj "BadValue" q14 C14 N14 bs14 [.ref CM, .type "ValueError", .type "Exception", .type "BaseException", .type "object"] true sn14 sub14 ab14 col14 dd14 m0x14 m1x14 m2x14 m3x14 m5x14 "ValueError.__new__"))
    (ga14 : PySem.W.findIn K (.ref C14) "__getattribute__" = some (some (.builtin "BaseException.__getattribute__")))
    (gt14 : PySem.W.findIn K (.ref C14) "__getattr__" = some none)
    (ca14 : PySem.W.findIn K (.ref C14) "__class__" = some (some (.builtin "object.__class__")))
    (kp14 : PySem.W.keepIn K (.ref C14) = true)
    (ex14 : PySem.W.excIn K C14 [.type "ValueError", .type "Exception", .type "BaseException", .type "object"] "ValueError.__new__" = true)
    (a15 : PySem.W.nsIn K mainGlobals "BadSizes" = some (some (.ref C15)))
    (x15 : K.lookup C15 = some (excClassObj "BadSizes" q15 C15 N15 bs15 [.ref CM, .type "ValueError", .type "Exception", .type "BaseException", .type "object"] true sn15 sub15 ab15 col15 dd15 m0x15 m1x15 m2x15 m3x15 m5x15 "ValueError.__new__"))
    (ga15 : PySem.W.findIn K (.ref C15) "__getattribute__" = some (some (.builtin "BaseException.__getattribute__")))
    (gt15 : PySem.W.findIn K (.ref C15) "__getattr__" = some none)
    (ca15 : PySem.W.findIn K (.ref C15) "__class__" = some (some (.builtin "object.__class__")))
    (kp15 : PySem.W.keepIn K (.ref C15) = true)
    (ex15 : PySem.W.excIn K C15 [.type "ValueError", .type "Exception", .type "BaseException", .type "object"] "ValueError.__new__" = true)
    (a16 : PySem.W.nsIn K mainGlobals "BadRoots" = some (some (.ref C16)))
    (x16 : K.lookup C16 = some (excClassObj "BadRoots" q16 C16 N16 bs16 [.ref CM, .type "ValueError", .type "Exception", .type "BaseException", .type "object"] true sn16 sub16 ab16 col16 dd16 m0x16 m1x16 m2x16 m3x16 m5x16 "ValueError.__new__"))
    (ga16 : PySem.W.findIn K (.ref C16) "__getattribute__" = some (some (.builtin "BaseException.__getattribute__")))
    (gt16 : PySem.W.findIn K (.ref C16) "__getattr__" = some none)
    (ca16 : PySem.W.findIn K (.ref C16) "__class__" = some (some (.builtin "object.__class__")))
    (kp16 : PySem.W.keepIn K (.ref C16) = true)
    (ex16 : PySem.W.excIn K C16 [.type "ValueError", .type "Exception", .type "BaseException", .type "object"] "ValueError.__new__" = true)
    (a17 : PySem.W.nsIn K mainGlobals "BadAddress" = some (some (.ref C17)))
    (x17 : K.lookup C17 = some (excClassObj "BadAddress" q17 C17 N17 bs17 [.ref CM, .type "ValueError", .type "Exception", .type "BaseException", .type "object"] true sn17 sub17 ab17 col17 dd17 m0x17 m1x17 m2x17 m3x17 m5x17 "ValueError.__new__"))
    (ga17 : PySem.W.findIn K (.ref C17) "__getattribute__" = some (some (.builtin "BaseException.__getattribute__")))
    (gt17 : PySem.W.findIn K (.ref C17) "__getattr__" = some none)
    (ca17 : PySem.W.findIn K (.ref C17) "__class__" = some (some (.builtin "object.__class__")))
    (kp17 : PySem.W.keepIn K (.ref C17) = true)
    (ex17 : PySem.W.excIn K C17 [.type "ValueError", .type "Exception", .type "BaseException", .type "object"] "ValueError.__new__" = true)
    (a18 : PySem.W.nsIn K mainGlobals "BadSlot" = some (some (.ref C18)))
    (x18 : K.lookup C18 = some (excClassObj "BadSlot" q18 C18 N18 bs18 [.ref CM, .type "ValueError", .type "Exception", .type "BaseException", .type "object"] true sn18 sub18 ab18 col18 dd18 m0x18 m1x18 m2x18 m3x18 m5x18 "ValueError.__new__"))
    (ga18 : PySem.W.findIn K (.ref C18) "__getattribute__" = some (some (.builtin "BaseException.__getattribute__")))
    (gt18 : PySem.W.findIn K (.ref C18) "__getattr__" = some none)
    (ca18 : PySem.W.findIn K (.ref C18) "__class__" = some (some (.builtin "object.__class__")))
    (kp18 : PySem.W.keepIn K (.ref C18) = true)
    (ex18 : PySem.W.excIn K C18 [.type "ValueError", .type "Exception", .type "BaseException", .type "object"] "ValueError.__new__" = true)
    (a19 : PySem.W.nsIn K mainGlobals "Marking" = some (some (.ref C19)))
    (x19 : K.lookup C19 = some (excClassObj "Marking" q19 C19 N19 bs19 [.ref CM, .type "ValueError", .type "Exception", .type "BaseException", .type "object"] true sn19 sub19 ab19 col19 dd19 m0x19 m1x19 m2x19 m3x19 m5x19 "ValueError.__new__"))
    (ga19 : PySem.W.findIn K (.ref C19) "__getattribute__" = some (some (.builtin "BaseException.__getattribute__")))
    (gt19 : PySem.W.findIn K (.ref C19) "__getattr__" = some none)
    (ca19 : PySem.W.findIn K (.ref C19) "__class__" = some (some (.builtin "object.__class__")))
    (kp19 : PySem.W.keepIn K (.ref C19) = true)
    (ex19 : PySem.W.excIn K C19 [.type "ValueError", .type "Exception", .type "BaseException", .type "object"] "ValueError.__new__" = true)
    (a20 : PySem.W.nsIn K mainGlobals "BadPicture" = some (some (.ref C20)))
    (x20 : K.lookup C20 = some (excClassObj "BadPicture" q20 C20 N20 bs20 [.ref CM, .type "ValueError", .type "Exception", .type "BaseException", .type "object"] true sn20 sub20 ab20 col20 dd20 m0x20 m1x20 m2x20 m3x20 m5x20 "ValueError.__new__"))
    (ga20 : PySem.W.findIn K (.ref C20) "__getattribute__" = some (some (.builtin "BaseException.__getattribute__")))
    (gt20 : PySem.W.findIn K (.ref C20) "__getattr__" = some none)
    (ca20 : PySem.W.findIn K (.ref C20) "__class__" = some (some (.builtin "object.__class__")))
    (kp20 : PySem.W.keepIn K (.ref C20) = true)
    (ex20 : PySem.W.excIn K C20 [.type "ValueError", .type "Exception", .type "BaseException", .type "object"] "ValueError.__new__" = true)
    (a21 : PySem.W.nsIn K mainGlobals "BadSchedule" = some (some (.ref C21)))
    (x21 : K.lookup C21 = some (excClassObj "BadSchedule" q21 C21 N21 bs21 [.ref CM, .type "ValueError", .type "Exception", .type "BaseException", .type "object"] true sn21 sub21 ab21 col21 dd21 m0x21 m1x21 m2x21 m3x21 m5x21 "ValueError.__new__"))
    (ga21 : PySem.W.findIn K (.ref C21) "__getattribute__" = some (some (.builtin "BaseException.__getattribute__")))
    (gt21 : PySem.W.findIn K (.ref C21) "__getattr__" = some none)
    (ca21 : PySem.W.findIn K (.ref C21) "__class__" = some (some (.builtin "object.__class__")))
    (kp21 : PySem.W.keepIn K (.ref C21) = true)
    (ex21 : PySem.W.excIn K C21 [.type "ValueError", .type "Exception", .type "BaseException", .type "object"] "ValueError.__new__" = true)
    (a22 : PySem.W.nsIn K mainGlobals "BadView" = some (some (.ref C22)))
    (x22 : K.lookup C22 = some (excClassObj "BadView" q22 C22 N22 bs22 [.ref CM, .type "ValueError", .type "Exception", .type "BaseException", .type "object"] true sn22 sub22 ab22 col22 dd22 m0x22 m1x22 m2x22 m3x22 m5x22 "ValueError.__new__"))
    (ga22 : PySem.W.findIn K (.ref C22) "__getattribute__" = some (some (.builtin "BaseException.__getattribute__")))
    (gt22 : PySem.W.findIn K (.ref C22) "__getattr__" = some none)
    (ca22 : PySem.W.findIn K (.ref C22) "__class__" = some (some (.builtin "object.__class__")))
    (kp22 : PySem.W.keepIn K (.ref C22) = true)
    (ex22 : PySem.W.excIn K C22 [.type "ValueError", .type "Exception", .type "BaseException", .type "object"] "ValueError.__new__" = true)
    (a23 : PySem.W.nsIn K mainGlobals "BadStrip" = some (some (.ref C23)))
    (x23 : K.lookup C23 = some (excClassObj "BadStrip" q23 C23 N23 bs23 [.ref CM, .type "ValueError", .type "Exception", .type "BaseException", .type "object"] true sn23 sub23 ab23 col23 dd23 m0x23 m1x23 m2x23 m3x23 m5x23 "ValueError.__new__"))
    (ga23 : PySem.W.findIn K (.ref C23) "__getattribute__" = some (some (.builtin "BaseException.__getattribute__")))
    (gt23 : PySem.W.findIn K (.ref C23) "__getattr__" = some none)
    (ca23 : PySem.W.findIn K (.ref C23) "__class__" = some (some (.builtin "object.__class__")))
    (kp23 : PySem.W.keepIn K (.ref C23) = true)
    (ex23 : PySem.W.excIn K C23 [.type "ValueError", .type "Exception", .type "BaseException", .type "object"] "ValueError.__new__" = true)
    (a24 : PySem.W.nsIn K mainGlobals "BadGuesses" = some (some (.ref C24)))
    (x24 : K.lookup C24 = some (excClassObj "BadGuesses" q24 C24 N24 bs24 [.ref CM, .type "ValueError", .type "Exception", .type "BaseException", .type "object"] true sn24 sub24 ab24 col24 dd24 m0x24 m1x24 m2x24 m3x24 m5x24 "ValueError.__new__"))
    (ga24 : PySem.W.findIn K (.ref C24) "__getattribute__" = some (some (.builtin "BaseException.__getattribute__")))
    (gt24 : PySem.W.findIn K (.ref C24) "__getattr__" = some none)
    (ca24 : PySem.W.findIn K (.ref C24) "__class__" = some (some (.builtin "object.__class__")))
    (kp24 : PySem.W.keepIn K (.ref C24) = true)
    (ex24 : PySem.W.excIn K C24 [.type "ValueError", .type "Exception", .type "BaseException", .type "object"] "ValueError.__new__" = true)
    (a25 : PySem.W.nsIn K mainGlobals "BadOpened" = some (some (.ref C25)))
    (x25 : K.lookup C25 = some (excClassObj "BadOpened" q25 C25 N25 bs25 [.ref CM, .type "ValueError", .type "Exception", .type "BaseException", .type "object"] true sn25 sub25 ab25 col25 dd25 m0x25 m1x25 m2x25 m3x25 m5x25 "ValueError.__new__"))
    (ga25 : PySem.W.findIn K (.ref C25) "__getattribute__" = some (some (.builtin "BaseException.__getattribute__")))
    (gt25 : PySem.W.findIn K (.ref C25) "__getattr__" = some none)
    (ca25 : PySem.W.findIn K (.ref C25) "__class__" = some (some (.builtin "object.__class__")))
    (kp25 : PySem.W.keepIn K (.ref C25) = true)
    (ex25 : PySem.W.excIn K C25 [.type "ValueError", .type "Exception", .type "BaseException", .type "object"] "ValueError.__new__" = true)
    (cn : PySem.W.specialIn K (.builtin "object.__class__") "__get__" = some (some (.builtin "getset_descriptor.__get__")))
    (ct : PySem.W.takesIn K (.builtin "object.__class__") = some true)
    (opq : PySem.W.nsIn K cStatics "thirdparty.any" = some none)
    (sa1 : PySem.W.findIn K (.ref C1) "__setattr__" = some (some (.builtin "object.__setattr__")))
    (ic1 : PySem.W.findIn K (.ref C1) "__init__" = some (some (.ref f1)))
    (tf1 : PySem.W.typeIn K (.ref f1) = some (.type "function"))
    (fn1 : K.lookup f1 = some ⟨oco1, odo1, .func (PySem.W.ksFn "__init__" "BadText.__init__" (defArgs KG.iText) (defBody KG.iText) (defScope KG.iText) .none .none doco1 pmo1 ano1 (.ref cda1) cto1 cc1), slo1⟩)
    (cd1 : PySem.W.codeIn K (.ref cda1) "BadText.__init__" = true)
    (co1 : K.lookup cda1 = some ⟨cclo1, cddo1, .fields vso1, ccso1⟩)
    (ce1 : K.lookup cc1 = some ⟨clo1, cldo1, .cell (some (.ref C1)), cslo1⟩)
    (su1 : PySem.W.ks_superIn K C1 C1 "__init__" = some (some (.builtin "ValueError.__init__")))
    (vf1 : ∃ (file : Str) (tf : Tok), vso1[2]? = some (.str file tf) ∧ ((P.main.file : Str) == file) = true)
    (sa2 : PySem.W.findIn K (.ref C2) "__setattr__" = some (some (.builtin "object.__setattr__")))
    (ic2 : PySem.W.findIn K (.ref C2) "__init__" = some (some (.ref f2)))
    (tf2 : PySem.W.typeIn K (.ref f2) = some (.type "function"))
    (fn2 : K.lookup f2 = some ⟨oco2, odo2, .func (PySem.W.ksFn "__init__" "NotLetBy.__init__" (defArgs KG.iLet) (defBody KG.iLet) (defScope KG.iLet) .none .none doco2 pmo2 ano2 (.ref cda2) cto2 cc2), slo2⟩)
    (cd2 : PySem.W.codeIn K (.ref cda2) "NotLetBy.__init__" = true)
    (co2 : K.lookup cda2 = some ⟨cclo2, cddo2, .fields vso2, ccso2⟩)
    (ce2 : K.lookup cc2 = some ⟨clo2, cldo2, .cell (some (.ref C2)), cslo2⟩)
    (su2 : PySem.W.ks_superIn K C2 C2 "__init__" = some (some (.builtin "ValueError.__init__")))
    (vf2 : ∃ (file : Str) (tf : Tok), vso2[2]? = some (.str file tf) ∧ ((P.main.file : Str) == file) = true)
    (sa6 : PySem.W.findIn K (.ref C6) "__setattr__" = some (some (.builtin "object.__setattr__")))
    (ic6 : PySem.W.findIn K (.ref C6) "__init__" = some (some (.ref f6)))
    (tf6 : PySem.W.typeIn K (.ref f6) = some (.type "function"))
    (fn6 : K.lookup f6 = some ⟨oco6, odo6, .func (PySem.W.ksFn "__init__" "BadRows.__init__" (defArgs KG.iRows) (defBody KG.iRows) (defScope KG.iRows) .none .none doco6 pmo6 ano6 (.ref cda6) cto6 cc6), slo6⟩)
    (cd6 : PySem.W.codeIn K (.ref cda6) "BadRows.__init__" = true)
    (co6 : K.lookup cda6 = some ⟨cclo6, cddo6, .fields vso6, ccso6⟩)
    (ce6 : K.lookup cc6 = some ⟨clo6, cldo6, .cell (some (.ref C6)), cslo6⟩)
    (su6 : PySem.W.ks_superIn K C6 C6 "__init__" = some (some (.builtin "ValueError.__init__")))
    (vf6 : ∃ (file : Str) (tf : Tok), vso6[2]? = some (.str file tf) ∧ ((P.main.file : Str) == file) = true)
    (sa7 : PySem.W.findIn K (.ref C7) "__setattr__" = some (some (.builtin "object.__setattr__")))
    (ic7 : PySem.W.findIn K (.ref C7) "__init__" = some (some (.ref f7)))
    (tf7 : PySem.W.typeIn K (.ref f7) = some (.type "function"))
    (fn7 : K.lookup f7 = some ⟨oco7, odo7, .func (PySem.W.ksFn "__init__" "NotVerified.__init__" (defArgs KG.iVer) (defBody KG.iVer) (defScope KG.iVer) .none .none doco7 pmo7 ano7 (.ref cda7) cto7 cc7), slo7⟩)
    (cd7 : PySem.W.codeIn K (.ref cda7) "NotVerified.__init__" = true)
    (co7 : K.lookup cda7 = some ⟨cclo7, cddo7, .fields vso7, ccso7⟩)
    (ce7 : K.lookup cc7 = some ⟨clo7, cldo7, .cell (some (.ref C7)), cslo7⟩)
    (su7 : PySem.W.ks_superIn K C7 C7 "__init__" = some (some (.builtin "ValueError.__init__")))
    (vf7 : ∃ (file : Str) (tf : Tok), vso7[2]? = some (.str file tf) ∧ ((P.main.file : Str) == file) = true)
    (n1 : PySem.W.findIn K (.ref C1) "place" = some none)
    (n2 : PySem.W.findIn K (.ref C2) "what" = some none)
    (n6 : PySem.W.findIn K (.ref C6) "row" = some none)
    (n6w : PySem.W.findIn K (.ref C6) "word" = some none)
    (n7 : PySem.W.findIn K (.ref C7) "what" = some none)
    (a_feed : PySem.W.nsIn K mainGlobals "_law_feed" = some (some (.ref fn_feed)))
    (l_feed : K.lookup fn_feed = some ⟨oc_feed, od_feed, .func (PySem.W.fnOf "_law_feed" "_law_feed" (defArgs KA.sFeed) (defBody KA.sFeed) (defScope KA.sFeed) .none kV_feed dc_feed pm_feed an_feed cd_feed ct_feed), sl_feed⟩)
    (c_feed : PySem.W.codeIn K cd_feed "_law_feed" = true)
    (k_feed : PySem.W.keepIn K (.ref fn_feed) = true)
    (a_draw : PySem.W.nsIn K mainGlobals "_law_draw" = some (some (.ref fn_draw)))
    (l_draw : K.lookup fn_draw = some ⟨oc_draw, od_draw, .func (PySem.W.fnOf "_law_draw" "_law_draw" (defArgs KA.sDraw) (defBody KA.sDraw) (defScope KA.sDraw) .none kV_draw dc_draw pm_draw an_draw cd_draw ct_draw), sl_draw⟩)
    (c_draw : PySem.W.codeIn K cd_draw "_law_draw" = true)
    (k_draw : PySem.W.keepIn K (.ref fn_draw) = true)
    (a_one : PySem.W.nsIn K mainGlobals "_law_one" = some (some (.ref fn_one)))
    (l_one : K.lookup fn_one = some ⟨oc_one, od_one, .func (PySem.W.fnOf "_law_one" "_law_one" (defArgs KA.sOne) (defBody KA.sOne) (defScope KA.sOne) .none kV_one dc_one pm_one an_one cd_one ct_one), sl_one⟩)
    (c_one : PySem.W.codeIn K cd_one "_law_one" = true)
    (k_one : PySem.W.keepIn K (.ref fn_one) = true)
    (a_alike : PySem.W.nsIn K mainGlobals "_law_alike" = some (some (.ref fn_alike)))
    (l_alike : K.lookup fn_alike = some ⟨oc_alike, od_alike, .func (PySem.W.fnOf "_law_alike" "_law_alike" (defArgs KI.sAlike) (defBody KI.sAlike) (defScope KI.sAlike) .none kV_alike dc_alike pm_alike an_alike cd_alike ct_alike), sl_alike⟩)
    (c_alike : PySem.W.codeIn K cd_alike "_law_alike" = true)
    (k_alike : PySem.W.keepIn K (.ref fn_alike) = true)
    (a_place : PySem.W.nsIn K mainGlobals "_law_place" = some (some (.ref fn_place)))
    (l_place : K.lookup fn_place = some ⟨oc_place, od_place, .func (PySem.W.fnOf "_law_place" "_law_place" (defArgs KK.sPlace) (defBody KK.sPlace) (defScope KK.sPlace) .none kV_place dc_place pm_place an_place cd_place ct_place), sl_place⟩)
    (c_place : PySem.W.codeIn K cd_place "_law_place" = true)
    (k_place : PySem.W.keepIn K (.ref fn_place) = true)
    (a_what : PySem.W.nsIn K mainGlobals "_law_what" = some (some (.ref fn_what)))
    (l_what : K.lookup fn_what = some ⟨oc_what, od_what, .func (PySem.W.fnOf "_law_what" "_law_what" (defArgs KK.sWhat) (defBody KK.sWhat) (defScope KK.sWhat) .none kV_what dc_what pm_what an_what cd_what ct_what), sl_what⟩)
    (c_what : PySem.W.codeIn K cd_what "_law_what" = true)
    (k_what : PySem.W.keepIn K (.ref fn_what) = true)
    (a_made : PySem.W.nsIn K mainGlobals "_law_made" = some (some (.ref fn_made)))
    (l_made : K.lookup fn_made = some ⟨oc_made, od_made, .func (PySem.W.fnOf "_law_made" "_law_made" (defArgs KL.sMade) (defBody KL.sMade) (defScope KL.sMade) .none kV_made dc_made pm_made an_made cd_made ct_made), sl_made⟩)
    (c_made : PySem.W.codeIn K cd_made "_law_made" = true)
    (k_made : PySem.W.keepIn K (.ref fn_made) = true)
    (a_marks : PySem.W.nsIn K mainGlobals "_law_marks" = some (some (.ref fn_marks)))
    (l_marks : K.lookup fn_marks = some ⟨oc_marks, od_marks, .func (PySem.W.fnOf "_law_marks" "_law_marks" (defArgs KL.sMarks) (defBody KL.sMarks) (defScope KL.sMarks) .none kV_marks dc_marks pm_marks an_marks cd_marks ct_marks), sl_marks⟩)
    (c_marks : PySem.W.codeIn K cd_marks "_law_marks" = true)
    (k_marks : PySem.W.keepIn K (.ref fn_marks) = true)
    (a_fields : PySem.W.nsIn K mainGlobals "_law_fields" = some (some (.ref fn_fields)))
    (l_fields : K.lookup fn_fields = some ⟨oc_fields, od_fields, .func (PySem.W.fnOf "_law_fields" "_law_fields" (defArgs KL.sFields) (defBody KL.sFields) (defScope KL.sFields) .none kV_fields dc_fields pm_fields an_fields cd_fields ct_fields), sl_fields⟩)
    (c_fields : PySem.W.codeIn K cd_fields "_law_fields" = true)
    (k_fields : PySem.W.keepIn K (.ref fn_fields) = true)
    (a_law : PySem.W.nsIn K mainGlobals "law" = some (some (.ref fn_law)))
    (l_law : K.lookup fn_law = some ⟨oc_law, od_law, .func (PySem.W.fnOf "law" "law" (defArgs KM.sLaw) (defBody KM.sLaw) (defScope KM.sLaw) .none kV_law dc_law pm_law an_law cd_law ct_law), sl_law⟩)
    (c_law : PySem.W.codeIn K cd_law "law" = true)
    (k_law : PySem.W.keepIn K (.ref fn_law) = true)
    (z_isinstance : PySem.W.nsIn K mainGlobals "isinstance" = some none)
    (z_bool : PySem.W.nsIn K mainGlobals "bool" = some none)
    (z_tuple : PySem.W.nsIn K mainGlobals "tuple" = some none)
    (z_len : PySem.W.nsIn K mainGlobals "len" = some none)
    (z_range : PySem.W.nsIn K mainGlobals "range" = some none)
    (z_max : PySem.W.nsIn K mainGlobals "max" = some none)
    (z_min : PySem.W.nsIn K mainGlobals "min" = some none)
    (z_int : PySem.W.nsIn K mainGlobals "int" = some none)
    (z_sum : PySem.W.nsIn K mainGlobals "sum" = some none)
    (z_ValueError : PySem.W.nsIn K mainGlobals "ValueError" = some none)
    (z_super : PySem.W.nsIn K mainGlobals "super" = some none)
    (top : (P.main.scope.names.lookup ("super" : Str)).isSome = false) :
    ∃ fd : FuncData, (∀ (s : Shared) (v : Value), BindsTo s fd ⟨[v], []⟩ [("_law_script", v)]) ∧ ∀ base : Heap, K.In base → base.Ns mainGlobals mg → FnOk P w K mg base CX0 7 fa fd ["_law_script"] (KM.spLaw K) := by
  have e := hfa.symm.trans (PySem.W.mg_of X G a_law)
  cases e
  have F_feed := fun_mk (st := KA.sFeed) l_feed c_feed k_feed
  have b_feed := F_feed.binds (ps := ["_law_script", "_law_k"]) fun _ _ _ _ _ _ us hl => match us, hl with | [_, _], _ => rfl
  have F_draw := fun_mk (st := KA.sDraw) l_draw c_draw k_draw
  have b_draw := F_draw.binds (ps := ["_law_feed_here", "_law_many"]) fun _ _ _ _ _ _ us hl => match us, hl with | [_, _], _ => rfl
  have F_one := fun_mk (st := KA.sOne) l_one c_one k_one
  have b_one := F_one.binds (ps := ["_law_feed_here", "_law_things"]) fun _ _ _ _ _ _ us hl => match us, hl with | [_, _], _ => rfl
  have F_alike := fun_mk (st := KI.sAlike) l_alike c_alike k_alike
  have b_alike := F_alike.binds (ps := ["_law_found", "_law_due"]) fun _ _ _ _ _ _ us hl => match us, hl with | [_, _], _ => rfl
  have F_place := fun_mk (st := KK.sPlace) l_place c_place k_place
  have b_place := F_place.binds (ps := ["_law_feed_here"]) fun _ _ _ _ _ _ us hl => match us, hl with | [_], _ => rfl
  have F_what := fun_mk (st := KK.sWhat) l_what c_what k_what
  have b_what := F_what.binds (ps := ["_law_feed_here"]) fun _ _ _ _ _ _ us hl => match us, hl with | [_], _ => rfl
  have F_made := fun_mk (st := KL.sMade) l_made c_made k_made
  have b_made := F_made.binds (ps := ["_law_text", "_law_one_here", "_law_other", "_law_what_here", "_law_more"]) fun _ _ _ _ _ _ us hl => match us, hl with | [_, _, _, _, _], _ => rfl
  have F_marks := fun_mk (st := KL.sMarks) l_marks c_marks k_marks
  have b_marks := F_marks.binds (ps := ["_law_e"]) fun _ _ _ _ _ _ us hl => match us, hl with | [_], _ => rfl
  have F_fields := fun_mk (st := KL.sFields) l_fields c_fields k_fields
  have b_fields := F_fields.binds (ps := ["_law_errors"]) fun _ _ _ _ _ _ us hl => match us, hl with | [_], _ => rfl
  have F_law := fun_mk (st := KM.sLaw) l_law c_law k_law
  have mS : mg "super" = none := PySem.W.mg_none_of X G z_super
  obtain ⟨file1, tfk1, hv1, hfl1⟩ := vf1
  have sV1 : PySem.W.subIn K (.ref C1) (.type "ValueError") = some true := by
    show PySem.W.mroIn K C1 _ = _
    rw [(ClsX.mk (x := "BadText") (CM := CM) ⟨_, _, _, _, _, _, _, _, _, _, _, _, _, x1⟩ ga1 gt1 ca1 kp1).mro]
    simp [List.contains_cons]
  have E1 : KC.ErrC P K mg C1 f1 cda1 cc1 "BadText.__init__" (defArgs KG.iText) (defBody KG.iText) (defScope KG.iText) := ⟨⟨_, _, _, _, _, _, _, _, _, _, _, _, _, _, _, x1, by simp [PySem.HandSPX.refsVE]⟩, sa1, ic1, tf1, ⟨_, _, _, _, _, _, _, fn1⟩, cd1, ⟨_, _, _, _, _, _, co1, hv1, hfl1⟩, ⟨_, _, _, ce1⟩, su1, opq, mS, sV1, kp1, top⟩
  obtain ⟨file2, tfk2, hv2, hfl2⟩ := vf2
  have sV2 : PySem.W.subIn K (.ref C2) (.type "ValueError") = some true := by
    show PySem.W.mroIn K C2 _ = _
    rw [(ClsX.mk (x := "NotLetBy") (CM := CM) ⟨_, _, _, _, _, _, _, _, _, _, _, _, _, x2⟩ ga2 gt2 ca2 kp2).mro]
    simp [List.contains_cons]
  have E2 : KC.ErrC P K mg C2 f2 cda2 cc2 "NotLetBy.__init__" (defArgs KG.iLet) (defBody KG.iLet) (defScope KG.iLet) := ⟨⟨_, _, _, _, _, _, _, _, _, _, _, _, _, _, _, x2, by simp [PySem.HandSPX.refsVE]⟩, sa2, ic2, tf2, ⟨_, _, _, _, _, _, _, fn2⟩, cd2, ⟨_, _, _, _, _, _, co2, hv2, hfl2⟩, ⟨_, _, _, ce2⟩, su2, opq, mS, sV2, kp2, top⟩
  obtain ⟨file6, tfk6, hv6, hfl6⟩ := vf6
  have sV6 : PySem.W.subIn K (.ref C6) (.type "ValueError") = some true := by
    show PySem.W.mroIn K C6 _ = _
    rw [(ClsX.mk (x := "BadRows") (CM := CM) ⟨_, _, _, _, _, _, _, _, _, _, _, _, _, x6⟩ ga6 gt6 ca6 kp6).mro]
    simp [List.contains_cons]
  have E6 : KC.ErrC P K mg C6 f6 cda6 cc6 "BadRows.__init__" (defArgs KG.iRows) (defBody KG.iRows) (defScope KG.iRows) := ⟨⟨_, _, _, _, _, _, _, _, _, _, _, _, _, _, _, x6, by simp [PySem.HandSPX.refsVE]⟩, sa6, ic6, tf6, ⟨_, _, _, _, _, _, _, fn6⟩, cd6, ⟨_, _, _, _, _, _, co6, hv6, hfl6⟩, ⟨_, _, _, ce6⟩, su6, opq, mS, sV6, kp6, top⟩
  obtain ⟨file7, tfk7, hv7, hfl7⟩ := vf7
  have sV7 : PySem.W.subIn K (.ref C7) (.type "ValueError") = some true := by
    show PySem.W.mroIn K C7 _ = _
    rw [(ClsX.mk (x := "NotVerified") (CM := CM) ⟨_, _, _, _, _, _, _, _, _, _, _, _, _, x7⟩ ga7 gt7 ca7 kp7).mro]
    simp [List.contains_cons]
  have E7 : KC.ErrC P K mg C7 f7 cda7 cc7 "NotVerified.__init__" (defArgs KG.iVer) (defBody KG.iVer) (defScope KG.iVer) := ⟨⟨_, _, _, _, _, _, _, _, _, _, _, _, _, _, _, x7, by simp [PySem.HandSPX.refsVE]⟩, sa7, ic7, tf7, ⟨_, _, _, _, _, _, _, fn7⟩, cd7, ⟨_, _, _, _, _, _, co7, hv7, hfl7⟩, ⟨_, _, _, ce7⟩, su7, opq, mS, sV7, kp7, top⟩
  have T : Errs P K mg (fun i => ([C0, C1, C2, C3, C4, C5, C6, C7, C8, C9, C10, C11, C12, C13, C14, C15, C16, C17, C18, C19, C20, C21, C22, C23, C24, C25] : List Addr).getD i 0) CM f1 cda1 cc1 f2 cda2 cc2 f6 cda6 cc6 f7 cda7 cc7 := by
    refine errs_of (fun i hi => ?_) ⟨_, show PySem.W.clsIn K CM = some _ by unfold PySem.W.clsIn; rw [xM], rfl⟩ (by show (K.lookup CM).map (·.cls) = _; rw [xM]; rfl) cn ct (fun i hi => ?_) (PySem.W.mg_of X G aM) (fun i hi h1 h2 h6 h7 => ?_) E1 E2 E6 E7 n1 n2 n6 n6w n7
    · rcases i with _ | _ | _ | _ | _ | _ | _ | _ | _ | _ | _ | _ | _ | _ | _ | _ | _ | _ | _ | _ | _ | _ | _ | _ | _ | _ | i
      · exact ⟨⟨_, _, _, _, _, _, _, _, _, _, _, _, _, x0⟩, ga0, gt0, ca0, kp0⟩
      · exact ⟨⟨_, _, _, _, _, _, _, _, _, _, _, _, _, x1⟩, ga1, gt1, ca1, kp1⟩
      · exact ⟨⟨_, _, _, _, _, _, _, _, _, _, _, _, _, x2⟩, ga2, gt2, ca2, kp2⟩
      · exact ⟨⟨_, _, _, _, _, _, _, _, _, _, _, _, _, x3⟩, ga3, gt3, ca3, kp3⟩
      · exact ⟨⟨_, _, _, _, _, _, _, _, _, _, _, _, _, x4⟩, ga4, gt4, ca4, kp4⟩
      · exact ⟨⟨_, _, _, _, _, _, _, _, _, _, _, _, _, x5⟩, ga5, gt5, ca5, kp5⟩
      · exact ⟨⟨_, _, _, _, _, _, _, _, _, _, _, _, _, x6⟩, ga6, gt6, ca6, kp6⟩
      · exact ⟨⟨_, _, _, _, _, _, _, _, _, _, _, _, _, x7⟩, ga7, gt7, ca7, kp7⟩
      · exact ⟨⟨_, _, _, _, _, _, _, _, _, _, _, _, _, x8⟩, ga8, gt8, ca8, kp8⟩
      · exact ⟨⟨_, _, _, _, _, _, _, _, _, _, _, _, _, x9⟩, ga9, gt9, ca9, kp9⟩
      · exact ⟨⟨_, _, _, _, _, _, _, _, _, _, _, _, _, x10⟩, ga10, gt10, ca10, kp10⟩
      · exact ⟨⟨_, _, _, _, _, _, _, _, _, _, _, _, _, x11⟩, ga11, gt11, ca11, kp11⟩
      · exact ⟨⟨_, _, _, _, _, _, _, _, _, _, _, _, _, x12⟩, ga12, gt12, ca12, kp12⟩
      · exact ⟨⟨_, _, _, _, _, _, _, _, _, _, _, _, _, x13⟩, ga13, gt13, ca13, kp13⟩
      · exact ⟨⟨_, _, _, _, _, _, _, _, _, _, _, _, _, x14⟩, ga14, gt14, ca14, kp14⟩
      · exact ⟨⟨_, _, _, _, _, _, _, _, _, _, _, _, _, x15⟩, ga15, gt15, ca15, kp15⟩
      · exact ⟨⟨_, _, _, _, _, _, _, _, _, _, _, _, _, x16⟩, ga16, gt16, ca16, kp16⟩
      · exact ⟨⟨_, _, _, _, _, _, _, _, _, _, _, _, _, x17⟩, ga17, gt17, ca17, kp17⟩
      · exact ⟨⟨_, _, _, _, _, _, _, _, _, _, _, _, _, x18⟩, ga18, gt18, ca18, kp18⟩
      · exact ⟨⟨_, _, _, _, _, _, _, _, _, _, _, _, _, x19⟩, ga19, gt19, ca19, kp19⟩
      · exact ⟨⟨_, _, _, _, _, _, _, _, _, _, _, _, _, x20⟩, ga20, gt20, ca20, kp20⟩
      · exact ⟨⟨_, _, _, _, _, _, _, _, _, _, _, _, _, x21⟩, ga21, gt21, ca21, kp21⟩
      · exact ⟨⟨_, _, _, _, _, _, _, _, _, _, _, _, _, x22⟩, ga22, gt22, ca22, kp22⟩
      · exact ⟨⟨_, _, _, _, _, _, _, _, _, _, _, _, _, x23⟩, ga23, gt23, ca23, kp23⟩
      · exact ⟨⟨_, _, _, _, _, _, _, _, _, _, _, _, _, x24⟩, ga24, gt24, ca24, kp24⟩
      · exact ⟨⟨_, _, _, _, _, _, _, _, _, _, _, _, _, x25⟩, ga25, gt25, ca25, kp25⟩
      · omega
    · rcases i with _ | _ | _ | _ | _ | _ | _ | _ | _ | _ | _ | _ | _ | _ | _ | _ | _ | _ | _ | _ | _ | _ | _ | _ | _ | _ | i
      · exact PySem.W.mg_of X G a0
      · exact PySem.W.mg_of X G a1
      · exact PySem.W.mg_of X G a2
      · exact PySem.W.mg_of X G a3
      · exact PySem.W.mg_of X G a4
      · exact PySem.W.mg_of X G a5
      · exact PySem.W.mg_of X G a6
      · exact PySem.W.mg_of X G a7
      · exact PySem.W.mg_of X G a8
      · exact PySem.W.mg_of X G a9
      · exact PySem.W.mg_of X G a10
      · exact PySem.W.mg_of X G a11
      · exact PySem.W.mg_of X G a12
      · exact PySem.W.mg_of X G a13
      · exact PySem.W.mg_of X G a14
      · exact PySem.W.mg_of X G a15
      · exact PySem.W.mg_of X G a16
      · exact PySem.W.mg_of X G a17
      · exact PySem.W.mg_of X G a18
      · exact PySem.W.mg_of X G a19
      · exact PySem.W.mg_of X G a20
      · exact PySem.W.mg_of X G a21
      · exact PySem.W.mg_of X G a22
      · exact PySem.W.mg_of X G a23
      · exact PySem.W.mg_of X G a24
      · exact PySem.W.mg_of X G a25
      · omega
    · rcases i with _ | _ | _ | _ | _ | _ | _ | _ | _ | _ | _ | _ | _ | _ | _ | _ | _ | _ | _ | _ | _ | _ | _ | _ | _ | _ | i
      · exact ex0
      · exact absurd rfl h1
      · exact absurd rfl h2
      · exact ex3
      · exact ex4
      · exact ex5
      · exact absurd rfl h6
      · exact absurd rfl h7
      · exact ex8
      · exact ex9
      · exact ex10
      · exact ex11
      · exact ex12
      · exact ex13
      · exact ex14
      · exact ex15
      · exact ex16
      · exact ex17
      · exact ex18
      · exact ex19
      · exact ex20
      · exact ex21
      · exact ex22
      · exact ex23
      · exact ex24
      · exact ex25
      · omega
  have B : KM.Bl mg := ⟨PySem.W.mg_none_of X G z_isinstance, PySem.W.mg_none_of X G z_bool, PySem.W.mg_none_of X G z_tuple, PySem.W.mg_none_of X G z_len, PySem.W.mg_none_of X G z_range, PySem.W.mg_none_of X G z_max, PySem.W.mg_none_of X G z_min, PySem.W.mg_none_of X G z_int, PySem.W.mg_none_of X G z_sum, PySem.W.mg_none_of X G z_ValueError⟩
  exact ⟨_, fun s v => .of_eq rfl, fun base _ _ => KM.ok_law F_law T B F_feed b_feed (PySem.W.mg_of X G a_feed) F_draw b_draw (PySem.W.mg_of X G a_draw) F_one b_one (PySem.W.mg_of X G a_one) F_alike b_alike (PySem.W.mg_of X G a_alike) F_place b_place (PySem.W.mg_of X G a_place) F_what b_what (PySem.W.mg_of X G a_what) F_made b_made (PySem.W.mg_of X G a_made) F_marks b_marks (PySem.W.mg_of X G a_marks) F_fields b_fields (PySem.W.mg_of X G a_fields)⟩
end KO

open PySem PySem.W PyProof.Rows
set_option maxRecDepth 100000 in
set_option maxHeartbeats 0 in
theorem PySem.Challenge.cw_movedrun_k00_errors_holds : PySem.Challenge.rw_movedrun_k00_errors.Holds := by
  w_on; o_law; k_head; (case hw => w_witness2)
  k_fill
  refine L2.walk_ofK (l := PySem.Challenge.rw_movedrun_k00_errors) (n := 63) (k := 7) (x := "_law_script") (CX := L2.CX0) (sp := KM.spLaw) rfl (by decide) rfl ⟨rfl, by decide, by decide⟩ (fun w h Y => PySem.W.kIn_of Y) ?F (fun _ _ a ns hl _ hS => ⟨a, ns, rfl, hS, hl, fun _ => rfl⟩) fun _ _ _ _ z => z
  case F =>
    intro w mg fa h KX G hmg
    refine' KO.all_mk KX G hmg ?aM ?xM ?a0 ?x0 ?ga0 ?gt0 ?ca0 ?kp0 ?ex0 ?a1 ?x1 ?ga1 ?gt1 ?ca1 ?kp1 ?a2 ?x2 ?ga2 ?gt2 ?ca2 ?kp2 ?a3 ?x3 ?ga3 ?gt3 ?ca3 ?kp3 ?ex3 ?a4 ?x4 ?ga4 ?gt4 ?ca4 ?kp4 ?ex4 ?a5 ?x5 ?ga5 ?gt5 ?ca5 ?kp5 ?ex5 ?a6 ?x6 ?ga6 ?gt6 ?ca6 ?kp6 ?a7 ?x7 ?ga7 ?gt7 ?ca7 ?kp7 ?a8 ?x8 ?ga8 ?gt8 ?ca8 ?kp8 ?ex8 ?a9 ?x9 ?ga9 ?gt9 ?ca9 ?kp9 ?ex9 ?a10 ?x10 ?ga10 ?gt10 ?ca10 ?kp10 ?ex10 ?a11 ?x11 ?ga11 ?gt11 ?ca11 ?kp11 ?ex11 ?a12 ?x12 ?ga12 ?gt12 ?ca12 ?kp12 ?ex12 ?a13 ?x13 ?ga13 ?gt13 ?ca13 ?kp13 ?ex13 ?a14 ?x14 ?ga14 ?gt14 ?ca14 ?kp14 ?ex14 ?a15 ?x15 ?ga15 ?gt15 ?ca15 ?kp15 ?ex15 ?a16 ?x16 ?ga16 ?gt16 ?ca16 ?kp16 ?ex16 ?a17 ?x17 ?ga17 ?gt17 ?ca17 ?kp17 ?ex17 ?a18 ?x18 ?ga18 ?gt18 ?ca18 ?kp18 ?ex18 ?a19 ?x19 ?ga19 ?gt19 ?ca19 ?kp19 ?ex19 ?a20 ?x20 ?ga20 ?gt20 ?ca20 ?kp20 ?ex20 ?a21 ?x21 ?ga21 ?gt21 ?ca21 ?kp21 ?ex21 ?a22 ?x22 ?ga22 ?gt22 ?ca22 ?kp22 ?ex22 ?a23 ?x23 ?ga23 ?gt23 ?ca23 ?kp23 ?ex23 ?a24 ?x24 ?ga24 ?gt24 ?ca24 ?kp24 ?ex24 ?a25 ?x25 ?ga25 ?gt25 ?ca25 ?kp25 ?ex25 ?cn ?ct ?opq ?sa1 ?ic1 ?tf1 ?fn1 ?cd1 ?co1 ?ce1 ?su1 ?vf1 ?sa2 ?ic2 ?tf2 ?fn2 ?cd2 ?co2 ?ce2 ?su2 ?vf2 ?sa6 ?ic6 ?tf6 ?fn6 ?cd6 ?co6 ?ce6 ?su6 ?vf6 ?sa7 ?ic7 ?tf7 ?fn7 ?cd7 ?co7 ?ce7 ?su7 ?vf7 ?n1 ?n2 ?n6 ?n6w ?n7 ?a_feed ?l_feed ?c_feed ?k_feed ?a_draw ?l_draw ?c_draw ?k_draw ?a_one ?l_one ?c_one ?k_one ?a_alike ?l_alike ?c_alike ?k_alike ?a_place ?l_place ?c_place ?k_place ?a_what ?l_what ?c_what ?k_what ?a_made ?l_made ?c_made ?k_made ?a_marks ?l_marks ?c_marks ?k_marks ?a_fields ?l_fields ?c_fields ?k_fields ?a_law ?l_law ?c_law ?k_law ?z_isinstance ?z_bool ?z_tuple ?z_len ?z_range ?z_max ?z_min ?z_int ?z_sum ?z_ValueError ?z_super ?top
    (case aM => k_is)
    (case xM => k_is)
    (case a0 => k_is)
    (case x0 => k_is)
    (case ga0 => k_is)
    (case gt0 => k_is)
    (case ca0 => k_is)
    (case kp0 => k_is)
    (case ex0 => k_exc)
    (case a1 => k_is)
    (case x1 => k_is)
    (case ga1 => k_is)
    (case gt1 => k_is)
    (case ca1 => k_is)
    (case kp1 => k_is)
    (case a2 => k_is)
    (case x2 => k_is)
    (case ga2 => k_is)
    (case gt2 => k_is)
    (case ca2 => k_is)
    (case kp2 => k_is)
    (case a3 => k_is)
    (case x3 => k_is)
    (case ga3 => k_is)
    (case gt3 => k_is)
    (case ca3 => k_is)
    (case kp3 => k_is)
    (case ex3 => k_exc)
    (case a4 => k_is)
    (case x4 => k_is)
    (case ga4 => k_is)
    (case gt4 => k_is)
    (case ca4 => k_is)
    (case kp4 => k_is)
    (case ex4 => k_exc)
    (case a5 => k_is)
    (case x5 => k_is)
    (case ga5 => k_is)
    (case gt5 => k_is)
    (case ca5 => k_is)
    (case kp5 => k_is)
    (case ex5 => k_exc)
    (case a6 => k_is)
    (case x6 => k_is)
    (case ga6 => k_is)
    (case gt6 => k_is)
    (case ca6 => k_is)
    (case kp6 => k_is)
    (case a7 => k_is)
    (case x7 => k_is)
    (case ga7 => k_is)
    (case gt7 => k_is)
    (case ca7 => k_is)
    (case kp7 => k_is)
    (case a8 => k_is)
    (case x8 => k_is)
    (case ga8 => k_is)
    (case gt8 => k_is)
    (case ca8 => k_is)
    (case kp8 => k_is)
    (case ex8 => k_exc)
    (case a9 => k_is)
    (case x9 => k_is)
    (case ga9 => k_is)
    (case gt9 => k_is)
    (case ca9 => k_is)
    (case kp9 => k_is)
    (case ex9 => k_exc)
    (case a10 => k_is)
    (case x10 => k_is)
    (case ga10 => k_is)
    (case gt10 => k_is)
    (case ca10 => k_is)
    (case kp10 => k_is)
    (case ex10 => k_exc)
    (case a11 => k_is)
    (case x11 => k_is)
    (case ga11 => k_is)
    (case gt11 => k_is)
    (case ca11 => k_is)
    (case kp11 => k_is)
    (case ex11 => k_exc)
    (case a12 => k_is)
    (case x12 => k_is)
    (case ga12 => k_is)
    (case gt12 => k_is)
    (case ca12 => k_is)
    (case kp12 => k_is)
    (case ex12 => k_exc)
    (case a13 => k_is)
    (case x13 => k_is)
    (case ga13 => k_is)
    (case gt13 => k_is)
    (case ca13 => k_is)
    (case kp13 => k_is)
    (case ex13 => k_exc)
    (case a14 => k_is)
    (case x14 => k_is)
    (case ga14 => k_is)
    (case gt14 => k_is)
    (case ca14 => k_is)
    (case kp14 => k_is)
    (case ex14 => k_exc)
    (case a15 => k_is)
    (case x15 => k_is)
    (case ga15 => k_is)
    (case gt15 => k_is)
    (case ca15 => k_is)
    (case kp15 => k_is)
    (case ex15 => k_exc)
    (case a16 => k_is)
    (case x16 => k_is)
    (case ga16 => k_is)
    (case gt16 => k_is)
    (case ca16 => k_is)
    (case kp16 => k_is)
    (case ex16 => k_exc)
    (case a17 => k_is)
    (case x17 => k_is)
    (case ga17 => k_is)
    (case gt17 => k_is)
    (case ca17 => k_is)
    (case kp17 => k_is)
    (case ex17 => k_exc)
    (case a18 => k_is)
    (case x18 => k_is)
    (case ga18 => k_is)
    (case gt18 => k_is)
    (case ca18 => k_is)
    (case kp18 => k_is)
    (case ex18 => k_exc)
    (case a19 => k_is)
    (case x19 => k_is)
    (case ga19 => k_is)
    (case gt19 => k_is)
    (case ca19 => k_is)
    (case kp19 => k_is)
    (case ex19 => k_exc)
    (case a20 => k_is)
    (case x20 => k_is)
    (case ga20 => k_is)
    (case gt20 => k_is)
    (case ca20 => k_is)
    (case kp20 => k_is)
    (case ex20 => k_exc)
    (case a21 => k_is)
    (case x21 => k_is)
    (case ga21 => k_is)
    (case gt21 => k_is)
    (case ca21 => k_is)
    (case kp21 => k_is)
    (case ex21 => k_exc)
    (case a22 => k_is)
    (case x22 => k_is)
    (case ga22 => k_is)
    (case gt22 => k_is)
    (case ca22 => k_is)
    (case kp22 => k_is)
    (case ex22 => k_exc)
    (case a23 => k_is)
    (case x23 => k_is)
    (case ga23 => k_is)
    (case gt23 => k_is)
    (case ca23 => k_is)
    (case kp23 => k_is)
    (case ex23 => k_exc)
    (case a24 => k_is)
    (case x24 => k_is)
    (case ga24 => k_is)
    (case gt24 => k_is)
    (case ca24 => k_is)
    (case kp24 => k_is)
    (case ex24 => k_exc)
    (case a25 => k_is)
    (case x25 => k_is)
    (case ga25 => k_is)
    (case gt25 => k_is)
    (case ca25 => k_is)
    (case kp25 => k_is)
    (case ex25 => k_exc)
    (case cn => k_is)
    (case ct => k_is)
    (case opq => k_is)
    (case sa1 => k_is)
    (case ic1 => k_is)
    (case tf1 => k_is)
    (case fn1 => k_is)
    (case cd1 => k_is)
    (case co1 => k_is)
    (case ce1 => k_is)
    (case su1 => ks_is)
    (case vf1 => exact ⟨_, _, rfl, by decide +kernel⟩)
    (case sa2 => k_is)
    (case ic2 => k_is)
    (case tf2 => k_is)
    (case fn2 => k_is)
    (case cd2 => k_is)
    (case co2 => k_is)
    (case ce2 => k_is)
    (case su2 => ks_is)
    (case vf2 => exact ⟨_, _, rfl, by decide +kernel⟩)
    (case sa6 => k_is)
    (case ic6 => k_is)
    (case tf6 => k_is)
    (case fn6 => k_is)
    (case cd6 => k_is)
    (case co6 => k_is)
    (case ce6 => k_is)
    (case su6 => ks_is)
    (case vf6 => exact ⟨_, _, rfl, by decide +kernel⟩)
    (case sa7 => k_is)
    (case ic7 => k_is)
    (case tf7 => k_is)
    (case fn7 => k_is)
    (case cd7 => k_is)
    (case co7 => k_is)
    (case ce7 => k_is)
    (case su7 => ks_is)
    (case vf7 => exact ⟨_, _, rfl, by decide +kernel⟩)
    (case n1 => k_is)
    (case n2 => k_is)
    (case n6 => k_is)
    (case n6w => k_is)
    (case n7 => k_is)
    (case a_feed => k_is)
    (case l_feed => k_is)
    (case c_feed => k_is)
    (case k_feed => k_is)
    (case a_draw => k_is)
    (case l_draw => k_is)
    (case c_draw => k_is)
    (case k_draw => k_is)
    (case a_one => k_is)
    (case l_one => k_is)
    (case c_one => k_is)
    (case k_one => k_is)
    (case a_alike => k_is)
    (case l_alike => k_is)
    (case c_alike => k_is)
    (case k_alike => k_is)
    (case a_place => k_is)
    (case l_place => k_is)
    (case c_place => k_is)
    (case k_place => k_is)
    (case a_what => k_is)
    (case l_what => k_is)
    (case c_what => k_is)
    (case k_what => k_is)
    (case a_made => k_is)
    (case l_made => k_is)
    (case c_made => k_is)
    (case k_made => k_is)
    (case a_marks => k_is)
    (case l_marks => k_is)
    (case c_marks => k_is)
    (case k_marks => k_is)
    (case a_fields => k_is)
    (case l_fields => k_is)
    (case c_fields => k_is)
    (case k_fields => k_is)
    (case a_law => k_is)
    (case l_law => k_is)
    (case c_law => k_is)
    (case k_law => k_is)
    (case z_isinstance => k_is)
    (case z_bool => k_is)
    (case z_tuple => k_is)
    (case z_len => k_is)
    (case z_range => k_is)
    (case z_max => k_is)
    (case z_min => k_is)
    (case z_int => k_is)
    (case z_sum => k_is)
    (case z_ValueError => k_is)
    (case z_super => k_is)
    (case top => exact rfl)
