/-
  Part 17 of the texts ahead of Pks1: Itr1.
-/
import Derived.Test.YtnhfdcfnojnofaaGreatDoorProg
import Derived.Test.YtnhfdcfnojnofaaGreatDoorPks1Z1
import Derived.Test.YtnhfdcfnojnofaaGreatDoorPks1Z5
import Derived.OwnWalkIn
import Derived.TacticsInMore
import Derived.LoopNIn
import Derived.LoopIn
import Derived.Shelf.RegionOpen
set_option linter.unusedSimpArgs false
set_option linter.unusedVariables false
/-
  The iterators of package problem: over the places of a list's entries (within), and over the entries (each), for columns, rows and whole numbers.
-/
namespace Go.Proofs.YtnhfdcfnojnofaaGreatDoor
open Go.RowKit
attribute [local go_sem] Oper.semAt_some wide_depth wide_fn
/-- The places of n entries of sz cells each, from the start of block b on. -/
def ptrs (b sz n : Nat) : List (Array Value) := (List.range n).map fun i => #[Value.pointer (some ⟨b, i * sz, none⟩)]

theorem ptrs_get {b sz n k : Nat} (h : k < n) : (ptrs b sz n)[k]? = some #[Value.pointer (some ⟨b, k * sz, none⟩)] := by
  simp [ptrs, h]
theorem ptrs_len (b sz n : Nat) : (ptrs b sz n).length = n := by simp [ptrs]

theorem enters_f {f : Nat} {fn : Func} {c : Code} (h : Tryz.prog.funcs[f]? = some fn) (hname : (fn.name == "runtime.NumGoroutine") = false) (hb : fn.body = some c) : ∀ args w, (callFunc f args).run Tryz.prog w = .ok (.enter f args) w := Go.Proofs.enters_of h hname hb

def columnVs (x : Nat → Nat → Value) (n : Nat) : List (Array Value) := (List.range n).map fun i => #[Value.agg #[x i 0, x i 1, x i 2, x i 3, x i 4, x i 5]]
theorem columnVs_get {x : Nat → Nat → Value} {n k : Nat} (h : k < n) : (columnVs x n)[k]? = some #[Value.agg #[x k 0, x k 1, x k 2, x k 3, x k 4, x k 5]] := by
  simp [columnVs, h]
theorem columnVs_len (x : Nat → Nat → Value) (n : Nat) : (columnVs x n).length = n := by simp [columnVs]

set_option maxHeartbeats 1000000 in
set_option maxRecDepth 100000 in
theorem within_seq_column (ao : Option Addr) (b n cap bt : Nat) (hn : n ≤ 1000000) (hao : 0 < n → ao = some ⟨b, 0, none⟩) :
    SeqL Tryz.prog 325 #[.pointer (some ⟨bt, 0, none⟩)] (ptrs b 6 n) (fun W => W.cell? ⟨bt, 0, none⟩ = some (.slice ao n cap)) := by
  intro l J Jx M0 W hJ hJx hC hY h0
  have hc := (hC 0 M0 W h0).1
  have HC := hide hC
  have HY := hide hY
  clear hY hC
  refine (callsIn_wide (n := 0)).1 ?_
  refine callsIn_of_wp Tryz.func325 rfl trivial ?_ rfl
  simp only [Tryz.ntmps325, List.size_toArray, List.length_cons, List.length_nil, Nat.reduceAdd, Nat.reduceSub, Array.replicate_succ, Array.replicate_zero, List.push_toArray, List.append_toArray, List.nil_append, List.cons_append]
  gi_wp2
  gi_loopw [6] (fun i wr => ∃ (k : Nat) (M : Nat → Prop), i = .int .i64 (k : Int) ∧ k ≤ n ∧ J k M wr) (fun i _ => n - (intOf i).toNat)
  case atStart => exact ⟨0, M0, rfl, Nat.zero_le _, h0⟩
  case round =>
    obtain ⟨k, M, rfl, hk, hj⟩ := hrel
    have hck := (HC.out k M wr hj).1
    by_cases hkn : k < n
    · obtain rfl := hao (by omega)
      gi_wp2
      refine at_yield (HY.out k _ _ _ (ptrs_get hkn) hj) ?_ ?_
      · rintro W3 ⟨_, M3, hj3, _⟩
        gi_wp2
        go_roundw
        case rel => exact ⟨k + 1, M3, by simp, hkn, hj3⟩
        case measure => simp [intOf]; omega
      · intro W3 hj3
        gi_wp2
        refine bodyPost_ret (results_none rfl _ _ _) rfl ?_
        exact ⟨⟨_, rfl⟩, .inr ⟨k, by rw [ptrs_len]; exact hkn, hj3.2⟩⟩
    · gi_wp2
      go_end0
      have he : k = n := by omega
      subst he
      rw [ptrs_len]
      exact ⟨⟨_, rfl⟩, .inl ⟨M, hj⟩⟩

set_option maxHeartbeats 1000000 in
set_option maxRecDepth 100000 in
theorem within_mk_column (v : Value) (ao : Option Addr) (l c : Nat) (hv : v = .slice ao l c) (w : World) :
    Calls Tryz.prog 245 #[v] w fun e w' => e = .returned (.func (.func 325) #[] #[.pointer (some ⟨w.heap.size, 0, none⟩)]) ∧ w' = w.alloc (.cells #[v] 106) := by
  subst hv
  go_enter Tryz.func245, Tryz.ntmps245
  have hmf : ∀ (fn : Fn) (first cap : Array Value) (w : World), (Instr.makeFunc fn first cap).run Tryz.prog w = .ok (.func fn first cap) w := fun _ _ _ _ => rfl
  go_wp2
  go_ret
  exact ⟨rfl, rfl⟩

set_option maxHeartbeats 1000000 in
set_option maxRecDepth 100000 in
theorem each_seq_column (x : Nat → Nat → Value) (ao : Option Addr) (b n cap bt : Nat) (hn : n ≤ 1000000) (hao : 0 < n → ao = some ⟨b, 0, none⟩) :
    SeqL Tryz.prog 244 #[.pointer (some ⟨bt, 0, none⟩)] (columnVs x n) (fun W => W.cell? ⟨bt, 0, none⟩ = some (.slice ao n cap) ∧ ∀ i j, i < n → j < 6 → W.cell? ⟨b, i * 6 + j, none⟩ = some (x i j)) := by
  intro l J Jx M0 W hJ hJx hC hY h0
  have hc := (hC 0 M0 W h0).1.1
  have HC := hide hC
  have HY := hide hY
  have hm : Tryz.prog.follows .mixedOrders = true := by kernel_rfl
  clear hY hC
  refine (callsIn_wide (n := 0)).1 ?_
  refine callsIn_of_wp_marks Tryz.func244 rfl trivial ?_ rfl
  simp only [Tryz.ntmps244, List.size_toArray, List.length_cons, List.length_nil, Nat.reduceAdd, Nat.reduceSub, Array.replicate_succ, Array.replicate_zero, List.push_toArray, List.append_toArray, List.nil_append, List.cons_append]
  have hlt : bt < W.heap.size := block_lt_of_cell hc
  gi_wp2
  refine (callsIn_wide.2 (within_mk_column _ _ _ _ rfl _)).mono ?_
  rintro e w1 ⟨rfl, rfl⟩
  gi_wp2
  have hlt : bt < W.heap.size := block_lt_of_cell hc
  refine range_list (within_seq_column ao b n cap (W.heap.size + 1) hn hao) rfl (enters_f Tryz.func325 (by kernel_rfl) rfl) (fun v hv => ?_)
    (fun k M A => J k M A ∧ A.cell? ⟨W.heap.size, 0, none⟩ = some (.func (.yield l) #[] #[]) ∧ A.cell? ⟨W.heap.size + 1, 0, none⟩ = some (.slice ao n cap) ∧ ¬ M W.heap.size ∧ ¬ M (W.heap.size + 1)) (fun c k A => c = .ret ∧ Jx k A) M0 ?hI ?hIx ?hC ?h0 ?round ?done ?stop
  case hI =>
    rintro k M A B ⟨h1, h2, h3, h4, h5⟩ hk
    exact ⟨hJ _ _ _ _ h1 (hk.mono (by simp; omega)), hk.cell h2, hk.cell h3, h4, h5⟩
  case hIx =>
    rintro c k A B ⟨h1, h2⟩ hk
    exact ⟨h1, hJx _ _ _ h2 (hk.mono (by simp; omega))⟩
  case hC =>
    rintro k M A ⟨h1, h2, h3, h4, h5⟩
    exact ⟨h3, (HC.out k M A h1).2⟩
  case h0 =>
    refine ⟨hJ _ _ _ _ h0 ((Keep.alloc _ _ _).trans (Keep.alloc _ _ _)), ?_, ?_, ?_, ?_⟩
    · exact ((Boxed.new W 346 (.func (.yield l) #[] #[])).alloc _).cell
    · have := (Boxed.new (W.alloc (.cells #[.func (.yield l) #[] #[]] 346)) 106 (.slice ao n cap)).cell
      rwa [World.size_alloc] at this
    · intro h
      have := (HC.out 0 M0 W h0).2 _ h
      omega
    · intro h
      have := (HC.out 0 M0 W h0).2 _ h
      omega
  case round =>
    rintro l2 k v M A hv ⟨h1, h2, h3, h4, h5⟩
    have hkn : k < n := by
      have := (List.getElem?_eq_some_iff.1 hv).1
      rwa [ptrs_len] at this
    rw [ptrs_get hkn] at hv
    injection hv with hv
    subst hv
    have HC2 := hide (fun i j => ((HC.out k M A h1).1.2 i j))
    unfold RoundOK
    gi_wp2
    refine ⟨Wr.refl _ _, fun A2 hk2 => ?_⟩
    have g0 := hk2.cell h2
    have hcs : ∀ j, j < 6 → A2.cell? ⟨b, k * 6 + j, none⟩ = some (x k j) := fun j hj => hk2.cell (HC2.out k j hkn hj)
    have c0 : A2.cell? ⟨b, k * 6, none⟩ = some (x k 0) := hcs 0 (by omega)
    have c1 := hcs 1 (by omega)
    have c2 := hcs 2 (by omega)
    have c3 := hcs 3 (by omega)
    have c4 := hcs 4 (by omega)
    have c5 := hcs 5 (by omega)
    have hj2 := hJ _ _ _ _ h1 ((hk2.trans (Keep.drew _ _)).mono (by simp; omega))
    obtain ⟨fn, tmps, assign, body, hy, hR⟩ := yield_in l2 0 (HY.out k _ M A2.drew (columnVs_get hkn) hj2)
    gi_wp2
    gi_region_with_o (refine hR.mono ?_; rintro e W3 ⟨t, rfl, hp⟩)
    all_goals clear hR hy
    all_goals gi_wp2
    all_goals (rename_i ht; cases t <;> simp at ht)
    all_goals first
      | exact ⟨(Wr.drew _ _).trans (hp.out.2 rfl).1, rfl, (hp.out.2 rfl).2⟩
      | (obtain ⟨hw, M', hj3, hM⟩ := hp.out.1 rfl
         have hsz : W.heap.size + 1 < A2.heap.size := block_lt_of_cell (hk2.cell h3)
         have hsa : A.heap.size ≤ A2.heap.size := hk2.size
         refine ⟨(Wr.drew _ _).trans hw, M', ⟨hj3, hw.cell (p := ⟨W.heap.size, 0, none⟩) h4 g0, hw.cell (p := ⟨W.heap.size + 1, 0, none⟩) h5 (hk2.cell h3), fun h => ?_, fun h => ?_⟩, fun y hy => ?_⟩
         · rcases hM _ h with h | h
           · exact h4 h
           · have : A2.heap.size ≤ W.heap.size := h
             omega
         · rcases hM _ h with h | h
           · exact h5 h
           · have : A2.heap.size ≤ W.heap.size + 1 := h
             omega
         · rcases hM y hy with h | h
           · exact .inl h
           · exact .inr (Nat.le_trans hsa h))
  case done =>
    rintro D M A hD ⟨h1, h2, h3, h4, h5⟩ hd
    gi_wp2
    refine leave_mark hd ?_
    refine ⟨_, results_none rfl _ _ _, ⟨_, rfl⟩, .inl ⟨M, ?_⟩⟩
    rw [columnVs_len]
    rw [ptrs_len] at h1
    exact hJ _ _ _ _ h1 (Keep.putObj _ (by simp at hD; omega) hd rfl)
  case stop =>
    rintro D c k A hD hk ⟨rfl, h1⟩ hd
    gi_wp2
    refine leave_mark hd ?_
    refine ⟨_, results_none rfl _ _ _, ⟨_, rfl⟩, .inr ⟨k, ?_, hJx _ _ _ h1 (Keep.putObj _ (by simp at hD; omega) hd rfl)⟩⟩
    rw [columnVs_len]
    rwa [ptrs_len] at hk
  · obtain ⟨i, hi, rfl⟩ := List.mem_map.1 hv
    rfl
def rowVs (x : Nat → Nat → Value) (n : Nat) : List (Array Value) := (List.range n).map fun i => #[Value.agg #[x i 0, x i 1, x i 2, x i 3]]
theorem rowVs_get {x : Nat → Nat → Value} {n k : Nat} (h : k < n) : (rowVs x n)[k]? = some #[Value.agg #[x k 0, x k 1, x k 2, x k 3]] := by
  simp [rowVs, h]
theorem rowVs_len (x : Nat → Nat → Value) (n : Nat) : (rowVs x n).length = n := by simp [rowVs]

set_option maxHeartbeats 1000000 in
set_option maxRecDepth 100000 in
theorem within_seq_row (ao : Option Addr) (b n cap bt : Nat) (hn : n ≤ 1000000) (hao : 0 < n → ao = some ⟨b, 0, none⟩) :
    SeqL Tryz.prog 326 #[.pointer (some ⟨bt, 0, none⟩)] (ptrs b 4 n) (fun W => W.cell? ⟨bt, 0, none⟩ = some (.slice ao n cap)) := by
  intro l J Jx M0 W hJ hJx hC hY h0
  have hc := (hC 0 M0 W h0).1
  have HC := hide hC
  have HY := hide hY
  clear hY hC
  refine (callsIn_wide (n := 0)).1 ?_
  refine callsIn_of_wp Tryz.func326 rfl trivial ?_ rfl
  simp only [Tryz.ntmps326, List.size_toArray, List.length_cons, List.length_nil, Nat.reduceAdd, Nat.reduceSub, Array.replicate_succ, Array.replicate_zero, List.push_toArray, List.append_toArray, List.nil_append, List.cons_append]
  gi_wp2
  gi_loopw [6] (fun i wr => ∃ (k : Nat) (M : Nat → Prop), i = .int .i64 (k : Int) ∧ k ≤ n ∧ J k M wr) (fun i _ => n - (intOf i).toNat)
  case atStart => exact ⟨0, M0, rfl, Nat.zero_le _, h0⟩
  case round =>
    obtain ⟨k, M, rfl, hk, hj⟩ := hrel
    have hck := (HC.out k M wr hj).1
    by_cases hkn : k < n
    · obtain rfl := hao (by omega)
      gi_wp2
      refine at_yield (HY.out k _ _ _ (ptrs_get hkn) hj) ?_ ?_
      · rintro W3 ⟨_, M3, hj3, _⟩
        gi_wp2
        go_roundw
        case rel => exact ⟨k + 1, M3, by simp, hkn, hj3⟩
        case measure => simp [intOf]; omega
      · intro W3 hj3
        gi_wp2
        refine bodyPost_ret (results_none rfl _ _ _) rfl ?_
        exact ⟨⟨_, rfl⟩, .inr ⟨k, by rw [ptrs_len]; exact hkn, hj3.2⟩⟩
    · gi_wp2
      go_end0
      have he : k = n := by omega
      subst he
      rw [ptrs_len]
      exact ⟨⟨_, rfl⟩, .inl ⟨M, hj⟩⟩

set_option maxHeartbeats 1000000 in
set_option maxRecDepth 100000 in
theorem within_mk_row (v : Value) (ao : Option Addr) (l c : Nat) (hv : v = .slice ao l c) (w : World) :
    Calls Tryz.prog 247 #[v] w fun e w' => e = .returned (.func (.func 326) #[] #[.pointer (some ⟨w.heap.size, 0, none⟩)]) ∧ w' = w.alloc (.cells #[v] 107) := by
  subst hv
  go_enter Tryz.func247, Tryz.ntmps247
  have hmf : ∀ (fn : Fn) (first cap : Array Value) (w : World), (Instr.makeFunc fn first cap).run Tryz.prog w = .ok (.func fn first cap) w := fun _ _ _ _ => rfl
  go_wp2
  go_ret
  exact ⟨rfl, rfl⟩

set_option maxHeartbeats 1000000 in
set_option maxRecDepth 100000 in
theorem each_seq_row (x : Nat → Nat → Value) (ao : Option Addr) (b n cap bt : Nat) (hn : n ≤ 1000000) (hao : 0 < n → ao = some ⟨b, 0, none⟩) :
    SeqL Tryz.prog 246 #[.pointer (some ⟨bt, 0, none⟩)] (rowVs x n) (fun W => W.cell? ⟨bt, 0, none⟩ = some (.slice ao n cap) ∧ ∀ i j, i < n → j < 4 → W.cell? ⟨b, i * 4 + j, none⟩ = some (x i j)) := by
  intro l J Jx M0 W hJ hJx hC hY h0
  have hc := (hC 0 M0 W h0).1.1
  have HC := hide hC
  have HY := hide hY
  have hm : Tryz.prog.follows .mixedOrders = true := by kernel_rfl
  clear hY hC
  refine (callsIn_wide (n := 0)).1 ?_
  refine callsIn_of_wp_marks Tryz.func246 rfl trivial ?_ rfl
  simp only [Tryz.ntmps246, List.size_toArray, List.length_cons, List.length_nil, Nat.reduceAdd, Nat.reduceSub, Array.replicate_succ, Array.replicate_zero, List.push_toArray, List.append_toArray, List.nil_append, List.cons_append]
  have hlt : bt < W.heap.size := block_lt_of_cell hc
  gi_wp2
  refine (callsIn_wide.2 (within_mk_row _ _ _ _ rfl _)).mono ?_
  rintro e w1 ⟨rfl, rfl⟩
  gi_wp2
  have hlt : bt < W.heap.size := block_lt_of_cell hc
  refine range_list (within_seq_row ao b n cap (W.heap.size + 1) hn hao) rfl (enters_f Tryz.func326 (by kernel_rfl) rfl) (fun v hv => ?_)
    (fun k M A => J k M A ∧ A.cell? ⟨W.heap.size, 0, none⟩ = some (.func (.yield l) #[] #[]) ∧ A.cell? ⟨W.heap.size + 1, 0, none⟩ = some (.slice ao n cap) ∧ ¬ M W.heap.size ∧ ¬ M (W.heap.size + 1)) (fun c k A => c = .ret ∧ Jx k A) M0 ?hI ?hIx ?hC ?h0 ?round ?done ?stop
  case hI =>
    rintro k M A B ⟨h1, h2, h3, h4, h5⟩ hk
    exact ⟨hJ _ _ _ _ h1 (hk.mono (by simp; omega)), hk.cell h2, hk.cell h3, h4, h5⟩
  case hIx =>
    rintro c k A B ⟨h1, h2⟩ hk
    exact ⟨h1, hJx _ _ _ h2 (hk.mono (by simp; omega))⟩
  case hC =>
    rintro k M A ⟨h1, h2, h3, h4, h5⟩
    exact ⟨h3, (HC.out k M A h1).2⟩
  case h0 =>
    refine ⟨hJ _ _ _ _ h0 ((Keep.alloc _ _ _).trans (Keep.alloc _ _ _)), ?_, ?_, ?_, ?_⟩
    · exact ((Boxed.new W 351 (.func (.yield l) #[] #[])).alloc _).cell
    · have := (Boxed.new (W.alloc (.cells #[.func (.yield l) #[] #[]] 351)) 107 (.slice ao n cap)).cell
      rwa [World.size_alloc] at this
    · intro h
      have := (HC.out 0 M0 W h0).2 _ h
      omega
    · intro h
      have := (HC.out 0 M0 W h0).2 _ h
      omega
  case round =>
    rintro l2 k v M A hv ⟨h1, h2, h3, h4, h5⟩
    have hkn : k < n := by
      have := (List.getElem?_eq_some_iff.1 hv).1
      rwa [ptrs_len] at this
    rw [ptrs_get hkn] at hv
    injection hv with hv
    subst hv
    have HC2 := hide (fun i j => ((HC.out k M A h1).1.2 i j))
    unfold RoundOK
    gi_wp2
    refine ⟨Wr.refl _ _, fun A2 hk2 => ?_⟩
    have g0 := hk2.cell h2
    have hcs : ∀ j, j < 4 → A2.cell? ⟨b, k * 4 + j, none⟩ = some (x k j) := fun j hj => hk2.cell (HC2.out k j hkn hj)
    have c0 : A2.cell? ⟨b, k * 4, none⟩ = some (x k 0) := hcs 0 (by omega)
    have c1 := hcs 1 (by omega)
    have c2 := hcs 2 (by omega)
    have c3 := hcs 3 (by omega)
    have hj2 := hJ _ _ _ _ h1 ((hk2.trans (Keep.drew _ _)).mono (by simp; omega))
    obtain ⟨fn, tmps, assign, body, hy, hR⟩ := yield_in l2 0 (HY.out k _ M A2.drew (rowVs_get hkn) hj2)
    gi_wp2
    gi_region_with_o (refine hR.mono ?_; rintro e W3 ⟨t, rfl, hp⟩)
    all_goals clear hR hy
    all_goals gi_wp2
    all_goals (rename_i ht; cases t <;> simp at ht)
    all_goals first
      | exact ⟨(Wr.drew _ _).trans (hp.out.2 rfl).1, rfl, (hp.out.2 rfl).2⟩
      | (obtain ⟨hw, M', hj3, hM⟩ := hp.out.1 rfl
         have hsz : W.heap.size + 1 < A2.heap.size := block_lt_of_cell (hk2.cell h3)
         have hsa : A.heap.size ≤ A2.heap.size := hk2.size
         refine ⟨(Wr.drew _ _).trans hw, M', ⟨hj3, hw.cell (p := ⟨W.heap.size, 0, none⟩) h4 g0, hw.cell (p := ⟨W.heap.size + 1, 0, none⟩) h5 (hk2.cell h3), fun h => ?_, fun h => ?_⟩, fun y hy => ?_⟩
         · rcases hM _ h with h | h
           · exact h4 h
           · have : A2.heap.size ≤ W.heap.size := h
             omega
         · rcases hM _ h with h | h
           · exact h5 h
           · have : A2.heap.size ≤ W.heap.size + 1 := h
             omega
         · rcases hM y hy with h | h
           · exact .inl h
           · exact .inr (Nat.le_trans hsa h))
  case done =>
    rintro D M A hD ⟨h1, h2, h3, h4, h5⟩ hd
    gi_wp2
    refine leave_mark hd ?_
    refine ⟨_, results_none rfl _ _ _, ⟨_, rfl⟩, .inl ⟨M, ?_⟩⟩
    rw [rowVs_len]
    rw [ptrs_len] at h1
    exact hJ _ _ _ _ h1 (Keep.putObj _ (by simp at hD; omega) hd rfl)
  case stop =>
    rintro D c k A hD hk ⟨rfl, h1⟩ hd
    gi_wp2
    refine leave_mark hd ?_
    refine ⟨_, results_none rfl _ _ _, ⟨_, rfl⟩, .inr ⟨k, ?_, hJx _ _ _ h1 (Keep.putObj _ (by simp at hD; omega) hd rfl)⟩⟩
    rw [rowVs_len]
    rwa [ptrs_len] at hk
  · obtain ⟨i, hi, rfl⟩ := List.mem_map.1 hv
    rfl
def wholeVs (x : Nat → Nat → Value) (n : Nat) : List (Array Value) := (List.range n).map fun i => #[Value.agg #[x i 0, x i 1]]
theorem wholeVs_get {x : Nat → Nat → Value} {n k : Nat} (h : k < n) : (wholeVs x n)[k]? = some #[Value.agg #[x k 0, x k 1]] := by
  simp [wholeVs, h]
theorem wholeVs_len (x : Nat → Nat → Value) (n : Nat) : (wholeVs x n).length = n := by simp [wholeVs]

set_option maxHeartbeats 1000000 in
set_option maxRecDepth 100000 in
theorem within_seq_whole (ao : Option Addr) (b n cap bt : Nat) (hn : n ≤ 1000000) (hao : 0 < n → ao = some ⟨b, 0, none⟩) :
    SeqL Tryz.prog 367 #[.pointer (some ⟨bt, 0, none⟩)] (ptrs b 2 n) (fun W => W.cell? ⟨bt, 0, none⟩ = some (.slice ao n cap)) := by
  intro l J Jx M0 W hJ hJx hC hY h0
  have hc := (hC 0 M0 W h0).1
  have HC := hide hC
  have HY := hide hY
  clear hY hC
  refine (callsIn_wide (n := 0)).1 ?_
  refine callsIn_of_wp Tryz.func367 rfl trivial ?_ rfl
  simp only [Tryz.ntmps367, List.size_toArray, List.length_cons, List.length_nil, Nat.reduceAdd, Nat.reduceSub, Array.replicate_succ, Array.replicate_zero, List.push_toArray, List.append_toArray, List.nil_append, List.cons_append]
  gi_wp2
  gi_loopw [6] (fun i wr => ∃ (k : Nat) (M : Nat → Prop), i = .int .i64 (k : Int) ∧ k ≤ n ∧ J k M wr) (fun i _ => n - (intOf i).toNat)
  case atStart => exact ⟨0, M0, rfl, Nat.zero_le _, h0⟩
  case round =>
    obtain ⟨k, M, rfl, hk, hj⟩ := hrel
    have hck := (HC.out k M wr hj).1
    by_cases hkn : k < n
    · obtain rfl := hao (by omega)
      gi_wp2
      refine at_yield (HY.out k _ _ _ (ptrs_get hkn) hj) ?_ ?_
      · rintro W3 ⟨_, M3, hj3, _⟩
        gi_wp2
        go_roundw
        case rel => exact ⟨k + 1, M3, by simp, hkn, hj3⟩
        case measure => simp [intOf]; omega
      · intro W3 hj3
        gi_wp2
        refine bodyPost_ret (results_none rfl _ _ _) rfl ?_
        exact ⟨⟨_, rfl⟩, .inr ⟨k, by rw [ptrs_len]; exact hkn, hj3.2⟩⟩
    · gi_wp2
      go_end0
      have he : k = n := by omega
      subst he
      rw [ptrs_len]
      exact ⟨⟨_, rfl⟩, .inl ⟨M, hj⟩⟩

set_option maxHeartbeats 1000000 in
set_option maxRecDepth 100000 in
theorem within_mk_whole (v : Value) (ao : Option Addr) (l c : Nat) (hv : v = .slice ao l c) (w : World) :
    Calls Tryz.prog 323 #[v] w fun e w' => e = .returned (.func (.func 367) #[] #[.pointer (some ⟨w.heap.size, 0, none⟩)]) ∧ w' = w.alloc (.cells #[v] 158) := by
  subst hv
  go_enter Tryz.func323, Tryz.ntmps323
  have hmf : ∀ (fn : Fn) (first cap : Array Value) (w : World), (Instr.makeFunc fn first cap).run Tryz.prog w = .ok (.func fn first cap) w := fun _ _ _ _ => rfl
  go_wp2
  go_ret
  exact ⟨rfl, rfl⟩

set_option maxHeartbeats 1000000 in
set_option maxRecDepth 100000 in
theorem each_seq_whole (x : Nat → Nat → Value) (ao : Option Addr) (b n cap bt : Nat) (hn : n ≤ 1000000) (hao : 0 < n → ao = some ⟨b, 0, none⟩) :
    SeqL Tryz.prog 327 #[.pointer (some ⟨bt, 0, none⟩)] (wholeVs x n) (fun W => W.cell? ⟨bt, 0, none⟩ = some (.slice ao n cap) ∧ ∀ i j, i < n → j < 2 → W.cell? ⟨b, i * 2 + j, none⟩ = some (x i j)) := by
  intro l J Jx M0 W hJ hJx hC hY h0
  have hc := (hC 0 M0 W h0).1.1
  have HC := hide hC
  have HY := hide hY
  have hm : Tryz.prog.follows .mixedOrders = true := by kernel_rfl
  clear hY hC
  refine (callsIn_wide (n := 0)).1 ?_
  refine callsIn_of_wp_marks Tryz.func327 rfl trivial ?_ rfl
  simp only [Tryz.ntmps327, List.size_toArray, List.length_cons, List.length_nil, Nat.reduceAdd, Nat.reduceSub, Array.replicate_succ, Array.replicate_zero, List.push_toArray, List.append_toArray, List.nil_append, List.cons_append]
  have hlt : bt < W.heap.size := block_lt_of_cell hc
  gi_wp2
  refine (callsIn_wide.2 (within_mk_whole _ _ _ _ rfl _)).mono ?_
  rintro e w1 ⟨rfl, rfl⟩
  gi_wp2
  have hlt : bt < W.heap.size := block_lt_of_cell hc
  refine range_list (within_seq_whole ao b n cap (W.heap.size + 1) hn hao) rfl (enters_f Tryz.func367 (by kernel_rfl) rfl) (fun v hv => ?_)
    (fun k M A => J k M A ∧ A.cell? ⟨W.heap.size, 0, none⟩ = some (.func (.yield l) #[] #[]) ∧ A.cell? ⟨W.heap.size + 1, 0, none⟩ = some (.slice ao n cap) ∧ ¬ M W.heap.size ∧ ¬ M (W.heap.size + 1)) (fun c k A => c = .ret ∧ Jx k A) M0 ?hI ?hIx ?hC ?h0 ?round ?done ?stop
  case hI =>
    rintro k M A B ⟨h1, h2, h3, h4, h5⟩ hk
    exact ⟨hJ _ _ _ _ h1 (hk.mono (by simp; omega)), hk.cell h2, hk.cell h3, h4, h5⟩
  case hIx =>
    rintro c k A B ⟨h1, h2⟩ hk
    exact ⟨h1, hJx _ _ _ h2 (hk.mono (by simp; omega))⟩
  case hC =>
    rintro k M A ⟨h1, h2, h3, h4, h5⟩
    exact ⟨h3, (HC.out k M A h1).2⟩
  case h0 =>
    refine ⟨hJ _ _ _ _ h0 ((Keep.alloc _ _ _).trans (Keep.alloc _ _ _)), ?_, ?_, ?_, ?_⟩
    · exact ((Boxed.new W 250 (.func (.yield l) #[] #[])).alloc _).cell
    · have := (Boxed.new (W.alloc (.cells #[.func (.yield l) #[] #[]] 250)) 158 (.slice ao n cap)).cell
      rwa [World.size_alloc] at this
    · intro h
      have := (HC.out 0 M0 W h0).2 _ h
      omega
    · intro h
      have := (HC.out 0 M0 W h0).2 _ h
      omega
  case round =>
    rintro l2 k v M A hv ⟨h1, h2, h3, h4, h5⟩
    have hkn : k < n := by
      have := (List.getElem?_eq_some_iff.1 hv).1
      rwa [ptrs_len] at this
    rw [ptrs_get hkn] at hv
    injection hv with hv
    subst hv
    have HC2 := hide (fun i j => ((HC.out k M A h1).1.2 i j))
    unfold RoundOK
    gi_wp2
    refine ⟨Wr.refl _ _, fun A2 hk2 => ?_⟩
    have g0 := hk2.cell h2
    have hcs : ∀ j, j < 2 → A2.cell? ⟨b, k * 2 + j, none⟩ = some (x k j) := fun j hj => hk2.cell (HC2.out k j hkn hj)
    have c0 : A2.cell? ⟨b, k * 2, none⟩ = some (x k 0) := hcs 0 (by omega)
    have c1 := hcs 1 (by omega)
    have hj2 := hJ _ _ _ _ h1 ((hk2.trans (Keep.drew _ _)).mono (by simp; omega))
    obtain ⟨fn, tmps, assign, body, hy, hR⟩ := yield_in l2 0 (HY.out k _ M A2.drew (wholeVs_get hkn) hj2)
    gi_wp2
    gi_region_with_o (refine hR.mono ?_; rintro e W3 ⟨t, rfl, hp⟩)
    all_goals clear hR hy
    all_goals gi_wp2
    all_goals (rename_i ht; cases t <;> simp at ht)
    all_goals first
      | exact ⟨(Wr.drew _ _).trans (hp.out.2 rfl).1, rfl, (hp.out.2 rfl).2⟩
      | (obtain ⟨hw, M', hj3, hM⟩ := hp.out.1 rfl
         have hsz : W.heap.size + 1 < A2.heap.size := block_lt_of_cell (hk2.cell h3)
         have hsa : A.heap.size ≤ A2.heap.size := hk2.size
         refine ⟨(Wr.drew _ _).trans hw, M', ⟨hj3, hw.cell (p := ⟨W.heap.size, 0, none⟩) h4 g0, hw.cell (p := ⟨W.heap.size + 1, 0, none⟩) h5 (hk2.cell h3), fun h => ?_, fun h => ?_⟩, fun y hy => ?_⟩
         · rcases hM _ h with h | h
           · exact h4 h
           · have : A2.heap.size ≤ W.heap.size := h
             omega
         · rcases hM _ h with h | h
           · exact h5 h
           · have : A2.heap.size ≤ W.heap.size + 1 := h
             omega
         · rcases hM y hy with h | h
           · exact .inl h
           · exact .inr (Nat.le_trans hsa h))
  case done =>
    rintro D M A hD ⟨h1, h2, h3, h4, h5⟩ hd
    gi_wp2
    refine leave_mark hd ?_
    refine ⟨_, results_none rfl _ _ _, ⟨_, rfl⟩, .inl ⟨M, ?_⟩⟩
    rw [wholeVs_len]
    rw [ptrs_len] at h1
    exact hJ _ _ _ _ h1 (Keep.putObj _ (by simp at hD; omega) hd rfl)
  case stop =>
    rintro D c k A hD hk ⟨rfl, h1⟩ hd
    gi_wp2
    refine leave_mark hd ?_
    refine ⟨_, results_none rfl _ _ _, ⟨_, rfl⟩, .inr ⟨k, ?_, hJx _ _ _ h1 (Keep.putObj _ (by simp at hD; omega) hd rfl)⟩⟩
    rw [wholeVs_len]
    rwa [ptrs_len] at hk
  · obtain ⟨i, hi, rfl⟩ := List.mem_map.1 hv
    rfl
end Go.Proofs.YtnhfdcfnojnofaaGreatDoor
