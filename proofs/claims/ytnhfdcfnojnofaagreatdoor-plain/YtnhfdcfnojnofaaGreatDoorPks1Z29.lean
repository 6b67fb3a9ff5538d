/-
  Part 29 of the texts ahead of Pks1: Dvs4, Dvs5, Dvs6.
-/
import Derived.Test.YtnhfdcfnojnofaaGreatDoorPks1Z25
import Derived.Test.YtnhfdcfnojnofaaGreatDoorPks1Z20
import Derived.Test.YtnhfdcfnojnofaaGreatDoorPks1Z8
import Derived.Test.YtnhfdcfnojnofaaGreatDoorPks1Z19
import Derived.Test.YtnhfdcfnojnofaaGreatDoorPks1Z28
set_option linter.unusedSimpArgs false
set_option linter.unusedVariables false
/-
  The iterator over a problem's aims (package problem).
-/
namespace Go.Proofs.YtnhfdcfnojnofaaGreatDoor
open Go.RowKit
attribute [local go_sem] Oper.semAt_some wide_depth wide_fn

def aimVs (x : Nat → Nat → Value) (n : Nat) : List (Array Value) := (List.range n).map fun i => #[Value.agg #[x i 0, x i 1]]
theorem aimVs_get {x : Nat → Nat → Value} {n k : Nat} (h : k < n) : (aimVs x n)[k]? = some #[Value.agg #[x k 0, x k 1]] := by
  simp [aimVs, h]
theorem aimVs_len (x : Nat → Nat → Value) (n : Nat) : (aimVs x n).length = n := by simp [aimVs]

set_option maxHeartbeats 400000 in
theorem aims_mk (ao : Option Addr) (n cap : Nat) (ap : Option Addr) (m kp : Nat) (w : World) :
    Calls Tryz.prog 88 #[.agg #[.slice ao n cap, .slice ap m kp]] w fun e w' => e = .returned (.func (.func 155) #[] #[.pointer (some ⟨w.heap.size, 0, none⟩)]) ∧ w' = w.alloc (.cells #[.slice ao n cap, .slice ap m kp] 109) := by
  go_enter Tryz.func88, Tryz.ntmps88
  have hmf : ∀ (fn : Fn) (first cap : Array Value) (w : World), (Instr.makeFunc fn first cap).run Tryz.prog w = .ok (.func fn first cap) w := fun _ _ _ _ => rfl
  go_wp2
  go_ret
  exact ⟨rfl, rfl⟩

set_option maxHeartbeats 1000000 in
set_option maxRecDepth 100000 in
theorem aims_seq (x : Nat → Nat → Value) (ao : Option Addr) (b n cap bt : Nat) (ap : Option Addr) (m kp : Nat) (hn : n ≤ 1000000) (hao : 0 < n → ao = some ⟨b, 0, none⟩) (hxs : ∀ k t, k < n → t < 3 → ∃ b a l c, x k (2 * t) = .bool b ∧ x k (2 * t + 1) = .slice a l c) :
    SeqL Tryz.prog 155 #[.pointer (some ⟨bt, 0, none⟩)] (aimVs x n) (fun W => W.cell? ⟨bt, 0, none⟩ = some (.slice ao n cap) ∧ W.cell? ⟨bt, 1, none⟩ = some (.slice ap m kp) ∧ ∀ i j, i < n → j < 6 → W.cell? ⟨b, i * 6 + j, none⟩ = some (x i j)) := by
  intro l J Jx M0 W hJ hJx hC hY h0
  have hc := (hC 0 M0 W h0).1.1
  have hc2 := (hC 0 M0 W h0).1.2.1
  have HC := hide hC
  have HY := hide hY
  have hm : Tryz.prog.follows .mixedOrders = true := by kernel_rfl
  clear hY hC
  have hlt : bt < W.heap.size := block_lt_of_cell hc
  have hcA : (W.alloc (.cells #[.func (.yield l) #[] #[]] 250)).cell? ⟨bt, 0, none⟩ = some (.slice ao n cap) := (Keep.alloc 0 W _).cell hc
  have hcB : (W.alloc (.cells #[.func (.yield l) #[] #[]] 250)).cell? ⟨bt, 1, none⟩ = some (.slice ap m kp) := (Keep.alloc 0 W _).cell hc2
  refine (callsIn_wide (n := 0)).1 ?_
  refine callsIn_of_wp_marks Tryz.func155 rfl trivial ?_ rfl
  simp only [Tryz.ntmps155, List.size_toArray, List.length_cons, List.length_nil, Nat.reduceAdd, Nat.reduceSub, Array.replicate_succ, Array.replicate_zero, List.push_toArray, List.append_toArray, List.nil_append, List.cons_append]
  gi_wp2
  refine (callsIn_wide.2 (columns_mk _ _ _ _ _)).mono ?_
  rintro e w1 ⟨rfl, rfl⟩
  gi_wp2
  refine range_list (each_seq_column x ao b n cap (W.heap.size + 1 + 1) hn hao) rfl (enters_f Tryz.func244 (by kernel_rfl) rfl) (fun v hv => ?_)
    (fun k M A => J k M A ∧ A.cell? ⟨W.heap.size, 0, none⟩ = some (.func (.yield l) #[] #[]) ∧ A.cell? ⟨W.heap.size + 1 + 1, 0, none⟩ = some (.slice ao n cap) ∧ ¬ M W.heap.size ∧ ¬ M (W.heap.size + 1 + 1)) (fun c k A => c = .ret ∧ Jx k A) M0 ?hI ?hIx ?hC ?h0 ?round ?done ?stop
  case hI =>
    rintro k M A B ⟨h1, h2, h3, h4, h5⟩ hk
    exact ⟨hJ _ _ _ _ h1 (hk.mono (by simp; omega)), hk.cell h2, hk.cell h3, h4, h5⟩
  case hIx =>
    rintro c k A B ⟨h1, h2⟩ hk
    exact ⟨h1, hJx _ _ _ h2 (hk.mono (by simp; omega))⟩
  case hC =>
    rintro k M A ⟨h1, h2, h3, h4, h5⟩
    exact ⟨⟨h3, (HC.out k M A h1).1.2.2⟩, (HC.out k M A h1).2⟩
  case h0 =>
    obtain ⟨t0, _, t2, _⟩ := quad_heap W (.cells #[.func (.yield l) #[] #[]] 250) (.cells #[.slice ao n cap, .slice ap m kp] 109) (.cells #[.slice ao n cap] 106) (.cells #[] 0)
    rw [Below.heap_alloc _ _ _ (by simp <;> omega)] at t0 t2
    refine ⟨hJ _ _ _ _ h0 (((Keep.alloc _ _ _).trans (Keep.alloc _ _ _)).trans (Keep.alloc _ _ _)), cell_of_row _ _ _ _ _ _ t0, cell_of_row _ _ _ _ _ _ t2, ?_, ?_⟩
    · intro h
      have := (HC.out 0 M0 W h0).2 _ h
      omega
    · intro h
      have := (HC.out 0 M0 W h0).2 _ h
      omega
  case round =>
    rintro l2 k v M A hv ⟨h1, h2, h3, h4, h5⟩
    have hkn : k < n := by
      have := (List.getElem?_eq_some_iff.1 hv).1
      rwa [columnVs_len] at this
    rw [columnVs_get hkn] at hv
    injection hv with hv
    subst hv
    obtain ⟨y0, a0, l0, c0, e0, e1⟩ := hxs k 0 hkn (by omega)
    obtain ⟨y1, a1, l1, c1, e2, e3⟩ := hxs k 1 hkn (by omega)
    obtain ⟨y2, a2, l2', c2, e4, e5⟩ := hxs k 2 hkn (by omega)
    simp only [Nat.mul_zero, Nat.mul_one, Nat.zero_add, Nat.reduceMul, Nat.reduceAdd] at e0 e1 e2 e3 e4 e5
    have hag := aimVs_get (x := x) hkn
    rw [e0, e1] at hag
    rw [e0, e1, e2, e3, e4, e5]
    unfold RoundOK
    gi_wp2
    refine ⟨Wr.of_below ((Below.refl _ _).alloc (Nat.le_refl _) _), fun A2 hk2 => ?_⟩
    have hka := (Keep.alloc _ A _).trans hk2
    have g0 := hka.cell h2
    have p0 : A2.cell? ⟨A.heap.size, 0, none⟩ = some (.bool y0) := hk2.cell (cell_of_row _ _ _ _ _ _ (World.alloc_heap_new A _))
    have p1 : A2.cell? ⟨A.heap.size, 1, none⟩ = some (.slice a0 l0 c0) := hk2.cell (cell_of_row _ _ _ _ _ _ (World.alloc_heap_new A _))
    have hj2 := hJ _ _ _ _ h1 (hka.mono (by simp; omega))
    have hsA : A.heap.size ≤ A2.heap.size := hka.size
    have h3' := hka.cell h3
    clear hk2 hka e0 e1 e2 e3 e4 e5
    gi_wp2
    refine at_yield_in (HY.out k _ M A2 hag hj2) ?_ ?_
    · rintro W3 ⟨hw, M', hj3, hM⟩
      gi_wp2
      have hsz : W.heap.size + 1 + 1 < A2.heap.size := block_lt_of_cell h3'
      refine ⟨hw, M', ⟨hj3, hw.cell (p := ⟨W.heap.size, 0, none⟩) h4 g0, hw.cell (p := ⟨W.heap.size + 1 + 1, 0, none⟩) h5 h3', fun h => ?_, fun h => ?_⟩, fun y hy => ?_⟩
      · rcases hM _ h with h | h
        · exact h4 h
        · have : A2.heap.size ≤ W.heap.size := h
          omega
      · rcases hM _ h with h | h
        · exact h5 h
        · have : A2.heap.size ≤ W.heap.size + 1 + 1 := h
          omega
      · rcases hM y hy with h | h
        · exact .inl h
        · exact .inr (Nat.le_trans hsA h)
    · rintro W3 ⟨hw, hj3⟩
      gi_wp2
      exact ⟨hw, rfl, hj3⟩
  case done =>
    rintro D M A hD ⟨h1, h2, h3, h4, h5⟩ hd
    gi_wp2
    refine leave_mark hd ?_
    refine ⟨_, results_none rfl _ _ _, ⟨_, rfl⟩, .inl ⟨M, ?_⟩⟩
    rw [aimVs_len]
    rw [columnVs_len] at h1
    exact hJ _ _ _ _ h1 (Keep.putObj _ (by simp at hD; omega) hd rfl)
  case stop =>
    rintro D c k A hD hk ⟨rfl, h1⟩ hd
    gi_wp2
    refine leave_mark hd ?_
    refine ⟨_, results_none rfl _ _ _, ⟨_, rfl⟩, .inr ⟨k, ?_, hJx _ _ _ h1 (Keep.putObj _ (by simp at hD; omega) hd rfl)⟩⟩
    rw [aimVs_len]
    rwa [columnVs_len] at hk
  · obtain ⟨i, hi, rfl⟩ := List.mem_map.1 hv
    rfl
end Go.Proofs.YtnhfdcfnojnofaaGreatDoor

/-
  A builder of text, as String writes into it (package problem).
-/
namespace Go.Proofs.YtnhfdcfnojnofaaGreatDoor
open Go.RowKit

section
variable {P : Program} (w : World)

/-- Where a text lies that was appended to a row of bytes. -/
theorem string_at (base : Nat) (t u ty e : TypeId) (i : TypeInfo) (ht : P.underlying t = some (.slice e)) (hu : P.underlying u = some .string) (hi : P.info? e = some i) (hz : i.zero = some (.int .u8 0))
    (hsize : i.size = 1) (hby : i.bytes = 1) (v : Value) (n : Nat) (xs : List Value) (hown : w.ownsRowF base e 1 v n xs) (s : ByteArray)
    (h63 : n + s.size ≤ maxLen) (hbytes : n + s.size ≤ 140737488355328) (hn4 : v = .slice none 0 0 → s.size = 0 → ∀ v' w', (Builtin.append_ #[t, u] ty #[v, .string s]).run P w = .ok v' w' → v' = .slice none 0 0) {v' : Value} {w' : World}
    (hr : (Builtin.append_ #[t, u] ty #[v, .string s]).run P w = .ok v' w') : ∀ g, v'.ownBlock = some g → v.ownBlock = some g ∨ g = w.heap.size := by
  intro g' hg'
  have hsmall : n + s.size ≤ 9223372036854775807 := by simp only [maxLen] at h63; omega
  rcases hown.2 with ⟨rfl, rfl⟩ | ⟨g, cap, cur, fz, rfl, hbg, hg, hfz, hnc, hcm, hcs, htake⟩
  · by_cases h0 : s.size = 0
    · rw [hn4 rfl h0 v' w' hr] at hg'
      cases hg'
    · have hr2 := run_append_nil_string (P := P) w t u ty e i (.int .u8 0) ht hu hi hz s (by omega) (by omega) (by rw [hby]; omega)
      rw [hr2] at hr
      simp only [Result.ok.injEq] at hr
      obtain ⟨rfl, rfl⟩ := hr
      simp [Value.ownBlock] at hg'
      exact Or.inr hg'.symm
  · have hxl : xs.length = n := by simpa using hown.1
    by_cases hroom : n + s.size ≤ cap
    · have hcs' : cur.size = cap := by simpa using hcs
      have hr2 := Lib.run_append_room_stringF (P := P) w t u ty e i ht hu hi hsize g n cap cur fz hg (by simpa using hfz) s hroom (by omega)
      rw [hr2] at hr
      simp only [Result.ok.injEq] at hr
      obtain ⟨rfl, rfl⟩ := hr
      exact Or.inl hg'
    · have holds : ∀ j u, xs[j]? = some u → w.cell? ((⟨g, 0, none⟩ : Addr).add j) = some u := hown.cells (g := g) rfl
      have hr2 := Lib.run_append_grow_string (P := P) w t u ty e i (.int .u8 0) ht hu hi hz ⟨g, 0, none⟩ n cap xs (by rw [hsize]; simpa using hxl) holds s (by omega) (by omega) (by rw [hby]; exact growslice_fits (by omega) (by omega))
      rw [hr2] at hr
      simp only [Result.ok.injEq] at hr
      obtain ⟨rfl, rfl⟩ := hr
      simp [Value.ownBlock] at hg'
      exact Or.inr hg'.symm

theorem wpList_append_string_at {ops : Array Oper} {rest : List Oper} {o : Oper} {a : Act} {Q : Exit → Act → World → Prop} (hgd : o.guard = none) (sl x : Operand) (t u : TypeId)
    (ho : o.op = .call { callee := .builtin .append, args := #[sl, x], argTypes := #[t, u] })
    (base : Nat) (e : TypeId) (i : TypeInfo) (ht : P.underlying t = some (.slice e)) (hu : P.underlying u = some .string) (hi : P.info? e = some i) (hz : i.zero = some (.int .u8 0))
    (hsize : i.size = 1) (hby : i.bytes = 1)
    (v : Value) (n : Nat) (xs : List Value) (hs : a.eval sl = v) (hown : w.ownsRowF base e 1 v n xs) (s : ByteArray) (hx : a.eval x = .string s)
    (h63 : n + s.size ≤ maxLen) (hbytes : n + s.size ≤ 140737488355328) (hbase : base ≤ w.heap.size)
    (h : ∀ v' w', w'.ownsRowF base e 1 v' (n + s.size) (xs ++ Lib.strCells s) → w.grownBy w' v.ownBlock → (∀ g, v'.ownBlock = some g → v.ownBlock = some g ∨ g = w.heap.size) → wpList P ops Q rest (a.put o.dst v') w') : wpList P ops Q (o :: rest) a w := by
  refine wpList_plain hgd fun K hK => ?_
  obtain ⟨v', w', hr, h2, h3, h4⟩ := Lib.run_append_own_stringF (P := P) w base t u o.type e i ht hu hi hz hsize hby v n xs hown s h63 hbytes hbase
  have h5 := string_at (P := P) w base t u o.type e i ht hu hi hz hsize hby v n xs hown s h63 hbytes (fun e1 e2 v2 w2 hr2 => by
    rw [hr] at hr2
    simp only [Result.ok.injEq] at hr2
    rw [← hr2.1]
    exact h4.2 ⟨e1, e2⟩) hr
  unfold Oper.wp execOp
  simp only [ho, resolve, invoke, builtin, Sem.run_bind, Sem.run_pure, Result.andThen_ok, List.map_toArray, List.map_cons, List.map_nil, hs, hx, hr]
  exact hK _ _ (h v' w' h2 h3 h5)
end

/-- The builder at tb holds txt in the row v. -/
def Bd (B tb : Nat) (txt : List UInt8) (v : Value) (A : World) : Prop :=
  B ≤ tb ∧ (∃ p, (p = .pointer none ∨ p = .pointer (some ⟨tb, 0, none⟩)) ∧ A.heap[tb]? = some (.cells #[p, v] 140 (0, 0))) ∧ A.ownsRowF B 5 1 v (Lib.byteCells txt).length (Lib.byteCells txt) ∧ v.ownBlock ≠ some tb

theorem Bd.keep {B tb C : Nat} {txt : List UInt8} {v : Value} {A A' : World} (h : Bd B tb txt v A) (hk : Keep C A A') : Bd B tb txt v A' := by
  obtain ⟨h1, ⟨p, h2, h3⟩, h4, h5⟩ := h
  refine ⟨h1, ⟨p, h2, (hk.cells' h3 rfl).trans h3⟩, ?_, h5⟩
  obtain ⟨h0, h1 | ⟨g, cap, cur, fz, hv, hg, hh, hn⟩⟩ := h4
  · exact ⟨h0, Or.inl h1⟩
  · exact ⟨h0, Or.inr ⟨g, cap, cur, fz, hv, hg, (hk.cells' hh rfl).trans hh, hn⟩⟩

theorem Bd.below {B tb : Nat} {txt : List UInt8} {v : Value} {A A' : World} (h : Bd B tb txt v A) (hb : Below A.heap.size A A') : Bd B tb txt v A' := h.keep (Keep.of_below (B := 0) hb)

theorem Bd.lt {B tb : Nat} {txt : List UInt8} {v : Value} {A : World} (h : Bd B tb txt v A) : tb < A.heap.size ∧ ∀ g, v.ownBlock = some g → B ≤ g ∧ g < A.heap.size := by
  obtain ⟨h1, ⟨p, h2, h3⟩, h4, h5⟩ := h
  exact ⟨lt_of_block h3, fun g hg => h4.lt g hg⟩

theorem Bd.is {B tb : Nat} {txt : List UInt8} {v : Value} {A : World} (h : Bd B tb txt v A) : Lib.IsBuilderF 140 5 B tb (Lib.byteCells txt) A := by
  obtain ⟨h1, ⟨p, h2, h3⟩, h4, h5⟩ := h
  rcases h2 with rfl | rfl
  · exact Or.inl ⟨h1, v, h3, h4, h5⟩
  · exact Or.inr ⟨h1, v, h3, h4, h5⟩

set_option maxHeartbeats 1000000 in
set_option maxRecDepth 100000 in
theorem write_bd (B tb : Nat) (txt : List UInt8) (v : Value) (s : List UInt8) (w : World) (h : Bd B tb txt v w) (h1 : txt.length ≤ 1000000) (h2 : s.length ≤ 1000000) (hBw : B ≤ w.heap.size) :
    Calls Tryz.prog 85 #[.pointer (some ⟨tb, 0, none⟩), .string ⟨s.toArray⟩] w fun e w' => (∃ k, e = .returned (.tuple #[.int .i64 k, .nilIface])) ∧ ∃ v', Bd B tb (txt ++ s) v' w' ∧ Below B w w' ∧ Wr (fun k => k = tb ∨ v.ownBlock = some k) w w' ∧ ∀ g, v'.ownBlock = some g → v.ownBlock = some g ∨ w.heap.size ≤ g := by
  obtain ⟨i0, hi, hz0, hz1, hz2⟩ := info_parts Tryz.info5
  have hlt := h.lt.1
  obtain ⟨hB, ⟨p, hp, hbk⟩, hown, hne⟩ := h
  have hbl : (Lib.byteCells txt).length = txt.length := by simp [Lib.byteCells]
  have hsz : (ByteArray.mk s.toArray).size = s.length := size_mkB s
  have HBS := hide (byteCells_str txt s)
  obtain ⟨w1, hw1, hbk1, hwr1⟩ : ∃ w1, (p = .pointer (some ⟨tb, 0, none⟩) ∧ w1 = w ∨ p = .pointer none ∧ w1 = w.setCell ⟨tb, 0, none⟩ (.pointer (some ⟨tb, 0, none⟩))) ∧ w1.heap[tb]? = some (.cells #[.pointer (some ⟨tb, 0, none⟩), v] 140 (0, 0)) ∧ Wr (fun k => k = tb ∨ v.ownBlock = some k) w w1 := by
    rcases hp with rfl | rfl
    · refine ⟨_, Or.inr ⟨rfl, rfl⟩, ?_, Wr.setCell (T := fun k => k = tb ∨ v.ownBlock = some k) (Wr.refl _ _) (p := ⟨tb, 0, none⟩) (Or.inl rfl) _⟩
      simp only [World.setCell, Array.getElem?_modify, if_true, hbk, Option.map_some]
      rfl
    · exact ⟨w, Or.inl ⟨rfl, rfl⟩, hbk, Wr.refl _ _⟩
  have hown1 : w1.ownsRowF B 5 1 v (Lib.byteCells txt).length (Lib.byteCells txt) := by
    rcases hw1 with ⟨_, rfl⟩ | ⟨_, rfl⟩
    · exact hown
    · obtain ⟨h0, h1 | ⟨g, cap, cur, fz, hv, hg, hh, hn⟩⟩ := hown
      · exact ⟨h0, Or.inl h1⟩
      · refine ⟨h0, Or.inr ⟨g, cap, cur, fz, hv, hg, (Below.heap_setCell _ _ _ _ (fun e => hne (by rw [hv]; simp [Value.ownBlock]; exact e))).trans hh, hn⟩⟩
  have hsz1 : w1.heap.size = w.heap.size := by rcases hw1 with ⟨_, rfl⟩ | ⟨_, rfl⟩ <;> simp
  have hbw1 : Below B w w1 := by
    rcases hw1 with ⟨_, rfl⟩ | ⟨_, rfl⟩
    · exact Below.refl _ _
    · exact (Below.refl _ _).setCell (p := ⟨tb, 0, none⟩) hB _
  have HCC : Hid (Calls Tryz.prog 153 #[.pointer (some ⟨tb, 0, none⟩)] w fun e w' => e = .returned (.tuple #[]) ∧ w' = w1) := by
    rcases hw1 with ⟨rfl, rfl⟩ | ⟨rfl, rfl⟩
    · exact copyCheck_used tb w1 (cell_of_row _ _ _ _ _ _ hbk)
    · exact copyCheck_fresh tb w (cell_of_row _ _ _ _ _ _ hbk) (by simp [World.shape?, hbk]) (frozen_of_row _ _ _ _ _ hbk)
  clear hw1 hbk hown hp
  have c0 : w1.cell? ⟨tb, 0, none⟩ = some (.pointer (some ⟨tb, 0, none⟩)) := cell_of_row _ _ _ _ _ _ hbk1
  have c1 : w1.cell? ⟨tb, 1, none⟩ = some v := cell_of_row _ _ _ _ _ _ hbk1
  go_enter Tryz.func85, Tryz.ntmps85
  go_wp2_with fail
  refine HCC.out.mono ?_
  rintro e w1' ⟨rfl, rfl⟩
  go_wp2_with (at_builtin; refine wpList_append_string_at _ rfl _ _ 78 9 rfl B 5 i0 Tryz.underlying78 Tryz.underlying9 hi hz0 hz1 hz2 _ _ _ rfl hown1 ⟨s.toArray⟩ rfl ?c3 ?c4 ?c5 ?_)
  case c3 => rw [hbl, hsz]; unfold maxLen; omega
  case c4 => rw [hbl, hsz]; omega
  case c5 => omega
  intro v' w2 hown' hgrow hat
  have hlt1 : tb < w1'.heap.size := by omega
  have hb2 : w2.heap[tb]? = some (.cells #[.pointer (some ⟨tb, 0, none⟩), v] 140 (0, 0)) := by
    rw [hgrow.block tb hlt1 (fun e => hne e.symm)]
    exact hbk1
  have d0 : w2.cell? ⟨tb, 0, none⟩ = some (.pointer (some ⟨tb, 0, none⟩)) := cell_of_row _ _ _ _ _ _ hb2
  have d1 : w2.cell? ⟨tb, 1, none⟩ = some v := cell_of_row _ _ _ _ _ _ hb2
  have f1 : w2.frozen? ⟨tb, 1, none⟩ = false := frozen_of_row _ _ _ _ _ hb2
  obtain ⟨ao, n', cap, rfl⟩ : ∃ ao n' cap, v' = .slice ao n' cap := by
    rcases hown'.2 with ⟨hv, _⟩ | ⟨g, cap, cur, fz, hv, _⟩
    · exact ⟨_, _, _, hv⟩
    · exact ⟨_, _, _, hv⟩
  have hgw : Wr (fun k => k = tb ∨ v.ownBlock = some k) w1' w2 := ⟨hgrow.os, hgrow.tape, hgrow.output, hgrow.size, fun k hk e => hgrow.block k hk (fun e2 => e (Or.inr e2.symm))⟩
  have hat2 : ∀ g, (Value.slice ao n' cap).ownBlock = some g → v.ownBlock = some g ∨ w.heap.size ≤ g := fun g hg => (hat g hg).imp id (fun e => by omega)
  have hnt : (Value.slice ao n' cap).ownBlock ≠ some tb := fun e => by
    rcases hat tb e with e | e
    · exact hne e
    · omega
  have hbel : Below B w w2 := hbw1.grown hgrow (by omega) (fun k hk => (hown1.lt k hk).1)
  rw [HBS.out] at hown'
  have hlen2 : txt.length + s.length = (Lib.byteCells (txt ++ s)).length := by simp [Lib.byteCells]
  rw [hlen2] at hown'
  clear hat hgrow
  go_wp2
  go_ret2
  refine ⟨⟨_, rfl⟩, _, ⟨hB, ⟨_, Or.inr rfl, ?_⟩, ?_, hnt⟩, hbel.setCell (p := ⟨tb, 1, none⟩) hB _, Wr.setCell (T := fun k => k = tb ∨ v.ownBlock = some k) (hwr1.trans hgw) (p := ⟨tb, 1, none⟩) (Or.inl rfl) _, hat2⟩
  · simp only [World.setCell, Array.getElem?_modify, if_true, hb2, Option.map_some]
    rfl
  · obtain ⟨h0, h1 | ⟨g, cap', cur, fz, hv, hg, hh, hn⟩⟩ := hown'
    · exact ⟨h0, Or.inl h1⟩
    · exact ⟨h0, Or.inr ⟨g, cap', cur, fz, hv, hg, (Below.heap_setCell _ _ _ _ (fun e => hnt (by rw [hv]; simp [Value.ownBlock]; exact e))).trans hh, hn⟩⟩
end Go.Proofs.YtnhfdcfnojnofaaGreatDoor

/-
  What String leans on (package problem).
-/
namespace Go.Proofs.YtnhfdcfnojnofaaGreatDoor
open Go.RowKit

set_option maxHeartbeats 400000 in
theorem varsLen (ao : Option Addr) (n cap : Nat) (ap : Option Addr) (m kp : Nat) (w : World) (hn : n ≤ 1000) :
    Calls Tryz.prog 87 #[.agg #[.slice ao n cap, .slice ap m kp]] w fun e w' => e = .returned (.int .i64 (n : Nat)) ∧ w' = w.alloc (.cells #[.slice ao n cap, .slice ap m kp] 109) := by
  go_enter Tryz.func87, Tryz.ntmps87
  go_wp2
  go_ret
  exact ⟨rfl, rfl⟩

/-- A block that holds other things than bytes is none of the builder's row. -/
theorem Bd.sep {B tb : Nat} {txt : List UInt8} {v : Value} {A : World} (h : Bd B tb txt v A) {k : Nat} {o : Obj} (ho : A.heap[k]? = some o) (hc : ∀ c fz, o ≠ .cells c 5 fz) : v.ownBlock ≠ some k := by
  intro e
  obtain ⟨_, _, ⟨_, h1 | ⟨g, cap, cur, fz, hv, hg, hh, hn⟩⟩, _⟩ := h
  · rw [h1.1] at e; cases e
  · rw [hv] at e
    simp [Value.ownBlock] at e
    subst e
    rw [ho] at hh
    injection hh with hh
    exact hc cur fz hh

/-- A new builder. -/
theorem Bd.new (w : World) (B : Nat) (hB : B ≤ w.heap.size) : Bd B w.heap.size [] (.slice none 0 0) (w.alloc (.cells #[.pointer none, .slice none 0 0] 140)) :=
  ⟨hB, ⟨_, Or.inl rfl, World.alloc_heap_new w _⟩, ⟨rfl, Or.inl ⟨rfl, rfl⟩⟩, by simp [Value.ownBlock]⟩

/-- A join of words that lie in a row of their own. -/
theorem join_words (B : Nat) (w A : World) (gw : Nat) (xs : List ByteArray) (av : List Nat) (g kp : Nat) (h : Wds B w A gw xs av (some ⟨g, 0, none⟩) kp) (h0 : 0 < xs.length) (hN : xs.length ≤ 900) (hlen : (Lib.join (xs.map (fun x : ByteArray => x.data.toList)) [32]).length ≤ 1000000) :
    Calls Tryz.prog 86 #[.slice (some ⟨g, 0, none⟩) xs.length kp] A fun e w' => e = .returned (.string ⟨(Lib.join (xs.map (fun x : ByteArray => x.data.toList)) [32] ++ [10]).toArray⟩) ∧ Below A.heap.size A w' := by
  obtain ⟨g', hg', hB, hl, hk, hc⟩ := h.row h0
  simp only [Option.some.injEq, Addr.mk.injEq] at hg'
  obtain ⟨rfl, _, _⟩ := hg'
  exact linesJoin g 0 kp xs A hc hl (by omega) hk hlen

/-- A join of words that were laid anew. -/
theorem join_new (W : World) (xs : List ByteArray) (hN : xs.length ≤ 900) (hlen : (Lib.join (xs.map (fun x : ByteArray => x.data.toList)) [32]).length ≤ 1000000) (c : Nat) (hc : c = xs.length) :
    Calls Tryz.prog 86 #[.slice (some ⟨W.heap.size, 0, none⟩) c c] (W.alloc (.cells (xs.map Value.string).toArray 9)) fun e w' => e = .returned (.string ⟨(Lib.join (xs.map (fun x : ByteArray => x.data.toList)) [32] ++ [10]).toArray⟩) ∧ Below W.heap.size W w' := by
  subst hc
  have t0 := World.alloc_heap_new W (.cells (xs.map Value.string).toArray 9)
  refine (linesJoin W.heap.size 0 xs.length xs _ (fun j x hj => ?_) (lt_of_block t0) (by omega) (Nat.le_refl _) hlen).mono ?_
  · rw [cell_of_row _ _ _ _ _ _ t0, Nat.zero_add]
    simp [hj]
  · rintro e w' ⟨rfl, hb⟩
    have h1 : Below W.heap.size W (W.alloc (.cells (xs.map Value.string).toArray 9)) := (Below.refl _ _).alloc (Nat.le_refl _) _
    exact ⟨rfl, h1.trans (hb.mono h1.size)⟩

theorem join_max (zs : List Int) : Lib.join ((⟨wMax.toArray⟩ :: zs.map itoaB).map (fun x : ByteArray => x.data.toList)) [32] ++ [10] = wMax ++ tellS zs ++ [10] := by
  have e : (⟨wMax.toArray⟩ :: zs.map itoaB).map (fun x : ByteArray => x.data.toList) = wMax :: zs.map Lib.itoa := by
    simp [itoaB, List.map_map, Function.comp_def]
  rw [e, join_tell]

theorem join_vars (n : Nat) : Lib.join (([⟨wVars.toArray⟩, ⟨(Lib.decDigits n).toArray⟩] : List ByteArray).map (fun x : ByteArray => x.data.toList)) [32] ++ [10] = wVars ++ 32 :: Lib.itoa (n : Int) ++ [10] := by
  rw [itoa_nat]
  have e : ([⟨wVars.toArray⟩, ⟨(Lib.decDigits n).toArray⟩] : List ByteArray).map (fun x : ByteArray => x.data.toList) = [wVars, Lib.decDigits n] := by simp
  rw [e, Lib.join_cons]
  unfold Lib.joinTail
  simp

theorem join_range (a b : Int) : Lib.join (([⟨wRange.toArray⟩, itoaB a, itoaB b] : List ByteArray).map (fun x : ByteArray => x.data.toList)) [32] ++ [10] = rangeS (a, b) := by
  have e : ([⟨wRange.toArray⟩, itoaB a, itoaB b] : List ByteArray).map (fun x : ByteArray => x.data.toList) = wRange :: [a, b].map Lib.itoa := by
    simp [itoaB]
  rw [e, join_tell]
  rfl

theorem take_flat {α : Type} (f : α → List UInt8) (l : List α) (k : Nat) (d : α) (hk : k < l.length) : (l.take (k + 1)).flatMap f = (l.take k).flatMap f ++ f (l.getD k d) := by
  rw [List.take_succ_eq_append_getElem hk, List.flatMap_append, List.getD_eq_getElem?_getD, List.getElem?_eq_getElem hk]
  simp

theorem rangeS_len (r : Int × Int) (h : r.1.natAbs < 10 ^ 40 ∧ r.2.natAbs < 10 ^ 40) : (rangeS r).length ≤ 300 := by
  have h1 := tell_len [r.1, r.2] (by intro z hz; simp at hz; rcases hz with rfl | rfl; exact h.1; exact h.2)
  unfold rangeS
  simp [wRange] at h1 ⊢
  omega

theorem rowS_len (r : List Int × List UInt8 × Int) (h1 : r.1.length ≤ 4) (h2 : r.2.1.length ≤ 2) (h3 : ∀ z ∈ r.1, z.natAbs < 10 ^ 40) (h4 : r.2.2.natAbs < 10 ^ 40) : (rowS r).length ≤ 1000 := by
  have e1 := tell_len r.1 h3
  have e2 := tell_len [r.2.2] (by simpa using h4)
  unfold rowS
  simp [wRow] at e1 e2 ⊢
  omega

theorem isSign_len {l : List UInt8} (h : isSign l = true) : l.length ≤ 2 := by
  unfold isSign at h
  simp at h
  rcases h with h | h | h <;> rw [h] <;> simp

theorem flat_len {α : Type} (f : α → List UInt8) (l : List α) (m : Nat) (h : ∀ x ∈ l, (f x).length ≤ m) : (l.flatMap f).length ≤ m * l.length := by
  induction l with
  | nil => simp
  | cons x r ih =>
    have h1 := h x (by simp)
    have h2 := ih (fun y hy => h y (by simp [hy]))
    simp only [List.flatMap_cons, List.length_append, List.length_cons]
    rw [Nat.mul_add]
    omega
end Go.Proofs.YtnhfdcfnojnofaaGreatDoor
