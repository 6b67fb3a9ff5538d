/-
  Part 11 of the texts ahead of Cal1: Tm1, Tr1, Tr2, Tr3, Tr4.
-/
import Derived.Test.YtnhfdcfnojnofaaGreatDoorCal1Z10
import Derived.Test.YtnhfdcfnojnofaaGreatDoorCal1Z2
import Derived.Test.YtnhfdcfnojnofaaGreatDoorCal1Z1
import Derived.Laws.AppendOwnNone
set_option linter.unusedSimpArgs false
set_option linter.unusedVariables false
/-
  Numbers by places of four decimal digits, as they lie in memory.
-/
namespace Go.Proofs.YtnhfdcfnojnofaaGreatDoor.T
open Go.RowKit


/-- The cells of block b from off on read as these digits. -/
def Row (w : World) (b off : Nat) (ds : List Nat) : Prop :=
  ∀ i, i < ds.length → w.cell? ⟨b, off + i, none⟩ = some (.int .i64 ((ds.getD i 0 : Nat) : Int))

/-- A slice value that reads as these digits. -/
def U32s (w : World) (v : Value) (ds : List Nat) : Prop :=
  ∃ ao cap, v = .slice ao ds.length cap ∧ ds.length ≤ cap ∧ (ds ≠ [] → ∃ b off, ao = some ⟨b, off, none⟩ ∧ b < w.heap.size ∧ Row w b off ds)

/-- A slice value that stands for a natural: digits, the last not nought. -/
def NatV (w : World) (v : Value) (n : Nat) : Prop := ∃ ds, U32s w v ds ∧ Dig ds ∧ Top ds ∧ val ds = n

theorem Row.below {w w' : World} {b off B : Nat} {ds : List Nat} (h : Row w b off ds) (hb : Below B w w') (hB : b < B) : Row w' b off ds :=
  fun i hi => (hb.cell (p := ⟨b, off + i, none⟩) hB).trans (h i hi)

theorem U32s.below {w w' : World} {v : Value} {ds : List Nat} (h : U32s w v ds) (hb : Below w.heap.size w w') : U32s w' v ds := by
  obtain ⟨ao, cap, hv, hc, hr⟩ := h
  refine ⟨ao, cap, hv, hc, fun hne => ?_⟩
  obtain ⟨b, off, ha, hlt, hrow⟩ := hr hne
  exact ⟨b, off, ha, Nat.lt_of_lt_of_le hlt hb.size, hrow.below hb hlt⟩

theorem NatV.below {w w' : World} {v : Value} {n : Nat} (h : NatV w v n) (hb : Below w.heap.size w w') : NatV w' v n := by
  obtain ⟨ds, h1, h2⟩ := h
  exact ⟨ds, h1.below hb, h2⟩

theorem NatV.alloc {w : World} {v : Value} {n : Nat} (h : NatV w v n) (o : Obj) : NatV (w.alloc o) v n :=
  h.below ((Below.refl _ _).alloc (Nat.le_refl _) o)

theorem NatV.drew {w : World} {v : Value} {n : Nat} (h : NatV w v n) : NatV w.drew v n := h

theorem NatV.zero (w : World) (ao : Option Addr) (cap : Nat) : NatV w (.slice ao 0 cap) 0 :=
  ⟨[], ⟨ao, cap, rfl, Nat.zero_le _, fun h => absurd rfl h⟩, (fun _ h => by simp at h), Top.nil, rfl⟩

theorem Row.take {w : World} {b off : Nat} {ds : List Nat} (h : Row w b off ds) (n : Nat) : Row w b off (ds.take n) := by
  intro i hi
  rw [List.length_take] at hi
  rw [h i (by omega), List.getD_eq_getElem?_getD, List.getD_eq_getElem?_getD, List.getElem?_take, if_pos (by omega)]

theorem Row.drop {w : World} {b off : Nat} {ds : List Nat} (h : Row w b off ds) (n : Nat) : Row w b (off + n) (ds.drop n) := by
  intro i hi
  rw [List.length_drop] at hi
  rw [show off + n + i = off + (n + i) by omega, h (n + i) (by omega), List.getD_eq_getElem?_getD, List.getD_eq_getElem?_getD, List.getElem?_drop]

theorem Row.append {w : World} {b off : Nat} {xs ys : List Nat} (h : Row w b off xs) (k : Row w b (off + xs.length) ys) : Row w b off (xs ++ ys) := by
  intro i hi
  rw [List.length_append] at hi
  by_cases hx : i < xs.length
  · rw [h i hx, List.getD_eq_getElem?_getD, List.getD_eq_getElem?_getD, List.getElem?_append_left hx]
  · have := k (i - xs.length) (by omega)
    rw [show off + xs.length + (i - xs.length) = off + i by omega] at this
    rw [this, List.getD_eq_getElem?_getD, List.getD_eq_getElem?_getD, List.getElem?_append_right (by omega)]

theorem block_of_row {w : World} {b off : Nat} {ds : List Nat} (h : Row w b off ds) (hne : ds ≠ []) : b < w.heap.size := by
  have h0 : 0 < ds.length := List.length_pos_iff.2 hne
  exact block_lt_of_cell (h 0 h0)

/-- What a row of digits, in whatever block, gives as a value. -/
theorem U32s.mk {w : World} {b off cap : Nat} {ds : List Nat} (h : Row w b off ds) (hb : b < w.heap.size) (hc : ds.length ≤ cap) : U32s w (.slice (some ⟨b, off, none⟩) ds.length cap) ds :=
  ⟨_, cap, rfl, hc, fun _ => ⟨b, off, rfl, hb, h⟩⟩

/-- The natural of a row that has been trimmed. -/
theorem natV_trim {w : World} {b off cap n : Nat} {ds : List Nat} (h : Row w b off ds) (hd : Dig ds) (hb : b < w.heap.size) (hl : ds.length = n) (hc : n ≤ cap) :
    NatV w (.slice (some ⟨b, off, none⟩) (trimL ds n) cap) (val ds) := by
  have hle := trimL_le ds n
  have hlen : (ds.take (trimL ds n)).length = trimL ds n := by rw [List.length_take]; omega
  refine ⟨ds.take (trimL ds n), ⟨_, cap, by rw [hlen], by omega, fun _ => ⟨b, off, rfl, hb, h.take _⟩⟩, hd.take _, top_trimL ds n (by omega), ?_⟩
  rw [val_trimL ds n (by omega), List.take_of_length_le (by omega)]

theorem row_of_owns {w : World} {base e g n cap : Nat} {ds : List Nat} (h : w.ownsRow base e 1 (.slice (some ⟨g, 0, none⟩) n cap) n (ds.map fun d : Nat => .int .i64 (d : Int))) (hn : ds.length = n) : Row w g 0 ds := by
  intro i hi
  have := h.cellAt i (by omega)
  rw [Nat.zero_add, this, List.getElem?_map, List.getElem?_eq_getElem hi, List.getD_eq_getElem?_getD, List.getElem?_eq_getElem hi]
  rfl

/-- A digit as a value. -/
def encD (d : Nat) : Value := .int .i64 (d : Int)

theorem owns_parts {w : World} {base e n : Nat} {v : Value} {ds : List Nat} (h : w.ownsRow base e 1 v n (ds.map encD)) (hne : v ≠ .slice none 0 0) :
    ∃ g cap, v = .slice (some ⟨g, 0, none⟩) n cap ∧ n ≤ cap ∧ base ≤ g ∧ g < w.heap.size ∧ Row w g 0 ds ∧ ∀ m, Free w g 0 m := by
  have h0 := h
  obtain ⟨hl, h1 | ⟨g, cap, cur, hv, hg, hh, hn, _, _, _⟩⟩ := h
  · exact absurd h1.1 hne
  · subst hv
    rw [List.length_map, Nat.mul_one] at hl
    exact ⟨g, cap, rfl, hn, hg, (lt_of_owns h0).2, row_of_owns h0 hl, fun m => free_of_owns h0 m⟩

theorem encD_one (ds : List Nat) : ∀ u ∈ ds.map encD, u.oneCell' = true := by
  intro u hu
  obtain ⟨d, _, rfl⟩ := List.mem_map.1 hu
  rfl

theorem row_news {w : World} {b off : Nat} {ds : List Nat} (h : Row w b off ds) : ∀ j u, (ds.map encD)[j]? = some u → w.cell? ((⟨b, off, none⟩ : Addr).add j) = some u := by
  intro j u hj
  rw [List.getElem?_map] at hj
  cases hd : ds[j]? with
  | none => rw [hd] at hj; simp at hj
  | some d =>
    rw [hd, Option.map_some, Option.some.injEq] at hj
    have hjl : j < ds.length := (List.getElem?_eq_some_iff.1 hd).1
    have := h j hjl
    rw [List.getD_eq_getElem?_getD, hd, Option.getD_some] at this
    subst hj
    by_cases h0 : j = 0
    · subst h0; simpa [Addr.add, encD] using this
    · simpa [Addr.add, encD, h0] using this

theorem row_of_block {w : World} {g e : Nat} {ds : List Nat} (h : w.heap[g]? = some (.cells (ds.map encD).toArray e (0, 0))) : Row w g 0 ds ∧ (∀ m, Free w g 0 m) ∧ g < w.heap.size := by
  refine ⟨fun i hi => ?_, fun m i _ => frozen_of_row w g _ _ e h, lt_of_block h⟩
  rw [Nat.zero_add, cell_of_row w g i _ e (0, 0) h, List.getElem?_toArray, List.getElem?_map, List.getElem?_eq_getElem hi, List.getD_eq_getElem?_getD, List.getElem?_eq_getElem hi]
  rfl

end Go.Proofs.YtnhfdcfnojnofaaGreatDoor.T

/-
  What the document's own trim, compare do (package planesref).
-/
namespace Go.Proofs.YtnhfdcfnojnofaaGreatDoor.T
open Go.RowKit

/-- The block is one of whole numbers. -/
def Kind (w : World) (g : Nat) : Prop := ∃ c fr, w.heap[g]? = some (.cells c 3 fr)

theorem Kind.below {w w' : World} {g B : Nat} (h : Kind w g) (hb : Below B w w') (hB : g < B) : Kind w' g := by
  obtain ⟨c, fr, h⟩ := h
  exact ⟨c, fr, (hb.block g hB).trans h⟩

theorem Kind.setCell {w : World} {g : Nat} (h : Kind w g) (a : Addr) (x : Value) : Kind (w.setCell a x) g := by
  obtain ⟨c, fr, h⟩ := h
  by_cases hg : g = a.block
  · subst hg
    unfold Kind World.setCell
    simp only [Array.getElem?_modify, if_true, h, Option.map_some]
    exact ⟨_, _, rfl⟩
  · exact ⟨c, fr, (Below.heap_setCell w a x g hg).trans h⟩

/-- A slice value that holds the places ds. -/
def Sl (w : World) (v : Value) (ds : List Nat) : Prop :=
  (v = .slice none 0 0 ∧ ds = []) ∨ ∃ g off cap, v = .slice (some ⟨g, off, none⟩) ds.length cap ∧ ds.length ≤ cap ∧ g < w.heap.size ∧ Row w g off ds ∧ Kind w g

/-- A slice value that stands for a number. -/
def NV (w : World) (v : Value) (n : Nat) : Prop := ∃ ds, Sl w v ds ∧ Dig ds ∧ Top ds ∧ val ds = n

theorem Sl.below {w w' : World} {v : Value} {ds : List Nat} (h : Sl w v ds) (hb : Below w.heap.size w w') : Sl w' v ds := by
  rcases h with h | ⟨g, off, cap, h1, h2, h3, h4, h5⟩
  · exact Or.inl h
  · exact Or.inr ⟨g, off, cap, h1, h2, Nat.lt_of_lt_of_le h3 hb.size, h4.below hb h3, h5.below hb h3⟩

theorem NV.below {w w' : World} {v : Value} {n : Nat} (h : NV w v n) (hb : Below w.heap.size w w') : NV w' v n := by
  obtain ⟨ds, h1, h2⟩ := h
  exact ⟨ds, h1.below hb, h2⟩

theorem Sl.alloc {w : World} {v : Value} {ds : List Nat} (h : Sl w v ds) (o : Obj) : Sl (w.alloc o) v ds := h.below ((Below.refl _ _).alloc (Nat.le_refl _) _)
theorem NV.alloc {w : World} {v : Value} {n : Nat} (h : NV w v n) (o : Obj) : NV (w.alloc o) v n := h.below ((Below.refl _ _).alloc (Nat.le_refl _) _)
theorem Sl.drew {w : World} {v : Value} {ds : List Nat} (h : Sl w v ds) : Sl w.drew v ds := h
theorem NV.drew {w : World} {v : Value} {n : Nat} (h : NV w v n) : NV w.drew v n := h
theorem NV.drewN {w : World} {v : Value} {n : Nat} (h : NV w v n) (q : Nat) : NV (w.drewN q) v n := h

theorem Sl.shape {w : World} {v : Value} {ds : List Nat} (h : Sl w v ds) : ∃ ao cap, v = .slice ao ds.length cap ∧ ds.length ≤ cap := by
  rcases h with ⟨rfl, rfl⟩ | ⟨g, off, cap, rfl, h2, _⟩
  · exact ⟨none, 0, rfl, Nat.le_refl _⟩
  · exact ⟨_, _, rfl, h2⟩

theorem Sl.row {w : World} {ao : Option Addr} {l cap : Nat} {ds : List Nat} (h : Sl w (.slice ao l cap) ds) (hne : ds ≠ []) : ∃ g off, ao = some ⟨g, off, none⟩ ∧ g < w.heap.size ∧ Row w g off ds := by
  rcases h with ⟨h, rfl⟩ | ⟨g, off, cap', h1, h2, h3, h4, _⟩
  · exact absurd rfl hne
  · simp only [Value.slice.injEq] at h1
    obtain ⟨rfl, _, _⟩ := h1
    exact ⟨g, off, rfl, h3, h4⟩

theorem trimL_eq (ds : List Nat) (n : Nat) (h : n ≤ ds.length) : val (ds.take (trimL ds n)) = val (ds.take n) := val_trimL ds n h

set_option maxHeartbeats 400000 in
set_option maxRecDepth 100000 in
theorem trim_any (w : World) (v : Value) (ds : List Nat) (hv : Sl w v ds) (hm : ds.length ≤ 140737488355328) :
    Calls Tryz.prog 293 #[v] w fun e w' => (∃ x, e = .returned x ∧ Sl w' x (ds.take (trimL ds ds.length))) ∧ w' = w := by
  rcases hv with ⟨rfl, rfl⟩ | ⟨b, off, cap, rfl, hc, hb, hrow, hkd⟩
  · go_enter Tryz.func293, Tryz.ntmps293
    go_wp2
    go_loop [3] (fun v => v = .int .i64 0) (fun v => (intOf v).toNat)
    case atStart => rfl
    case round =>
      subst hrel
      go_wp2
      go_ret
      exact ⟨⟨_, rfl, Or.inl ⟨rfl, rfl⟩⟩, rfl⟩
  · go_enter Tryz.func293, Tryz.ntmps293
    go_wp2
    go_loop [3] (fun v => ∃ k : Nat, k ≤ ds.length ∧ Hid (trimL ds ds.length = trimL ds k) ∧ v = .int .i64 (k : Nat)) (fun v => (intOf v).toNat)
    case atStart => exact ⟨ds.length, Nat.le_refl _, rfl, rfl⟩
    case round =>
      obtain ⟨k, hk, ht, rfl⟩ := hrel
      have hfin : ∀ j, trimL ds ds.length = j → j = k → Sl w (.slice (some ⟨b, off, none⟩) k cap) (ds.take (trimL ds ds.length)) := by
        intro j h1 h2
        subst h2
        rw [h1]
        exact Or.inr ⟨b, off, cap, by rw [List.length_take, Nat.min_eq_left hk], by rw [List.length_take]; omega, hb, hrow.take _, hkd⟩
      have HF := hide hfin
      clear hfin
      cases k with
      | zero =>
        go_wp2
        go_ret
        exact ⟨⟨_, rfl, HF.out 0 ht.out rfl⟩, rfl⟩
      | succ k =>
        have hck := hrow k (by omega)
        by_cases hz : ds.getD k 0 = 0
        · rw [hz] at hck
          have HZ : Hid (ds.getD k 0 = 0) := hz
          clear hz HF
          go_wp2
          go_round
          case rel => exact ⟨k, by omega, by rw [Hid, ht.out, trimL, if_pos HZ.out], by go_num⟩
          case measure => simp [intOf]
        · have hz2 : ((ds.getD k 0 : Nat) : Int) ≠ 0 := by omega
          generalize hx : ((ds.getD k 0 : Nat) : Int) = x at hck hz2
          clear hx
          have HZ : Hid (¬ ds.getD k 0 = 0) := hz
          clear hz
          go_wp2
          go_ret
          exact ⟨⟨_, rfl, HF.out (k + 1) (by rw [ht.out, trimL, if_neg HZ.out]) rfl⟩, rfl⟩

/-- What trim leaves is a number. -/
theorem nv_trim {w : World} {v : Value} {ds : List Nat} {n : Nat} (h : Sl w v (ds.take (trimL ds ds.length))) (hd : Dig ds) (hn : val ds = n) : NV w v n :=
  ⟨_, h, hd.take _, top_trimL _ _ (Nat.le_refl _), by rw [val_trimL _ _ (Nat.le_refl _), List.take_of_length_le (Nat.le_refl _), hn]⟩

set_option maxHeartbeats 800000 in
set_option maxRecDepth 100000 in
theorem compare_any (w : World) (u v : Value) (m n K : Nat) (hu : NV w u m) (hv : NV w v n) (hm : m < 10000 ^ K) (hn : n < 10000 ^ K) (hK : K ≤ 1073741824) :
    Calls Tryz.prog 186 #[u, v] w fun e w' => e = .returned (.int .i64 (cmpI m n)) ∧ ∃ q, w' = w.drewN q := by
  obtain ⟨ds, hs, hd, ht, rfl⟩ := hu
  obtain ⟨es, hs', hd', ht', rfl⟩ := hv
  have hl := top_len ht hm
  have hl' := top_len ht' hn
  obtain ⟨ao, cap, rfl, hc⟩ := hs.shape
  obtain ⟨ao', cap', rfl, hc'⟩ := hs'.shape
  rcases Nat.lt_trichotomy ds.length es.length with he | he | he
  · have HC : Hid (cmpI (val ds) (val es) = -1) := cmpI_lt (top_lt_of_len hd ht' he)
    have he2 : (ds.length : Int) < (es.length : Int) := by omega
    go_enter Tryz.func186, Tryz.ntmps186
    go_wp2
    go_ret
    exact ⟨ret_int HC.out.symm, 0, rfl⟩
  · have HE : Hid (ds.length = es.length) := he
    clear hm hn ht ht'
    rw [← he]
    rw [← he] at hc' hl'
    go_enter Tryz.func186, Tryz.ntmps186
    go_wp2
    go_loopw [5] (fun i wr => ∃ k : Nat, k ≤ ds.length ∧ i = .int .i64 ((k : Int) - 1) ∧ Hid (ds.drop k = es.drop k) ∧ ∃ q, wr = w.drewN q) (fun i _ => (intOf i + 1).toNat)
    case atStart => exact ⟨ds.length, Nat.le_refl _, by rw [HE.out], by rw [Hid, List.drop_of_length_le (Nat.le_refl _), List.drop_of_length_le (by rw [HE.out]; exact Nat.le_refl _)], 0, rfl⟩
    case round =>
      obtain ⟨k, hk, rfl, hdr, q, rfl⟩ := hrel
      cases k with
      | zero =>
        go_wp2
        go_ret
        refine ⟨ret_int ?_, q, rfl⟩
        rw [cmpI_eq (by rw [← List.drop_zero (l := ds), hdr.out, List.drop_zero])]
      | succ k =>
        obtain ⟨b, off, rfl, hb, hrow⟩ := hs.row (by intro e; simp [e] at hk)
        obtain ⟨b', off', rfl, hb', hrow'⟩ := hs'.row (by intro e; rw [Hid, e] at HE; simp at HE; simp [HE] at hk)
        have hkk : k < es.length := by have := HE.out; omega
        have hck := hrow k (by omega)
        have hck' := hrow' k hkk
        have hdk := hd.get k
        have hdk' := hd'.get k
        have hi1 : (0 : Int) ≤ (k : Int) := by omega
        have hi2 : ((k : Int)).toNat = k := by omega
        have hi3 : (k : Int) < (ds.length : Int) := by omega
        have H1 : Hid (ds.getD k 0 < es.getD k 0 → val ds < val es) := fun h => val_lt_at hd HE.out k (by omega) hdr.out h
        have H2 : Hid (es.getD k 0 < ds.getD k 0 → val es < val ds) := fun h => val_lt_at hd' HE.out.symm k (by omega) hdr.out.symm h
        have H3 : Hid (ds.getD k 0 = es.getD k 0 → ds.drop k = es.drop k) := fun h => drop_eq_of HE.out k (by omega) hdr.out h
        clear hrow hrow' hs hs'
        generalize ds.getD k 0 = x at *
        generalize es.getD k 0 = y at *
        rcases Nat.lt_trichotomy x y with hxy | hxy | hxy
        · have HC : Hid (cmpI (val ds) (val es) = -1) := cmpI_lt (H1.out hxy)
          have hxy2 : (x : Int) < (y : Int) := by omega
          clear H1 H2 H3
          go_wp2
          go_region
          all_goals go_wp2
          go_ret
          exact ⟨ret_int HC.out.symm, q + 1, rfl⟩
        · have H4 : Hid (ds.drop k = es.drop k) := H3.out hxy
          subst hxy
          clear H1 H2 H3
          go_wp2
          go_region
          all_goals go_wp2
          go_region
          all_goals go_wp2
          go_roundw
          case rel => exact ⟨k, by omega, by go_num, H4, q + 1 + 1, rfl⟩
          case measure => simp [intOf]
        · have HC : Hid (cmpI (val ds) (val es) = 1) := cmpI_gt (H2.out hxy)
          have hxy2 : (y : Int) < (x : Int) := by omega
          clear H1 H2 H3
          go_wp2
          go_region
          all_goals go_wp2
          go_region
          all_goals go_wp2
          go_ret
          exact ⟨ret_int HC.out.symm, q + 1 + 1, rfl⟩
  · have HC : Hid (cmpI (val ds) (val es) = 1) := cmpI_gt (top_lt_of_len hd' ht he)
    have he2 : (es.length : Int) < (ds.length : Int) := by omega
    go_enter Tryz.func186, Tryz.ntmps186
    go_wp2
    go_ret
    exact ⟨ret_int HC.out.symm, 0, rfl⟩
end Go.Proofs.YtnhfdcfnojnofaaGreatDoor.T

/-
  What the document's own plus, times, less do (package planesref).
-/
namespace Go.Proofs.YtnhfdcfnojnofaaGreatDoor.T
open Go.RowKit

theorem Tryz.infoInt : (Tryz.prog.info? 3).map (fun i => (i.zero, i.size, i.bytes)) = some (some (.int .i64 0), 1, 8) := by kernel_rfl

theorem tmod_nat (C : Nat) : Int.tmod (C : Int) 10000 = ((C % 10000 : Nat) : Int) := by rw [Int.tmod_eq_emod_of_nonneg (by omega)]; rfl
theorem tdiv_nat (C : Nat) : Int.tdiv (C : Int) 10000 = ((C / 10000 : Nat) : Int) := by rw [Int.tdiv_eq_ediv_of_nonneg (by omega)]; rfl

theorem pow_split (P C : Nat) : P * 10000 * (C / 10000) + P * (C % 10000) = P * C := by
  rw [Nat.mul_assoc, ← Nat.mul_add, Nat.div_add_mod]

theorem val_one (x : Nat) : val [x] = x := by simp [val]

theorem plus_step {os ds es : List Nat} {k c C : Nat} (hk : os.length = k) (hi : val os + 10000 ^ k * c = val (ds.take k) + val (es.take k)) (hC : C = c + ds.getD k 0 + es.getD k 0) :
    val (os ++ [C % 10000]) + 10000 ^ (k + 1) * (C / 10000) = val (ds.take (k + 1)) + val (es.take (k + 1)) := by
  have h1 := pow_split (10000 ^ k) C
  rw [val_append, hk, val_one, val_take_any, val_take_any, Nat.pow_succ]
  rw [hC, Nat.mul_add, Nat.mul_add] at h1
  rw [← hC] at h1
  omega

theorem times_step {os ds : List Nat} {k c C n : Nat} (hk : os.length = k) (hi : val os + 10000 ^ k * c = val (ds.take k) * n) (hC : C = c + ds.getD k 0 * n) :
    val (os ++ [C % 10000]) + 10000 ^ (k + 1) * (C / 10000) = val (ds.take (k + 1)) * n := by
  have h1 := pow_split (10000 ^ k) C
  rw [val_append, hk, val_one, val_take_any, Nat.pow_succ, Nat.add_mul, Nat.mul_assoc (10000 ^ k) (ds.getD k 0) n]
  rw [hC, Nat.mul_add] at h1
  rw [← hC] at h1
  omega

theorem less_step {os ds es : List Nat} {k c c' d : Nat} (hk : os.length = k) (hi : val os + val (es.take k) = val (ds.take k) + 10000 ^ k * c) (hd : d + es.getD k 0 + c = ds.getD k 0 + 10000 * c') :
    val (os ++ [d]) + val (es.take (k + 1)) = val (ds.take (k + 1)) + 10000 ^ (k + 1) * c' := by
  have h1 : 10000 ^ k * (d + es.getD k 0 + c) = 10000 ^ k * (ds.getD k 0 + 10000 * c') := by rw [hd]
  rw [val_append, hk, val_one, val_take_any, val_take_any, Nat.pow_succ]
  rw [Nat.mul_add, Nat.mul_add, Nat.mul_add, ← Nat.mul_assoc] at h1
  omega

theorem dig_snoc {os : List Nat} {x : Nat} (h : Dig os) (hx : x < 10000) : Dig (os ++ [x]) := h.append (fun d hd => by simp at hd; omega)

theorem top_of_ge {ds : List Nat} (hd : Dig ds) (h : ∀ k, ds.length = k + 1 → 10000 ^ k ≤ val ds) : Top ds := by
  intro k hk h0
  have h1 := h k hk
  have h2 := val_take_any ds k
  rw [List.take_of_length_le (by omega), h0, Nat.mul_zero, Nat.add_zero] at h2
  have h3 := val_lt (hd.take k)
  rw [List.length_take, Nat.min_eq_left (by omega)] at h3
  omega

theorem take_all {ds : List Nat} {k : Nat} (h : ds.length ≤ k) : ds.take k = ds := List.take_of_length_le h

/-- A row of one's own is a slice of places. -/
theorem sl_of_owns {w : World} {base : Nat} {ap : Option Addr} {kp : Nat} {os : List Nat} (h : w.ownsRow base 3 1 (.slice ap os.length kp) os.length (os.map encD)) : Sl w (.slice ap os.length kp) os := by
  by_cases hn : Value.slice ap os.length kp = .slice none 0 0
  · left
    refine ⟨hn, ?_⟩
    simp only [Value.slice.injEq] at hn
    exact List.length_eq_zero_iff.1 hn.2.1
  · have hk : ∀ g, ap = some ⟨g, 0, none⟩ → Kind w g := by
      intro g hg
      obtain ⟨_, h1 | ⟨g', cap, cur, hv, _, hh, _⟩⟩ := h
      · exact absurd h1.1 hn
      · simp only [Value.slice.injEq] at hv
        rw [hg] at hv
        simp only [Option.some.injEq, Addr.mk.injEq, and_true] at hv
        rw [hv.1]
        exact ⟨_, _, hh⟩
    obtain ⟨g2, cap2, hvv, hn2, _, hg2, hrow2, _⟩ := owns_parts h hn
    simp only [Value.slice.injEq] at hvv
    obtain ⟨rfl, _, rfl⟩ := hvv
    exact Or.inr ⟨g2, 0, _, rfl, hn2, hg2, hrow2, hk g2 rfl⟩

theorem sl_empty (w : World) : Sl w (.slice none 0 0) [] := Or.inl ⟨rfl, rfl⟩

theorem grown_snoc {w wr w3 : World} {ap : Option Addr} {kp : Nat} {os : List Nat} {z : Int} {x : Nat} {v3 : Value} {o : Obj} (hown : wr.ownsRow w.heap.size 3 1 (.slice ap os.length kp) os.length (os.map encD)) (hbel : Below w.heap.size w wr)
    (hown3 : w3.ownsRow w.heap.size 3 1 v3 (os.length + 1) (os.map encD ++ [.int .i64 z])) (hgrow : (wr.alloc o).grownBy w3 (Value.slice ap os.length kp).ownBlock) (hnn : v3 ≠ .slice none 0 0) (hz : z = (x : Int)) :
    ∃ os', os' = os ++ [x] ∧ os'.length = os.length + 1 ∧ ∃ cap3 g3, v3 = .slice (some ⟨g3, 0, none⟩) os'.length cap3 ∧ w3.ownsRow w.heap.size 3 1 (.slice (some ⟨g3, 0, none⟩) os'.length cap3) os'.length (os'.map encD) ∧ Below w.heap.size w w3 := by
  subst hz
  have e : os.map encD ++ [Value.int .i64 (x : Int)] = (os ++ [x]).map encD := by simp [encD]
  rw [e] at hown3
  obtain ⟨g3, cap3, hvv, hn3, hg3, hgl3, _, _⟩ := owns_parts hown3 hnn
  subst hvv
  refine ⟨_, rfl, by simp, cap3, g3, by simp, ?_, ?_⟩
  · rw [show (os ++ [x]).length = os.length + 1 by simp]; exact hown3
  · exact (hbel.alloc hbel.size _).grown hgrow (by have := hbel.size; simp; omega) (fun k h => (hown.lt k h).1)

set_option maxHeartbeats 2000000 in
set_option maxRecDepth 100000 in
theorem times_any (w : World) (v : Value) (m n K : Nat) (hv : NV w v m) (hn : n < 10000) (hm : m < 10000 ^ K) (hK : K ≤ 1000000000) :
    Calls Tryz.prog 294 #[v, .int .i64 (n : Nat)] w fun e w' => ∃ x, e = .returned x ∧ NV w' x (m * n) ∧ Below w.heap.size w w' := by
  obtain ⟨ds, hs, hd, ht, rfl⟩ := hv
  have hl := top_len ht hm
  obtain ⟨ao, cap, rfl, hc⟩ := hs.shape
  obtain ⟨i0, hi, hz0, hz1, hz2⟩ := info_parts Tryz.infoInt
  clear hm
  go_enter Tryz.func294, Tryz.ntmps294
  go_wp2
  go_loopw [5, 6, 7] (fun ov cv iv wr => ∃ (c : Nat) (os : List Nat) (ap : Option Addr) (kp : Nat), ov = .slice ap os.length kp ∧ cv = .int .i64 (c : Nat) ∧ iv = .int .i64 (os.length : Nat) ∧ c < 10000 ∧ os.length ≤ ds.length + 1 ∧ (ds.length < os.length → c = 0) ∧
      wr.ownsRow w.heap.size 3 1 (.slice ap os.length kp) os.length (os.map encD) ∧ Dig os ∧ Hid (val os + 10000 ^ os.length * c = val (ds.take os.length) * n) ∧ Below w.heap.size w wr) (fun _ _ iv _ => ((ds.length : Int) + 2 - intOf iv).toNat)
  case atStart => exact ⟨0, [], none, 0, rfl, rfl, rfl, by omega, by simp, fun _ => rfl, World.ownsRow_nil _ _ _ _, fun d hd => by simp at hd, by simp [Hid, val], Below.refl _ _⟩
  case round =>
    obtain ⟨c, os, ap, kp, rfl, rfl, rfl, hc1, hol, hoc, hown, hod, hov, hbel⟩ := hrel
    by_cases hk : os.length < ds.length
    · obtain ⟨b, off, rfl, hb, hrow⟩ := hs.row (by intro e; rw [e] at hk; simp at hk)
      have hck := (hbel.cell (p := ⟨b, off + os.length, none⟩) hb).trans (hrow os.length hk)
      have hdk := hd.get os.length
      obtain ⟨C, hC⟩ : ∃ C, C = c + ds.getD os.length 0 * n := ⟨_, rfl⟩
      have HST := hide (times_step rfl hov.out hC)
      generalize ds.getD os.length 0 = x at *
      have hmb : x * n ≤ 9999 * 9999 := Nat.mul_le_mul (by omega) (by omega)
      have hm0 : (0 : Int) ≤ (x : Int) * (n : Int) := by rw [← Int.natCast_mul]; omega
      have hm1 : (x : Int) * (n : Int) ≤ 99980001 := by rw [← Int.natCast_mul]; omega
      have hC2 : (c : Int) + (x : Int) * (n : Int) = (C : Int) := by rw [hC]; simp
      have hCb : C < 100000000 := by omega
      have HC2 := hide hC2
      have e1 := tmod_nat C
      have e2 := tdiv_nat C
      have hq : C / 10000 < 10000 := by omega
      have hr : C % 10000 < 10000 := by omega
      have E1 := hide e1
      have E2 := hide e2
      have hCm : ((c : Int) + (x : Int) * (n : Int)) % 10000 = ((C % 10000 : Nat) : Int) := by rw [hC2]; rfl
      have HCM := hide hCm
      have HCD : Hid (((c : Int) + (x : Int) * (n : Int)) / 10000 = ((C / 10000 : Nat) : Int)) := by rw [Hid, hC2]; rfl
      clear hmb hC hC2 hov e1 e2 hCm
      go_wp2_with (at_builtin; refine wpList_append_own _ rfl _ _ 35 rfl w.heap.size 3 i0 (.int .i64 0) 1 8 Tryz.underlying35 hi hz0 hz1 hz2 rfl (by decide) (.slice ap os.length kp) os.length (os.map encD) rfl (hown.alloc _) ⟨wr.heap.size, 0, none⟩ 1 1 [.int .i64 (((c : Int) + (x : Int) * (n : Int)) % 10000)] rfl rfl ?c1 ?c2 (by unfold maxLen; omega) (by omega) (by have := hbel.size; simp; omega) ?_)
      case c1 => exact cell_one_new _ _ _
      case c2 => intro u hu; simp at hu; subst hu; rfl
      intro v3 w3 hown3 hgrow hnn
      obtain ⟨os', hos', hol', cap3, g3, rfl, hown4, hb3⟩ := grown_snoc hown hbel hown3 hgrow hnn HCM.out
      go_wp2
      go_roundw
      case rel =>
        refine ⟨C / 10000, os', _, cap3, rfl, by rw [HCD.out], by rw [hol']; simp, hq, by omega, by intro h; omega, hown4, by rw [hos']; exact dig_snoc hod hr, ?_, hb3⟩
        rw [Hid, hol', hos']
        exact HST.out
      case measure => simp [intOf]; omega
    · by_cases hc0 : c = 0
      · subst hc0
        have hfin : val os = val ds * n := by
          have := hov.out
          rw [take_all (by omega), Nat.mul_zero, Nat.add_zero] at this
          exact this
        have HF := hide hfin
        clear hfin hov
        go_wp2_with fail
        refine (trim_any _ _ os (sl_of_owns hown) (by omega)).mono ?_
        rintro e w3 ⟨⟨x, rfl, hx⟩, rfl⟩
        go_wp2
        go_ret
        exact ⟨x, rfl, nv_trim hx hod HF.out, hbel⟩
      · have hle : os.length ≤ ds.length := by
          by_cases h : ds.length < os.length
          · exact absurd (hoc h) hc0
          · omega
        have hst := times_step (n := n) (C := c) rfl hov.out (by rw [getD_none _ _ (by omega)]; omega)
        have hcz : (0 : Int) < (c : Int) := by omega
        have HCM : Hid ((c : Int) % 10000 = ((c % 10000 : Nat) : Int)) := by rw [Hid]; rfl
        have HCD : Hid ((c : Int) / 10000 = ((c / 10000 : Nat) : Int)) := by rw [Hid]; rfl
        have HST := hide hst
        clear hst hov hoc
        go_wp2_with (at_builtin; refine wpList_append_own _ rfl _ _ 35 rfl w.heap.size 3 i0 (.int .i64 0) 1 8 Tryz.underlying35 hi hz0 hz1 hz2 rfl (by decide) (.slice ap os.length kp) os.length (os.map encD) rfl (hown.alloc _) ⟨wr.heap.size, 0, none⟩ 1 1 [.int .i64 ((c : Int) % 10000)] rfl rfl ?c1 ?c2 (by unfold maxLen; omega) (by omega) (by have := hbel.size; simp; omega) ?_)
        case c1 => exact cell_one_new _ _ _
        case c2 => intro u hu; simp at hu; subst hu; rfl
        intro v3 w3 hown3 hgrow hnn
        obtain ⟨os', hos', hol', cap3, g3, rfl, hown4, hb3⟩ := grown_snoc hown hbel hown3 hgrow hnn HCM.out
        go_wp2
        go_roundw
        case rel =>
          refine ⟨c / 10000, os', _, cap3, rfl, by rw [HCD.out], by rw [hol']; simp, by omega, by omega, by intro h; omega, hown4, by rw [hos']; exact dig_snoc hod (by omega), ?_, hb3⟩
          rw [Hid, hol', hos']
          exact HST.out
        case measure => simp [intOf]; omega
end Go.Proofs.YtnhfdcfnojnofaaGreatDoor.T

/-
  What the document's own plus, less do (package planesref).
-/
namespace Go.Proofs.YtnhfdcfnojnofaaGreatDoor.T
open Go.RowKit

theorem ge_of_len {ds : List Nat} (ht : Top ds) {k : Nat} (h : k < ds.length) : 10000 ^ k ≤ val ds := by
  obtain ⟨j, hj⟩ : ∃ j, ds.length = j + 1 := ⟨ds.length - 1, by omega⟩
  exact Nat.le_trans (pow_mono (by omega)) (top_le ht j hj)

set_option maxHeartbeats 4000000 in
set_option maxRecDepth 100000 in
theorem plus_any (w : World) (u v : Value) (m n K : Nat) (hu : NV w u m) (hv : NV w v n) (hm : m < 10000 ^ K) (hn : n < 10000 ^ K) (hK : K ≤ 1000000000) :
    Calls Tryz.prog 185 #[u, v] w fun e w' => ∃ x, e = .returned x ∧ NV w' x (m + n) ∧ Below w.heap.size w w' := by
  obtain ⟨ds, hs, hd, ht, rfl⟩ := hu
  obtain ⟨es, hs', hd', ht', rfl⟩ := hv
  have hl := top_len ht hm
  have hl' := top_len ht' hn
  obtain ⟨ao, cap, rfl, hc⟩ := hs.shape
  obtain ⟨ao', cap', rfl, hc'⟩ := hs'.shape
  obtain ⟨i0, hi, hz0, hz1, hz2⟩ := info_parts Tryz.infoInt
  obtain ⟨L, hLd, hLe, hLK, hL⟩ : ∃ L, ds.length ≤ L ∧ es.length ≤ L ∧ L ≤ K ∧ (L ≤ ds.length ∨ L ≤ es.length) := ⟨max ds.length es.length, by omega, by omega, by omega, by omega⟩
  clear hm hn
  go_enter Tryz.func185, Tryz.ntmps185
  go_wp2
  go_loopw [5, 6, 7] (fun ov cv iv wr => ∃ (c : Nat) (os : List Nat) (ap : Option Addr) (kp : Nat), ov = .slice ap os.length kp ∧ cv = .int .i64 (c : Nat) ∧ iv = .int .i64 (os.length : Nat) ∧ c ≤ 1 ∧ os.length ≤ L + 1 ∧ (L < os.length → c = 0) ∧
      wr.ownsRow w.heap.size 3 1 (.slice ap os.length kp) os.length (os.map encD) ∧ Dig os ∧ Hid (val os + 10000 ^ os.length * c = val (ds.take os.length) + val (es.take os.length)) ∧ Hid (∀ j, os.length = j + 1 → 10000 ^ j ≤ val ds + val es) ∧ Below w.heap.size w wr) (fun _ _ iv _ => ((L : Int) + 2 - intOf iv).toNat)
  case atStart => exact ⟨0, [], none, 0, rfl, rfl, rfl, by omega, by simp, fun _ => rfl, World.ownsRow_nil _ _ _ _, fun d hd => by simp at hd, by simp [Hid, val], fun j hj => by simp at hj, Below.refl _ _⟩
  case round =>
    obtain ⟨c, os, ap, kp, rfl, rfl, rfl, hc1, hol, hoc, hown, hod, hov, hog, hbel⟩ := hrel
    have HT := hide ht
    have HT' := hide ht'
    by_cases hk : os.length < ds.length
    · by_cases hk' : os.length < es.length
      · obtain ⟨b, off, rfl, hb, hrow⟩ := hs.row (by intro e; rw [e] at hk; simp at hk)
        have hck := (hbel.cell (p := ⟨b, off + os.length, none⟩) hb).trans (hrow os.length hk)
        have hdk := hd.get os.length
        obtain ⟨b', off', rfl, hb', hrow'⟩ := hs'.row (by intro e; rw [e] at hk'; simp at hk')
        have hck' := (hbel.cell (p := ⟨b', off' + os.length, none⟩) hb').trans (hrow' os.length hk')
        have hdk' := hd'.get os.length
        have HG : Hid (∀ j, os.length + 1 = j + 1 → 10000 ^ j ≤ val ds + val es) := by
          rw [Hid]
          intro j hj
          obtain rfl : os.length = j := by omega
          exact Nat.le_trans (ge_of_len HT.out hk) (Nat.le_add_right _ _)
        obtain ⟨C, hC⟩ : ∃ C, C = c + ds.getD os.length 0 + es.getD os.length 0 := ⟨_, rfl⟩
        have HST := hide (plus_step rfl hov.out hC)
        generalize ds.getD os.length 0 = x at *
        generalize es.getD os.length 0 = y at *
        have hC2 : (((c : Int) + (x : Int)) + (y : Int)) = (C : Int) := by omega
        have HCM : Hid ((((c : Int) + (x : Int)) + (y : Int)) % 10000 = ((C % 10000 : Nat) : Int)) := by rw [Hid, hC2]; rfl
        have HCD : Hid ((((c : Int) + (x : Int)) + (y : Int)) / 10000 = ((C / 10000 : Nat) : Int)) := by rw [Hid, hC2]; rfl
        have hq : C / 10000 ≤ 1 := by omega
        have hr : C % 10000 < 10000 := by omega
        have hkL : os.length ≤ L := by omega
        clear hC hC2 hov hog hoc HT HT'
        go_wp2_with (at_builtin; refine wpList_append_own _ rfl _ _ 35 rfl w.heap.size 3 i0 (.int .i64 0) 1 8 Tryz.underlying35 hi hz0 hz1 hz2 rfl (by decide) (.slice ap os.length kp) os.length (os.map encD) rfl (hown.alloc _) ⟨wr.heap.size, 0, none⟩ 1 1 [.int .i64 ((((c : Int) + (x : Int)) + (y : Int)) % 10000)] rfl rfl ?c1 ?c2 (by unfold maxLen; omega) (by omega) (by have := hbel.size; simp; omega) ?_)
        case c1 => exact cell_one_new _ _ _
        case c2 => intro u hu; simp at hu; subst hu; rfl
        intro v3 w3 hown3 hgrow hnn
        obtain ⟨os', hos', hol', cap3, g3, rfl, hown4, hb3⟩ := grown_snoc hown hbel hown3 hgrow hnn HCM.out
        go_wp2
        go_roundw
        case rel =>
          refine ⟨C / 10000, os', _, cap3, rfl, by rw [HCD.out], by rw [hol']; simp, hq, by omega, by intro h; omega, hown4, by rw [hos']; exact dig_snoc hod hr, ?_, ?_, hb3⟩
          · rw [Hid, hol', hos']; exact HST.out
          · rw [hol']; exact HG
        case measure => simp [intOf]; omega
      · obtain ⟨b, off, rfl, hb, hrow⟩ := hs.row (by intro e; rw [e] at hk; simp at hk)
        have hck := (hbel.cell (p := ⟨b, off + os.length, none⟩) hb).trans (hrow os.length hk)
        have hdk := hd.get os.length
        have HG : Hid (∀ j, os.length + 1 = j + 1 → 10000 ^ j ≤ val ds + val es) := by
          rw [Hid]
          intro j hj
          obtain rfl : os.length = j := by omega
          exact Nat.le_trans (ge_of_len HT.out hk) (Nat.le_add_right _ _)
        obtain ⟨C, hC⟩ : ∃ C, C = c + ds.getD os.length 0 + es.getD os.length 0 := ⟨_, rfl⟩
        have HST := hide (plus_step rfl hov.out hC)
        rw [getD_none es _ (by omega)] at hC
        generalize ds.getD os.length 0 = x at *
        have hC2 : ((c : Int) + (x : Int)) = (C : Int) := by omega
        have HCM : Hid (((c : Int) + (x : Int)) % 10000 = ((C % 10000 : Nat) : Int)) := by rw [Hid, hC2]; rfl
        have HCD : Hid (((c : Int) + (x : Int)) / 10000 = ((C / 10000 : Nat) : Int)) := by rw [Hid, hC2]; rfl
        have hq : C / 10000 ≤ 1 := by omega
        have hr : C % 10000 < 10000 := by omega
        have hkL : os.length ≤ L := by omega
        clear hC hC2 hov hog hoc HT HT'
        go_wp2_with (at_builtin; refine wpList_append_own _ rfl _ _ 35 rfl w.heap.size 3 i0 (.int .i64 0) 1 8 Tryz.underlying35 hi hz0 hz1 hz2 rfl (by decide) (.slice ap os.length kp) os.length (os.map encD) rfl (hown.alloc _) ⟨wr.heap.size, 0, none⟩ 1 1 [.int .i64 (((c : Int) + (x : Int)) % 10000)] rfl rfl ?c1 ?c2 (by unfold maxLen; omega) (by omega) (by have := hbel.size; simp; omega) ?_)
        case c1 => exact cell_one_new _ _ _
        case c2 => intro u hu; simp at hu; subst hu; rfl
        intro v3 w3 hown3 hgrow hnn
        obtain ⟨os', hos', hol', cap3, g3, rfl, hown4, hb3⟩ := grown_snoc hown hbel hown3 hgrow hnn HCM.out
        go_wp2
        go_roundw
        case rel =>
          refine ⟨C / 10000, os', _, cap3, rfl, by rw [HCD.out], by rw [hol']; simp, hq, by omega, by intro h; omega, hown4, by rw [hos']; exact dig_snoc hod hr, ?_, ?_, hb3⟩
          · rw [Hid, hol', hos']; exact HST.out
          · rw [hol']; exact HG
        case measure => simp [intOf]; omega
    · by_cases hk' : os.length < es.length
      · obtain ⟨b', off', rfl, hb', hrow'⟩ := hs'.row (by intro e; rw [e] at hk'; simp at hk')
        have hck' := (hbel.cell (p := ⟨b', off' + os.length, none⟩) hb').trans (hrow' os.length hk')
        have hdk' := hd'.get os.length
        have HG : Hid (∀ j, os.length + 1 = j + 1 → 10000 ^ j ≤ val ds + val es) := by
          rw [Hid]
          intro j hj
          obtain rfl : os.length = j := by omega
          exact Nat.le_trans (ge_of_len HT'.out hk') (Nat.le_add_left _ _)
        obtain ⟨C, hC⟩ : ∃ C, C = c + ds.getD os.length 0 + es.getD os.length 0 := ⟨_, rfl⟩
        have HST := hide (plus_step rfl hov.out hC)
        rw [getD_none ds _ (by omega)] at hC
        generalize es.getD os.length 0 = y at *
        have hC2 : ((c : Int) + (y : Int)) = (C : Int) := by omega
        have HCM : Hid (((c : Int) + (y : Int)) % 10000 = ((C % 10000 : Nat) : Int)) := by rw [Hid, hC2]; rfl
        have HCD : Hid (((c : Int) + (y : Int)) / 10000 = ((C / 10000 : Nat) : Int)) := by rw [Hid, hC2]; rfl
        have hq : C / 10000 ≤ 1 := by omega
        have hr : C % 10000 < 10000 := by omega
        have hkL : os.length ≤ L := by omega
        clear hC hC2 hov hog hoc HT HT'
        go_wp2_with (at_builtin; refine wpList_append_own _ rfl _ _ 35 rfl w.heap.size 3 i0 (.int .i64 0) 1 8 Tryz.underlying35 hi hz0 hz1 hz2 rfl (by decide) (.slice ap os.length kp) os.length (os.map encD) rfl (hown.alloc _) ⟨wr.heap.size, 0, none⟩ 1 1 [.int .i64 (((c : Int) + (y : Int)) % 10000)] rfl rfl ?c1 ?c2 (by unfold maxLen; omega) (by omega) (by have := hbel.size; simp; omega) ?_)
        case c1 => exact cell_one_new _ _ _
        case c2 => intro u hu; simp at hu; subst hu; rfl
        intro v3 w3 hown3 hgrow hnn
        obtain ⟨os', hos', hol', cap3, g3, rfl, hown4, hb3⟩ := grown_snoc hown hbel hown3 hgrow hnn HCM.out
        go_wp2
        go_roundw
        case rel =>
          refine ⟨C / 10000, os', _, cap3, rfl, by rw [HCD.out], by rw [hol']; simp, hq, by omega, by intro h; omega, hown4, by rw [hos']; exact dig_snoc hod hr, ?_, ?_, hb3⟩
          · rw [Hid, hol', hos']; exact HST.out
          · rw [hol']; exact HG
        case measure => simp [intOf]; omega
      · by_cases hc0 : c = 0
        · subst hc0
          have hfin : val os = val ds + val es := by
            have := hov.out
            rw [take_all (by omega), take_all (by omega), Nat.mul_zero, Nat.add_zero] at this
            exact this
          have HF := hide hfin
          clear hfin hov
          go_wp2
          go_ret
          exact ⟨_, rfl, ⟨os, sl_of_owns hown, hod, top_of_ge hod (by rw [HF.out]; exact hog.out), HF.out⟩, hbel⟩
        · have HG : Hid (∀ j, os.length + 1 = j + 1 → 10000 ^ j ≤ val ds + val es) := by
            rw [Hid]
            intro j hj
            obtain rfl : os.length = j := by omega
            have h1 := hov.out
            rw [take_all (by omega), take_all (by omega)] at h1
            have h2 : 10000 ^ os.length * 1 ≤ 10000 ^ os.length * c := Nat.mul_le_mul_left _ (by omega)
            omega
          obtain ⟨C, hC⟩ : ∃ C, C = c + ds.getD os.length 0 + es.getD os.length 0 := ⟨_, rfl⟩
          have HST := hide (plus_step rfl hov.out hC)
          rw [getD_none ds _ (by omega)] at hC
          rw [getD_none es _ (by omega)] at hC
          have hC2 : (c : Int) = (C : Int) := by omega
          have HCM : Hid ((c : Int) % 10000 = ((C % 10000 : Nat) : Int)) := by rw [Hid, hC2]; rfl
          have HCD : Hid ((c : Int) / 10000 = ((C / 10000 : Nat) : Int)) := by rw [Hid, hC2]; rfl
          have hq : C / 10000 ≤ 1 := by omega
          have hr : C % 10000 < 10000 := by omega
          have hq0 : C / 10000 = 0 := by omega
          have hkL : os.length ≤ L := by
            by_cases h : L < os.length
            · exact absurd (hoc h) hc0
            · omega
          have hcz : (0 : Int) < (c : Int) := by omega
          clear hC hC2 hov hog hoc HT HT'
          go_wp2_with (at_builtin; refine wpList_append_own _ rfl _ _ 35 rfl w.heap.size 3 i0 (.int .i64 0) 1 8 Tryz.underlying35 hi hz0 hz1 hz2 rfl (by decide) (.slice ap os.length kp) os.length (os.map encD) rfl (hown.alloc _) ⟨wr.heap.size, 0, none⟩ 1 1 [.int .i64 ((c : Int) % 10000)] rfl rfl ?c1 ?c2 (by unfold maxLen; omega) (by omega) (by have := hbel.size; simp; omega) ?_)
          case c1 => exact cell_one_new _ _ _
          case c2 => intro u hu; simp at hu; subst hu; rfl
          intro v3 w3 hown3 hgrow hnn
          obtain ⟨os', hos', hol', cap3, g3, rfl, hown4, hb3⟩ := grown_snoc hown hbel hown3 hgrow hnn HCM.out
          go_wp2
          go_roundw
          case rel =>
            refine ⟨C / 10000, os', _, cap3, rfl, by rw [HCD.out], by rw [hol']; simp, hq, by omega, by intro h; omega, hown4, by rw [hos']; exact dig_snoc hod hr, ?_, ?_, hb3⟩
            · rw [Hid, hol', hos']; exact HST.out
            · rw [hol']; exact HG
          case measure => simp [intOf]; omega


theorem less_end {os ds es : List Nat} {c : Nat} (hod : Dig os) (hl : os.length = ds.length) (hd : Dig ds) (ht' : Top es) (hle : val es ≤ val ds) (hi : val os + val (es.take os.length) = val (ds.take os.length) + 10000 ^ os.length * c) : val os = val ds - val es := by
  have h1 : es.length ≤ ds.length := by
    by_cases h : ds.length < es.length
    · have := top_lt_of_len hd ht' h; omega
    · omega
  rw [take_all (by omega), take_all (by omega)] at hi
  have h2 := val_lt hod
  cases c with
  | zero => omega
  | succ c =>
    have h3 : 10000 ^ os.length * 1 ≤ 10000 ^ os.length * (c + 1) := Nat.mul_le_mul_left _ (by omega)
    omega

set_option maxHeartbeats 4000000 in
set_option maxRecDepth 100000 in
theorem less_any (w : World) (u v : Value) (m n K : Nat) (hu : NV w u m) (hv : NV w v n) (hm : m < 10000 ^ K) (hle : n ≤ m) (hK : K ≤ 1000000000) :
    Calls Tryz.prog 187 #[u, v] w fun e w' => ∃ x, e = .returned x ∧ NV w' x (m - n) ∧ Below w.heap.size w w' := by
  obtain ⟨ds, hs, hd, ht, rfl⟩ := hu
  obtain ⟨es, hs', hd', ht', rfl⟩ := hv
  have hl := top_len ht hm
  have hl' := top_len ht' (Nat.lt_of_le_of_lt hle hm)
  obtain ⟨ao, cap, rfl, hc⟩ := hs.shape
  obtain ⟨ao', cap', rfl, hc'⟩ := hs'.shape
  obtain ⟨i0, hi, hz0, hz1, hz2⟩ := info_parts Tryz.infoInt
  have HLE := hide hle
  have HT' := hide ht'
  clear hm hle ht ht'
  go_enter Tryz.func187, Tryz.ntmps187
  go_wp2
  go_loopw [5, 6, 7] (fun ov cv iv wr => ∃ (c : Nat) (os : List Nat) (ap : Option Addr) (kp : Nat), ov = .slice ap os.length kp ∧ cv = .int .i64 (c : Nat) ∧ iv = .int .i64 (os.length : Nat) ∧ c ≤ 1 ∧ os.length ≤ ds.length ∧
      wr.ownsRow w.heap.size 3 1 (.slice ap os.length kp) os.length (os.map encD) ∧ Dig os ∧ Hid (val os + val (es.take os.length) = val (ds.take os.length) + 10000 ^ os.length * c) ∧ Below w.heap.size w wr) (fun _ _ iv _ => ((ds.length : Int) - intOf iv).toNat)
  case atStart => exact ⟨0, [], none, 0, rfl, rfl, rfl, by omega, by simp, World.ownsRow_nil _ _ _ _, fun d hd => by simp at hd, by simp [Hid, val], Below.refl _ _⟩
  case round =>
    obtain ⟨c, os, ap, kp, rfl, rfl, rfl, hc1, hol, hown, hod, hov, hbel⟩ := hrel
    by_cases hk : os.length < ds.length
    · obtain ⟨b, off, rfl, hb, hrow⟩ := hs.row (by intro e; rw [e] at hk; simp at hk)
      have hck := (hbel.cell (p := ⟨b, off + os.length, none⟩) hb).trans (hrow os.length hk)
      have hdk := hd.get os.length
      have HOV : Hid (∀ d c', d + es.getD os.length 0 + c = ds.getD os.length 0 + 10000 * c' → val (os ++ [d]) + val (es.take (os.length + 1)) = val (ds.take (os.length + 1)) + 10000 ^ (os.length + 1) * c') := fun d c' h => less_step rfl hov.out h
      have hdk' := hd'.get os.length
      clear hov
      by_cases hk' : os.length < es.length
      · obtain ⟨b', off', rfl, hb', hrow'⟩ := hs'.row (by intro e; rw [e] at hk'; simp at hk')
        have hck' := (hbel.cell (p := ⟨b', off' + os.length, none⟩) hb').trans (hrow' os.length hk')
        generalize ds.getD os.length 0 = x at *
        generalize es.getD os.length 0 = y at *
        by_cases hneg : (x : Int) - (c : Int) - (y : Int) < 0
        · obtain ⟨d, hdd, hdl⟩ : ∃ d : Nat, (x : Int) - (c : Int) - (y : Int) + 10000 = (d : Int) ∧ d < 10000 := ⟨x + 10000 - c - y, by omega, by omega⟩
          have hst := HOV.out d 1 (by omega)
          have HST := hide hst
          have HDD := hide hdd
          clear hst HOV hdd
          go_wp2_with (at_builtin; refine wpList_append_own _ rfl _ _ 35 rfl w.heap.size 3 i0 (.int .i64 0) 1 8 Tryz.underlying35 hi hz0 hz1 hz2 rfl (by decide) (.slice ap os.length kp) os.length (os.map encD) rfl (hown.alloc _) ⟨wr.heap.size, 0, none⟩ 1 1 [.int .i64 ((x : Int) - (c : Int) - (y : Int) + 10000)] rfl rfl (cell_one_new _ _ _) ?c2 (by unfold maxLen; omega) (by omega) (by have := hbel.size; simp; omega) ?_)
          case c2 => first | rfl | (intro u hu; simp at hu; subst hu; rfl)
          intro v3 w3 hown3 hgrow hnn
          obtain ⟨os', hos', hol', cap3, g3, rfl, hown4, hb3⟩ := grown_snoc hown hbel hown3 hgrow hnn HDD.out
          go_wp2
          go_roundw
          case rel =>
            refine ⟨1, os', _, cap3, rfl, rfl, by rw [hol']; simp, by omega, by omega, hown4, by rw [hos']; exact dig_snoc hod hdl, ?_, hb3⟩
            rw [Hid, hol', hos']; exact HST.out
          case measure => simp [intOf]; omega
        · obtain ⟨d, hdd, hdl⟩ : ∃ d : Nat, (x : Int) - (c : Int) - (y : Int) = (d : Int) ∧ d < 10000 := ⟨x - c - y, by omega, by omega⟩
          have hst := HOV.out d 0 (by omega)
          have HST := hide hst
          have HDD := hide hdd
          clear hst HOV hdd
          go_wp2_with (at_builtin; refine wpList_append_own _ rfl _ _ 35 rfl w.heap.size 3 i0 (.int .i64 0) 1 8 Tryz.underlying35 hi hz0 hz1 hz2 rfl (by decide) (.slice ap os.length kp) os.length (os.map encD) rfl (hown.alloc _) ⟨wr.heap.size, 0, none⟩ 1 1 [.int .i64 ((x : Int) - (c : Int) - (y : Int))] rfl rfl (cell_one_new _ _ _) ?c2 (by unfold maxLen; omega) (by omega) (by have := hbel.size; simp; omega) ?_)
          case c2 => first | rfl | (intro u hu; simp at hu; subst hu; rfl)
          intro v3 w3 hown3 hgrow hnn
          obtain ⟨os', hos', hol', cap3, g3, rfl, hown4, hb3⟩ := grown_snoc hown hbel hown3 hgrow hnn HDD.out
          go_wp2
          go_roundw
          case rel =>
            refine ⟨0, os', _, cap3, rfl, rfl, by rw [hol']; simp, by omega, by omega, hown4, by rw [hos']; exact dig_snoc hod hdl, ?_, hb3⟩
            rw [Hid, hol', hos']; exact HST.out
          case measure => simp [intOf]; omega
      · have hy : es.getD os.length 0 = 0 := getD_none es _ (by omega)
        generalize ds.getD os.length 0 = x at *
        generalize es.getD os.length 0 = y at *
        subst hy
        by_cases hneg : (x : Int) - (c : Int) < 0
        · obtain ⟨d, hdd, hdl⟩ : ∃ d : Nat, (x : Int) - (c : Int) + 10000 = (d : Int) ∧ d < 10000 := ⟨x + 10000 - c, by omega, by omega⟩
          have hst := HOV.out d 1 (by omega)
          have HST := hide hst
          have HDD := hide hdd
          clear hst HOV hdd
          go_wp2_with (at_builtin; refine wpList_append_own _ rfl _ _ 35 rfl w.heap.size 3 i0 (.int .i64 0) 1 8 Tryz.underlying35 hi hz0 hz1 hz2 rfl (by decide) (.slice ap os.length kp) os.length (os.map encD) rfl (hown.alloc _) ⟨wr.heap.size, 0, none⟩ 1 1 [.int .i64 ((x : Int) - (c : Int) + 10000)] rfl rfl (cell_one_new _ _ _) ?c2 (by unfold maxLen; omega) (by omega) (by have := hbel.size; simp; omega) ?_)
          case c2 => first | rfl | (intro u hu; simp at hu; subst hu; rfl)
          intro v3 w3 hown3 hgrow hnn
          obtain ⟨os', hos', hol', cap3, g3, rfl, hown4, hb3⟩ := grown_snoc hown hbel hown3 hgrow hnn HDD.out
          go_wp2
          go_roundw
          case rel =>
            refine ⟨1, os', _, cap3, rfl, rfl, by rw [hol']; simp, by omega, by omega, hown4, by rw [hos']; exact dig_snoc hod hdl, ?_, hb3⟩
            rw [Hid, hol', hos']; exact HST.out
          case measure => simp [intOf]; omega
        · obtain ⟨d, hdd, hdl⟩ : ∃ d : Nat, (x : Int) - (c : Int) = (d : Int) ∧ d < 10000 := ⟨x - c, by omega, by omega⟩
          have hst := HOV.out d 0 (by omega)
          have HST := hide hst
          have HDD := hide hdd
          clear hst HOV hdd
          go_wp2_with (at_builtin; refine wpList_append_own _ rfl _ _ 35 rfl w.heap.size 3 i0 (.int .i64 0) 1 8 Tryz.underlying35 hi hz0 hz1 hz2 rfl (by decide) (.slice ap os.length kp) os.length (os.map encD) rfl (hown.alloc _) ⟨wr.heap.size, 0, none⟩ 1 1 [.int .i64 ((x : Int) - (c : Int))] rfl rfl (cell_one_new _ _ _) ?c2 (by unfold maxLen; omega) (by omega) (by have := hbel.size; simp; omega) ?_)
          case c2 => first | rfl | (intro u hu; simp at hu; subst hu; rfl)
          intro v3 w3 hown3 hgrow hnn
          obtain ⟨os', hos', hol', cap3, g3, rfl, hown4, hb3⟩ := grown_snoc hown hbel hown3 hgrow hnn HDD.out
          go_wp2
          go_roundw
          case rel =>
            refine ⟨0, os', _, cap3, rfl, rfl, by rw [hol']; simp, by omega, by omega, hown4, by rw [hos']; exact dig_snoc hod hdl, ?_, hb3⟩
            rw [Hid, hol', hos']; exact HST.out
          case measure => simp [intOf]; omega
    · have hfin := less_end hod (by omega) hd HT'.out HLE.out hov.out
      have HF := hide hfin
      clear hfin hov
      go_wp2_with fail
      refine (trim_any _ _ os (sl_of_owns hown) (by omega)).mono ?_
      rintro e w3 ⟨⟨x, rfl, hx⟩, rfl⟩
      go_wp2
      go_ret
      exact ⟨x, rfl, nv_trim hx hod HF.out, hbel⟩
end Go.Proofs.YtnhfdcfnojnofaaGreatDoor.T

/-
  What the document's own product does (package planesref).
-/
namespace Go.Proofs.YtnhfdcfnojnofaaGreatDoor.T
open Go.RowKit

/-- A list of places behind a row of one's own. -/
theorem append_sl {w : World} {ops : Array Oper} {rest : List Oper} {o : Oper} {a : Act} {Q : Exit → Act → World → Prop} (hgd : o.guard = none) (s x : Operand)
    (ho : o.op = .call { callee := .builtin .append, args := #[s, x], argTypes := #[35, 35] }) (base : Nat) (hbase : base ≤ w.heap.size) (ap : Option Addr) (kp : Nat) (os : List Nat) (hs : a.eval s = .slice ap os.length kp)
    (hown : w.ownsRow base 3 1 (.slice ap os.length kp) os.length (os.map encD)) (vx : Value) (ds : List Nat) (hx : a.eval x = vx) (hsl : Sl w vx ds) (hlen : os.length + ds.length ≤ 1000000000000)
    (h : ∀ ap' kp' w', w'.ownsRow base 3 1 (.slice ap' (os ++ ds).length kp') (os ++ ds).length ((os ++ ds).map encD) → (∀ B w0, Below B w0 w → B ≤ base → Below B w0 w') → wpList Tryz.prog ops Q rest (a.put o.dst (.slice ap' (os ++ ds).length kp')) w') :
    wpList Tryz.prog ops Q (o :: rest) a w := by
  obtain ⟨i0, hi, hz0, hz1, hz2⟩ := info_parts Tryz.infoInt
  rcases hsl with ⟨rfl, rfl⟩ | ⟨g, off, cap, rfl, hc, hg, hrow, _⟩
  · refine wpList_append_own_none hgd s x 35 ho base 3 i0 1 Tryz.underlying35 hi _ _ _ hs hown hx ?_
    have h2 := h ap kp w (by simpa using hown) (fun B w0 hb _ => hb)
    simpa using h2
  · refine wpList_append_own w hgd s x 35 ho base 3 i0 (.int .i64 0) 1 8 Tryz.underlying35 hi hz0 hz1 hz2 rfl (by decide) _ _ _ hs hown ⟨g, off, none⟩ ds.length cap (ds.map encD) hx (by simp) (row_news hrow) (encD_one ds) (by unfold maxLen; omega) (by omega) hbase ?_
    intro v' w' hown' hgrow hnn
    have e : os.map encD ++ ds.map encD = (os ++ ds).map encD := by simp
    have e2 : os.length + ds.length = (os ++ ds).length := by simp
    rw [e, e2] at hown'
    have hbb : ∀ B w0, Below B w0 w → B ≤ base → Below B w0 w' := fun B w0 hb hB => hb.grown hgrow (Nat.le_trans hB hbase) (fun k hk => Nat.le_trans hB (hown.lt k hk).1)
    by_cases hnil : v' = .slice none 0 0
    · subst hnil
      have h0 : (os ++ ds).length = 0 := by
        have h1 := (hnn.1 rfl)
        simp only [Value.slice.injEq] at h1
        rw [List.length_append]
        omega
      have h2 := h none 0 w' (by rw [h0] at hown' ⊢; exact hown') hbb
      rw [h0] at h2
      exact h2
    · obtain ⟨g3, cap3, hvv, _⟩ := owns_parts hown' hnil
      subst hvv
      exact h _ _ w' hown' hbb

theorem val_drop_le (ds : List Nat) (k : Nat) (h : k ≤ ds.length) : val (ds.drop k) ≤ val ds := by
  have h1 := val_take_drop ds k h
  have h2 : 1 * val (ds.drop k) ≤ 10000 ^ k * val (ds.drop k) := Nat.mul_le_mul_right _ (Nat.pow_pos (by omega))
  omega

theorem NV.zero (w : World) : NV w (.slice none 0 0) 0 := ⟨[], sl_empty w, fun d hd => by simp at hd, fun k h => by simp at h, rfl⟩

theorem top_cons {ds : List Nat} (h : Top ds) (hne : ds ≠ []) (x : Nat) : Top (x :: ds) := by
  intro k hk
  have hp : 0 < ds.length := List.length_pos_iff.2 hne
  obtain ⟨j, rfl⟩ : ∃ j, k = j + 1 := ⟨k - 1, by simp at hk; omega⟩
  have := h j (by simpa using hk)
  simpa using this

theorem nv_shift {w : World} {v : Value} {ss : List Nat} {S : Nat} (h : Sl w v (0 :: ss)) (hd : Dig ss) (ht : Top ss) (hne : ss ≠ []) (hS : val ss = S) : NV w v (10000 * S) :=
  ⟨0 :: ss, h, fun d hm => by rcases List.mem_cons.1 hm with rfl | h; · omega
                              · exact hd d h, top_cons ht hne 0, by simp [val, hS]⟩

theorem prod_step (m y S D : Nat) (hS : S = m * D) : 10000 * S + m * y = m * (y + 10000 * D) := by
  rw [hS, Nat.mul_add, Nat.add_comm, Nat.mul_left_comm]

set_option maxHeartbeats 4000000 in
set_option maxRecDepth 100000 in
theorem product_any (w : World) (u v : Value) (m n K : Nat) (hu : NV w u m) (hv : NV w v n) (hm : m < 10000 ^ K) (hn : n < 10000 ^ K) (hK : K ≤ 100000000) :
    Calls Tryz.prog 184 #[u, v] w fun e w' => ∃ x, e = .returned x ∧ NV w' x (m * n) ∧ Below w.heap.size w w' := by
  obtain ⟨i0, hi, hz0, hz1, hz2⟩ := info_parts Tryz.infoInt
  obtain ⟨es, hs', hd', ht', hnv⟩ := hv
  have hl' := top_len ht' (by rw [hnv]; exact hn)
  obtain ⟨ao', cap', rfl, hc'⟩ := hs'.shape
  have HM := hide hm
  have HN := hide hn
  have HNV := hide hnv
  clear hm hn ht' hnv
  go_enter Tryz.func184, Tryz.ntmps184
  go_wp2
  go_loopw [5, 6] (fun sv iv wr => ∃ (k S : Nat), k ≤ es.length ∧ iv = .int .i64 ((k : Int) - 1) ∧ NV wr sv S ∧ Hid (S = m * val (es.drop k)) ∧ Below w.heap.size w wr) (fun _ iv _ => (intOf iv + 1).toNat)
  case atStart => exact ⟨es.length, 0, Nat.le_refl _, rfl, NV.zero _, by rw [Hid, List.drop_of_length_le (Nat.le_refl _)]; simp [val], Below.refl _ _⟩
  case round =>
    obtain ⟨k, S, hk, rfl, hS, hSv, hbel⟩ := hrel
    obtain ⟨ss, hss, hsd, hst, hsv⟩ := hS
    obtain ⟨ap, kp, rfl, hsk⟩ := hss.shape
    have HSV := hide hsv
    clear hsv
    have hSle : Hid (S < 10000 ^ (K + K)) := by
      rw [Hid, hSv.out, Nat.pow_add]
      exact Nat.mul_lt_mul'' HM.out (Nat.lt_of_le_of_lt (val_drop_le es k hk) (by rw [HNV.out]; exact HN.out))
    have hsl := top_len hst (by rw [HSV.out]; exact hSle.out)
    cases k with
    | zero =>
      have hfin : S = m * n := by rw [hSv.out, List.drop_zero, HNV.out]
      have HF := hide hfin
      clear hfin
      go_wp2_with fail
      refine (trim_any _ _ ss hss (by omega)).mono ?_
      rintro e w3 ⟨⟨x, rfl, hx⟩, rfl⟩
      go_wp2
      go_ret
      exact ⟨x, rfl, nv_trim hx hsd (by rw [HSV.out, HF.out]), hbel⟩
    | succ k =>
      obtain ⟨b', off', rfl, hb', hrow'⟩ := hs'.row (by intro e; simp [e] at hk)
      have hck' := (hbel.cell (p := ⟨b', off' + k, none⟩) hb').trans (hrow' k (by omega))
      have hdk' := hd'.get k
      have hdrop := val_drop es k (by omega)
      have hdle := val_drop_le es k (by omega)
      have HST : Hid (10000 * S + m * es.getD k 0 = m * val (es.drop k)) := by rw [Hid, hdrop]; exact prod_step m _ S _ hSv.out
      have HB : Hid (m * val (es.drop k) < 10000 ^ (K + K)) := by
        rw [Hid, Nat.pow_add]
        exact Nat.mul_lt_mul'' HM.out (Nat.lt_of_le_of_lt hdle (by rw [HNV.out]; exact HN.out))
      have hu2 := hu.below hbel
      generalize es.getD k 0 = y at *
      clear hdrop hdle hSle hrow'
      by_cases hse : ss = []
      · subst hse
        have hS0 : S = 0 := by rw [← HSV.out]; rfl
        go_wp2_with (at_builtin; refine append_sl rfl _ _ rfl wr.heap.size (Nat.le_refl _) none 0 [] rfl (World.ownsRow_nil _ _ _ _) _ [] rfl hss (by simp) ?_)
        intro ap' kp' w4 hown4 hbb
        have hb4 := hbb wr.heap.size wr (Below.refl _ _) (Nat.le_refl _)
        have ht4 : NV w4 (.slice ap' ([] ++ []).length kp') (10000 * S) := ⟨[], sl_of_owns hown4, fun d hd => by simp at hd, fun k h => by simp at h, by rw [hS0]; rfl⟩
        clear hbb hown4
        have hck4 := (hb4.cell (p := ⟨b', off' + k, none⟩) (Nat.lt_of_lt_of_le hb' hbel.size)).trans hck'
        have hu4 := hu2.below hb4
        have hbel4 := hbel.trans (hb4.mono hbel.size)
        clear hb4 hck' hu2 hss
        go_wp2_with fail
        refine (times_any _ _ m y K hu4 hdk' HM.out (by omega)).mono ?_
        rintro e w5 ⟨xv, rfl, hxv, hb5⟩
        have ht5 := ht4.below hb5
        have hbel5 := hbel4.trans (hb5.mono hbel4.size)
        clear hb5 ht4 hbel4 hck4
        go_wp2_with fail
        refine (plus_any _ _ _ (10000 * S) (m * y) (K + K) ht5 hxv (by have h1 := HST.out; have h2 := HB.out; omega) (by have h1 := HST.out; have h2 := HB.out; omega) (by omega)).mono ?_
        rintro e w6 ⟨sv, rfl, hsv, hb6⟩
        have hbel6 := hbel5.trans (hb6.mono hbel5.size)
        clear hb6 ht5 hxv hbel5
        go_wp2
        go_roundw
        case rel => exact ⟨k, _, by omega, by go_num, hsv, HST, hbel6⟩
        case measure => simp [intOf]
      · have hsp : (0 : Int) < (ss.length : Int) := by have := List.length_pos_iff.2 hse; omega
        go_wp2_with (at_builtin; refine wpList_append_own _ rfl _ _ 35 rfl wr.heap.size 3 i0 (.int .i64 0) 1 8 Tryz.underlying35 hi hz0 hz1 hz2 rfl (by decide) (.slice none 0 0) 0 [] rfl (World.ownsRow_nil _ _ _ _) ⟨wr.heap.size, 0, none⟩ 1 1 [.int .i64 0] rfl rfl (cell_one_new _ _ _) ?c2 (by unfold maxLen; omega) (by omega) (by simp) ?_)
        case c2 => first | rfl | (intro u hu; simp at hu; subst hu; rfl)
        intro v3 w3 hown3 hgrow hnn
        obtain ⟨g3, cap3, hvv, _⟩ := owns_parts (ds := [0]) hown3 hnn
        subst hvv
        have hb3 : Below wr.heap.size wr w3 := ((Below.refl _ _).alloc (Nat.le_refl _) _).grown hgrow (by simp) (fun k h => by simp [Value.ownBlock] at h)
        have hss3 := hss.below hb3
        clear hgrow hnn
        go_wp2_with (at_builtin; refine append_sl rfl _ _ rfl wr.heap.size hb3.size (some ⟨g3, 0, none⟩) cap3 [0] rfl hown3 _ ss rfl hss3 (by simp; omega) ?_)
        intro ap' kp' w4 hown4 hbb
        have hb4 := hbb wr.heap.size wr hb3 (Nat.le_refl _)
        have ht4 := nv_shift (sl_of_owns hown4) hsd hst hse HSV.out
        clear hbb hown4 hown3 hb3 hss3
        have hck4 := (hb4.cell (p := ⟨b', off' + k, none⟩) (Nat.lt_of_lt_of_le hb' hbel.size)).trans hck'
        have hu4 := hu2.below hb4
        have hbel4 := hbel.trans (hb4.mono hbel.size)
        clear hb4 hck' hu2 hss
        go_wp2_with fail
        refine (times_any _ _ m y K hu4 hdk' HM.out (by omega)).mono ?_
        rintro e w5 ⟨xv, rfl, hxv, hb5⟩
        have ht5 := ht4.below hb5
        have hbel5 := hbel4.trans (hb5.mono hbel4.size)
        clear hb5 ht4 hbel4 hck4
        go_wp2_with fail
        refine (plus_any _ _ _ (10000 * S) (m * y) (K + K) ht5 hxv (by have h1 := HST.out; have h2 := HB.out; omega) (by have h1 := HST.out; have h2 := HB.out; omega) (by omega)).mono ?_
        rintro e w6 ⟨sv, rfl, hsv, hb6⟩
        have hbel6 := hbel5.trans (hb6.mono hbel5.size)
        clear hb6 ht5 hxv hbel5
        go_wp2
        go_roundw
        case rel => exact ⟨k, _, by omega, by go_num, hsv, HST, hbel6⟩
        case measure => simp [intOf]
end Go.Proofs.YtnhfdcfnojnofaaGreatDoor.T
