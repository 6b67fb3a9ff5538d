/-
  Part 10 of the texts ahead of Pls1: Tr1, Tr2.
-/
import Derived.Test.YtnhfdcfnojnofaaGreatDoorPls1Z9
import Derived.Test.YtnhfdcfnojnofaaGreatDoorPls1Z3
import Derived.Test.YtnhfdcfnojnofaaGreatDoorPls1Z4
set_option linter.unusedSimpArgs false
set_option linter.unusedVariables false
/-
  What the document's own trim, compare do (package planesref).
-/
namespace Go.Proofs.YtnhfdcfnojnofaaGreatDoor.T
open Go.RowKit

/-- The block is one of whole numbers. -/
def Kind (w : World) (g : Nat) : Prop := ∃ c fr, w.heap[g]? = some (.cells c 3 fr)

theorem Kind.below {w w' : World} {g B : Nat} (h : Kind w g) (hb : Below B w w') (hB : g < B) : Kind w' g := by
  obtain ⟨c, fr, h⟩ := h
  exact ⟨c, fr, (hb.block g hB).trans h⟩

theorem Kind.setCell {w : World} {g : Nat} (h : Kind w g) (a : Addr) (x : Value) : Kind (w.setCell a x) g := by
  obtain ⟨c, fr, h⟩ := h
  by_cases hg : g = a.block
  · subst hg
    unfold Kind World.setCell
    simp only [Array.getElem?_modify, if_true, h, Option.map_some]
    exact ⟨_, _, rfl⟩
  · exact ⟨c, fr, (Below.heap_setCell w a x g hg).trans h⟩

/-- A slice value that holds the places ds. -/
def Sl (w : World) (v : Value) (ds : List Nat) : Prop :=
  (v = .slice none 0 0 ∧ ds = []) ∨ ∃ g off cap, v = .slice (some ⟨g, off, none⟩) ds.length cap ∧ ds.length ≤ cap ∧ g < w.heap.size ∧ Row w g off ds ∧ Kind w g

/-- A slice value that stands for a number. -/
def NV (w : World) (v : Value) (n : Nat) : Prop := ∃ ds, Sl w v ds ∧ Dig ds ∧ Top ds ∧ val ds = n

theorem Sl.below {w w' : World} {v : Value} {ds : List Nat} (h : Sl w v ds) (hb : Below w.heap.size w w') : Sl w' v ds := by
  rcases h with h | ⟨g, off, cap, h1, h2, h3, h4, h5⟩
  · exact Or.inl h
  · exact Or.inr ⟨g, off, cap, h1, h2, Nat.lt_of_lt_of_le h3 hb.size, h4.below hb h3, h5.below hb h3⟩

theorem NV.below {w w' : World} {v : Value} {n : Nat} (h : NV w v n) (hb : Below w.heap.size w w') : NV w' v n := by
  obtain ⟨ds, h1, h2⟩ := h
  exact ⟨ds, h1.below hb, h2⟩

theorem Sl.alloc {w : World} {v : Value} {ds : List Nat} (h : Sl w v ds) (o : Obj) : Sl (w.alloc o) v ds := h.below ((Below.refl _ _).alloc (Nat.le_refl _) _)
theorem NV.alloc {w : World} {v : Value} {n : Nat} (h : NV w v n) (o : Obj) : NV (w.alloc o) v n := h.below ((Below.refl _ _).alloc (Nat.le_refl _) _)
theorem NV.drew {w : World} {v : Value} {n : Nat} (h : NV w v n) : NV w.drew v n := h
theorem NV.drewN {w : World} {v : Value} {n : Nat} (h : NV w v n) (q : Nat) : NV (w.drewN q) v n := h

theorem Sl.shape {w : World} {v : Value} {ds : List Nat} (h : Sl w v ds) : ∃ ao cap, v = .slice ao ds.length cap ∧ ds.length ≤ cap := by
  rcases h with ⟨rfl, rfl⟩ | ⟨g, off, cap, rfl, h2, _⟩
  · exact ⟨none, 0, rfl, Nat.le_refl _⟩
  · exact ⟨_, _, rfl, h2⟩

theorem Sl.row {w : World} {ao : Option Addr} {l cap : Nat} {ds : List Nat} (h : Sl w (.slice ao l cap) ds) (hne : ds ≠ []) : ∃ g off, ao = some ⟨g, off, none⟩ ∧ g < w.heap.size ∧ Row w g off ds := by
  rcases h with ⟨h, rfl⟩ | ⟨g, off, cap', h1, h2, h3, h4, _⟩
  · exact absurd rfl hne
  · simp only [Value.slice.injEq] at h1
    obtain ⟨rfl, _, _⟩ := h1
    exact ⟨g, off, rfl, h3, h4⟩

set_option maxHeartbeats 400000 in
set_option maxRecDepth 100000 in
theorem trim_any (w : World) (v : Value) (ds : List Nat) (hv : Sl w v ds) (hm : ds.length ≤ 140737488355328) :
    Calls Tryz.prog 293 #[v] w fun e w' => (∃ x, e = .returned x ∧ Sl w' x (ds.take (trimL ds ds.length))) ∧ w' = w := by
  rcases hv with ⟨rfl, rfl⟩ | ⟨b, off, cap, rfl, hc, hb, hrow, hkd⟩
  · go_enter Tryz.func293, Tryz.ntmps293
    go_wp2
    go_loop [3] (fun v => v = .int .i64 0) (fun v => (intOf v).toNat)
    case atStart => rfl
    case round =>
      subst hrel
      go_wp2
      go_ret
      exact ⟨⟨_, rfl, Or.inl ⟨rfl, rfl⟩⟩, rfl⟩
  · go_enter Tryz.func293, Tryz.ntmps293
    go_wp2
    go_loop [3] (fun v => ∃ k : Nat, k ≤ ds.length ∧ Hid (trimL ds ds.length = trimL ds k) ∧ v = .int .i64 (k : Nat)) (fun v => (intOf v).toNat)
    case atStart => exact ⟨ds.length, Nat.le_refl _, rfl, rfl⟩
    case round =>
      obtain ⟨k, hk, ht, rfl⟩ := hrel
      have hfin : ∀ j, trimL ds ds.length = j → j = k → Sl w (.slice (some ⟨b, off, none⟩) k cap) (ds.take (trimL ds ds.length)) := by
        intro j h1 h2
        subst h2
        rw [h1]
        exact Or.inr ⟨b, off, cap, by rw [List.length_take, Nat.min_eq_left hk], by rw [List.length_take]; omega, hb, hrow.take _, hkd⟩
      have HF := hide hfin
      clear hfin
      cases k with
      | zero =>
        go_wp2
        go_ret
        exact ⟨⟨_, rfl, HF.out 0 ht.out rfl⟩, rfl⟩
      | succ k =>
        have hck := hrow k (by omega)
        by_cases hz : ds.getD k 0 = 0
        · rw [hz] at hck
          have HZ : Hid (ds.getD k 0 = 0) := hz
          clear hz HF
          go_wp2
          go_round
          case rel => exact ⟨k, by omega, by rw [Hid, ht.out, trimL, if_pos HZ.out], by go_num⟩
          case measure => simp [intOf]
        · have hz2 : ((ds.getD k 0 : Nat) : Int) ≠ 0 := by omega
          generalize hx : ((ds.getD k 0 : Nat) : Int) = x at hck hz2
          clear hx
          have HZ : Hid (¬ ds.getD k 0 = 0) := hz
          clear hz
          go_wp2
          go_ret
          exact ⟨⟨_, rfl, HF.out (k + 1) (by rw [ht.out, trimL, if_neg HZ.out]) rfl⟩, rfl⟩

/-- What trim leaves is a number. -/
theorem nv_trim {w : World} {v : Value} {ds : List Nat} {n : Nat} (h : Sl w v (ds.take (trimL ds ds.length))) (hd : Dig ds) (hn : val ds = n) : NV w v n :=
  ⟨_, h, hd.take _, top_trimL _ _ (Nat.le_refl _), by rw [val_trimL _ _ (Nat.le_refl _), List.take_of_length_le (Nat.le_refl _), hn]⟩

set_option maxHeartbeats 800000 in
set_option maxRecDepth 100000 in
theorem compare_any (w : World) (u v : Value) (m n K : Nat) (hu : NV w u m) (hv : NV w v n) (hm : m < 10000 ^ K) (hn : n < 10000 ^ K) (hK : K ≤ 1073741824) :
    Calls Tryz.prog 186 #[u, v] w fun e w' => e = .returned (.int .i64 (cmpI m n)) ∧ ∃ q, w' = w.drewN q := by
  obtain ⟨ds, hs, hd, ht, rfl⟩ := hu
  obtain ⟨es, hs', hd', ht', rfl⟩ := hv
  have hl := top_len ht hm
  have hl' := top_len ht' hn
  obtain ⟨ao, cap, rfl, hc⟩ := hs.shape
  obtain ⟨ao', cap', rfl, hc'⟩ := hs'.shape
  rcases Nat.lt_trichotomy ds.length es.length with he | he | he
  · have HC : Hid (cmpI (val ds) (val es) = -1) := cmpI_lt (top_lt_of_len hd ht' he)
    have he2 : (ds.length : Int) < (es.length : Int) := by omega
    go_enter Tryz.func186, Tryz.ntmps186
    go_wp2
    go_ret
    exact ⟨ret_int HC.out.symm, 0, rfl⟩
  · have HE : Hid (ds.length = es.length) := he
    clear hm hn ht ht'
    rw [← he]
    rw [← he] at hc' hl'
    go_enter Tryz.func186, Tryz.ntmps186
    go_wp2
    go_loopw [5] (fun i wr => ∃ k : Nat, k ≤ ds.length ∧ i = .int .i64 ((k : Int) - 1) ∧ Hid (ds.drop k = es.drop k) ∧ ∃ q, wr = w.drewN q) (fun i _ => (intOf i + 1).toNat)
    case atStart => exact ⟨ds.length, Nat.le_refl _, by rw [HE.out], by rw [Hid, List.drop_of_length_le (Nat.le_refl _), List.drop_of_length_le (by rw [HE.out]; exact Nat.le_refl _)], 0, rfl⟩
    case round =>
      obtain ⟨k, hk, rfl, hdr, q, rfl⟩ := hrel
      cases k with
      | zero =>
        go_wp2
        go_ret
        refine ⟨ret_int ?_, q, rfl⟩
        rw [cmpI_eq (by rw [← List.drop_zero (l := ds), hdr.out, List.drop_zero])]
      | succ k =>
        obtain ⟨b, off, rfl, hb, hrow⟩ := hs.row (by intro e; simp [e] at hk)
        obtain ⟨b', off', rfl, hb', hrow'⟩ := hs'.row (by intro e; rw [Hid, e] at HE; simp at HE; simp [HE] at hk)
        have hkk : k < es.length := by have := HE.out; omega
        have hck := hrow k (by omega)
        have hck' := hrow' k hkk
        have hdk := hd.get k
        have hdk' := hd'.get k
        have hi1 : (0 : Int) ≤ (k : Int) := by omega
        have hi2 : ((k : Int)).toNat = k := by omega
        have hi3 : (k : Int) < (ds.length : Int) := by omega
        have H1 : Hid (ds.getD k 0 < es.getD k 0 → val ds < val es) := fun h => val_lt_at hd HE.out k (by omega) hdr.out h
        have H2 : Hid (es.getD k 0 < ds.getD k 0 → val es < val ds) := fun h => val_lt_at hd' HE.out.symm k (by omega) hdr.out.symm h
        have H3 : Hid (ds.getD k 0 = es.getD k 0 → ds.drop k = es.drop k) := fun h => drop_eq_of HE.out k (by omega) hdr.out h
        clear hrow hrow' hs hs'
        generalize ds.getD k 0 = x at *
        generalize es.getD k 0 = y at *
        rcases Nat.lt_trichotomy x y with hxy | hxy | hxy
        · have HC : Hid (cmpI (val ds) (val es) = -1) := cmpI_lt (H1.out hxy)
          have hxy2 : (x : Int) < (y : Int) := by omega
          clear H1 H2 H3
          go_wp2
          go_region
          all_goals go_wp2
          go_ret
          exact ⟨ret_int HC.out.symm, q + 1, rfl⟩
        · have H4 : Hid (ds.drop k = es.drop k) := H3.out hxy
          subst hxy
          clear H1 H2 H3
          go_wp2
          go_region
          all_goals go_wp2
          go_region
          all_goals go_wp2
          go_roundw
          case rel => exact ⟨k, by omega, by go_num, H4, q + 1 + 1, rfl⟩
          case measure => simp [intOf]
        · have HC : Hid (cmpI (val ds) (val es) = 1) := cmpI_gt (H2.out hxy)
          have hxy2 : (y : Int) < (x : Int) := by omega
          clear H1 H2 H3
          go_wp2
          go_region
          all_goals go_wp2
          go_region
          all_goals go_wp2
          go_ret
          exact ⟨ret_int HC.out.symm, q + 1 + 1, rfl⟩
  · have HC : Hid (cmpI (val ds) (val es) = 1) := cmpI_gt (top_lt_of_len hd' ht he)
    have he2 : (es.length : Int) < (ds.length : Int) := by omega
    go_enter Tryz.func186, Tryz.ntmps186
    go_wp2
    go_ret
    exact ⟨ret_int HC.out.symm, 0, rfl⟩
end Go.Proofs.YtnhfdcfnojnofaaGreatDoor.T

/-
  What the document's own plus, times, less do (package planesref).
-/
namespace Go.Proofs.YtnhfdcfnojnofaaGreatDoor.T
open Go.RowKit

theorem Tryz.infoInt : (Tryz.prog.info? 3).map (fun i => (i.zero, i.size, i.bytes)) = some (some (.int .i64 0), 1, 8) := by kernel_rfl

theorem tmod_nat (C : Nat) : Int.tmod (C : Int) 10000 = ((C % 10000 : Nat) : Int) := by rw [Int.tmod_eq_emod_of_nonneg (by omega)]; rfl
theorem tdiv_nat (C : Nat) : Int.tdiv (C : Int) 10000 = ((C / 10000 : Nat) : Int) := by rw [Int.tdiv_eq_ediv_of_nonneg (by omega)]; rfl

theorem pow_split (P C : Nat) : P * 10000 * (C / 10000) + P * (C % 10000) = P * C := by
  rw [Nat.mul_assoc, ← Nat.mul_add, Nat.div_add_mod]

theorem val_one (x : Nat) : val [x] = x := by simp [val]

theorem plus_step {os ds es : List Nat} {k c C : Nat} (hk : os.length = k) (hi : val os + 10000 ^ k * c = val (ds.take k) + val (es.take k)) (hC : C = c + ds.getD k 0 + es.getD k 0) :
    val (os ++ [C % 10000]) + 10000 ^ (k + 1) * (C / 10000) = val (ds.take (k + 1)) + val (es.take (k + 1)) := by
  have h1 := pow_split (10000 ^ k) C
  rw [val_append, hk, val_one, val_take_any, val_take_any, Nat.pow_succ]
  rw [hC, Nat.mul_add, Nat.mul_add] at h1
  rw [← hC] at h1
  omega

theorem times_step {os ds : List Nat} {k c C n : Nat} (hk : os.length = k) (hi : val os + 10000 ^ k * c = val (ds.take k) * n) (hC : C = c + ds.getD k 0 * n) :
    val (os ++ [C % 10000]) + 10000 ^ (k + 1) * (C / 10000) = val (ds.take (k + 1)) * n := by
  have h1 := pow_split (10000 ^ k) C
  rw [val_append, hk, val_one, val_take_any, Nat.pow_succ, Nat.add_mul, Nat.mul_assoc (10000 ^ k) (ds.getD k 0) n]
  rw [hC, Nat.mul_add] at h1
  rw [← hC] at h1
  omega

theorem less_step {os ds es : List Nat} {k c c' d : Nat} (hk : os.length = k) (hi : val os + val (es.take k) = val (ds.take k) + 10000 ^ k * c) (hd : d + es.getD k 0 + c = ds.getD k 0 + 10000 * c') :
    val (os ++ [d]) + val (es.take (k + 1)) = val (ds.take (k + 1)) + 10000 ^ (k + 1) * c' := by
  have h1 : 10000 ^ k * (d + es.getD k 0 + c) = 10000 ^ k * (ds.getD k 0 + 10000 * c') := by rw [hd]
  rw [val_append, hk, val_one, val_take_any, val_take_any, Nat.pow_succ]
  rw [Nat.mul_add, Nat.mul_add, Nat.mul_add, ← Nat.mul_assoc] at h1
  omega

theorem dig_snoc {os : List Nat} {x : Nat} (h : Dig os) (hx : x < 10000) : Dig (os ++ [x]) := h.append (fun d hd => by simp at hd; omega)

theorem top_of_ge {ds : List Nat} (hd : Dig ds) (h : ∀ k, ds.length = k + 1 → 10000 ^ k ≤ val ds) : Top ds := by
  intro k hk h0
  have h1 := h k hk
  have h2 := val_take_any ds k
  rw [List.take_of_length_le (by omega), h0, Nat.mul_zero, Nat.add_zero] at h2
  have h3 := val_lt (hd.take k)
  rw [List.length_take, Nat.min_eq_left (by omega)] at h3
  omega

theorem take_all {ds : List Nat} {k : Nat} (h : ds.length ≤ k) : ds.take k = ds := List.take_of_length_le h

/-- A row of one's own is a slice of places. -/
theorem sl_of_owns {w : World} {base : Nat} {ap : Option Addr} {kp : Nat} {os : List Nat} (h : w.ownsRow base 3 1 (.slice ap os.length kp) os.length (os.map encD)) : Sl w (.slice ap os.length kp) os := by
  by_cases hn : Value.slice ap os.length kp = .slice none 0 0
  · left
    refine ⟨hn, ?_⟩
    simp only [Value.slice.injEq] at hn
    exact List.length_eq_zero_iff.1 hn.2.1
  · have hk : ∀ g, ap = some ⟨g, 0, none⟩ → Kind w g := by
      intro g hg
      obtain ⟨_, h1 | ⟨g', cap, cur, hv, _, hh, _⟩⟩ := h
      · exact absurd h1.1 hn
      · simp only [Value.slice.injEq] at hv
        rw [hg] at hv
        simp only [Option.some.injEq, Addr.mk.injEq, and_true] at hv
        rw [hv.1]
        exact ⟨_, _, hh⟩
    obtain ⟨g2, cap2, hvv, hn2, _, hg2, hrow2, _⟩ := owns_parts h hn
    simp only [Value.slice.injEq] at hvv
    obtain ⟨rfl, _, rfl⟩ := hvv
    exact Or.inr ⟨g2, 0, _, rfl, hn2, hg2, hrow2, hk g2 rfl⟩

theorem sl_empty (w : World) : Sl w (.slice none 0 0) [] := Or.inl ⟨rfl, rfl⟩

theorem grown_snoc {w wr w3 : World} {ap : Option Addr} {kp : Nat} {os : List Nat} {z : Int} {x : Nat} {v3 : Value} {o : Obj} (hown : wr.ownsRow w.heap.size 3 1 (.slice ap os.length kp) os.length (os.map encD)) (hbel : Below w.heap.size w wr)
    (hown3 : w3.ownsRow w.heap.size 3 1 v3 (os.length + 1) (os.map encD ++ [.int .i64 z])) (hgrow : (wr.alloc o).grownBy w3 (Value.slice ap os.length kp).ownBlock) (hnn : v3 ≠ .slice none 0 0) (hz : z = (x : Int)) :
    ∃ os', os' = os ++ [x] ∧ os'.length = os.length + 1 ∧ ∃ cap3 g3, v3 = .slice (some ⟨g3, 0, none⟩) os'.length cap3 ∧ w3.ownsRow w.heap.size 3 1 (.slice (some ⟨g3, 0, none⟩) os'.length cap3) os'.length (os'.map encD) ∧ Below w.heap.size w w3 := by
  subst hz
  have e : os.map encD ++ [Value.int .i64 (x : Int)] = (os ++ [x]).map encD := by simp [encD]
  rw [e] at hown3
  obtain ⟨g3, cap3, hvv, hn3, hg3, hgl3, _, _⟩ := owns_parts hown3 hnn
  subst hvv
  refine ⟨_, rfl, by simp, cap3, g3, by simp, ?_, ?_⟩
  · rw [show (os ++ [x]).length = os.length + 1 by simp]; exact hown3
  · exact (hbel.alloc hbel.size _).grown hgrow (by have := hbel.size; simp; omega) (fun k h => (hown.lt k h).1)

set_option maxHeartbeats 2000000 in
set_option maxRecDepth 100000 in
theorem times_any (w : World) (v : Value) (m n K : Nat) (hv : NV w v m) (hn : n < 10000) (hm : m < 10000 ^ K) (hK : K ≤ 1000000000) :
    Calls Tryz.prog 294 #[v, .int .i64 (n : Nat)] w fun e w' => ∃ x, e = .returned x ∧ NV w' x (m * n) ∧ Below w.heap.size w w' := by
  obtain ⟨ds, hs, hd, ht, rfl⟩ := hv
  have hl := top_len ht hm
  obtain ⟨ao, cap, rfl, hc⟩ := hs.shape
  obtain ⟨i0, hi, hz0, hz1, hz2⟩ := info_parts Tryz.infoInt
  clear hm
  go_enter Tryz.func294, Tryz.ntmps294
  go_wp2
  go_loopw [5, 6, 7] (fun ov cv iv wr => ∃ (c : Nat) (os : List Nat) (ap : Option Addr) (kp : Nat), ov = .slice ap os.length kp ∧ cv = .int .i64 (c : Nat) ∧ iv = .int .i64 (os.length : Nat) ∧ c < 10000 ∧ os.length ≤ ds.length + 1 ∧ (ds.length < os.length → c = 0) ∧
      wr.ownsRow w.heap.size 3 1 (.slice ap os.length kp) os.length (os.map encD) ∧ Dig os ∧ Hid (val os + 10000 ^ os.length * c = val (ds.take os.length) * n) ∧ Below w.heap.size w wr) (fun _ _ iv _ => ((ds.length : Int) + 2 - intOf iv).toNat)
  case atStart => exact ⟨0, [], none, 0, rfl, rfl, rfl, by omega, by simp, fun _ => rfl, World.ownsRow_nil _ _ _ _, fun d hd => by simp at hd, by simp [Hid, val], Below.refl _ _⟩
  case round =>
    obtain ⟨c, os, ap, kp, rfl, rfl, rfl, hc1, hol, hoc, hown, hod, hov, hbel⟩ := hrel
    by_cases hk : os.length < ds.length
    · obtain ⟨b, off, rfl, hb, hrow⟩ := hs.row (by intro e; rw [e] at hk; simp at hk)
      have hck := (hbel.cell (p := ⟨b, off + os.length, none⟩) hb).trans (hrow os.length hk)
      have hdk := hd.get os.length
      obtain ⟨C, hC⟩ : ∃ C, C = c + ds.getD os.length 0 * n := ⟨_, rfl⟩
      have HST := hide (times_step rfl hov.out hC)
      generalize ds.getD os.length 0 = x at *
      have hmb : x * n ≤ 9999 * 9999 := Nat.mul_le_mul (by omega) (by omega)
      have hm0 : (0 : Int) ≤ (x : Int) * (n : Int) := by rw [← Int.natCast_mul]; omega
      have hm1 : (x : Int) * (n : Int) ≤ 99980001 := by rw [← Int.natCast_mul]; omega
      have hC2 : (c : Int) + (x : Int) * (n : Int) = (C : Int) := by rw [hC]; simp
      have hCb : C < 100000000 := by omega
      have HC2 := hide hC2
      have e1 := tmod_nat C
      have e2 := tdiv_nat C
      have hq : C / 10000 < 10000 := by omega
      have hr : C % 10000 < 10000 := by omega
      have E1 := hide e1
      have E2 := hide e2
      have hCm : ((c : Int) + (x : Int) * (n : Int)) % 10000 = ((C % 10000 : Nat) : Int) := by rw [hC2]; rfl
      have HCM := hide hCm
      have HCD : Hid (((c : Int) + (x : Int) * (n : Int)) / 10000 = ((C / 10000 : Nat) : Int)) := by rw [Hid, hC2]; rfl
      clear hmb hC hC2 hov e1 e2 hCm
      go_wp2_with (at_builtin; refine wpList_append_own _ rfl _ _ 35 rfl w.heap.size 3 i0 (.int .i64 0) 1 8 Tryz.underlying35 hi hz0 hz1 hz2 rfl (by decide) (.slice ap os.length kp) os.length (os.map encD) rfl (hown.alloc _) ⟨wr.heap.size, 0, none⟩ 1 1 [.int .i64 (((c : Int) + (x : Int) * (n : Int)) % 10000)] rfl rfl ?c1 ?c2 (by unfold maxLen; omega) (by omega) (by have := hbel.size; simp; omega) ?_)
      case c1 => exact cell_one_new _ _ _
      case c2 => intro u hu; simp at hu; subst hu; rfl
      intro v3 w3 hown3 hgrow hnn
      obtain ⟨os', hos', hol', cap3, g3, rfl, hown4, hb3⟩ := grown_snoc hown hbel hown3 hgrow hnn HCM.out
      go_wp2
      go_roundw
      case rel =>
        refine ⟨C / 10000, os', _, cap3, rfl, by rw [HCD.out], by rw [hol']; simp, hq, by omega, by intro h; omega, hown4, by rw [hos']; exact dig_snoc hod hr, ?_, hb3⟩
        rw [Hid, hol', hos']
        exact HST.out
      case measure => simp [intOf]; omega
    · by_cases hc0 : c = 0
      · subst hc0
        have hfin : val os = val ds * n := by
          have := hov.out
          rw [take_all (by omega), Nat.mul_zero, Nat.add_zero] at this
          exact this
        have HF := hide hfin
        clear hfin hov
        go_wp2_with fail
        refine (trim_any _ _ os (sl_of_owns hown) (by omega)).mono ?_
        rintro e w3 ⟨⟨x, rfl, hx⟩, rfl⟩
        go_wp2
        go_ret
        exact ⟨x, rfl, nv_trim hx hod HF.out, hbel⟩
      · have hle : os.length ≤ ds.length := by
          by_cases h : ds.length < os.length
          · exact absurd (hoc h) hc0
          · omega
        have hst := times_step (n := n) (C := c) rfl hov.out (by rw [getD_none _ _ (by omega)]; omega)
        have hcz : (0 : Int) < (c : Int) := by omega
        have HCM : Hid ((c : Int) % 10000 = ((c % 10000 : Nat) : Int)) := by rw [Hid]; rfl
        have HCD : Hid ((c : Int) / 10000 = ((c / 10000 : Nat) : Int)) := by rw [Hid]; rfl
        have HST := hide hst
        clear hst hov hoc
        go_wp2_with (at_builtin; refine wpList_append_own _ rfl _ _ 35 rfl w.heap.size 3 i0 (.int .i64 0) 1 8 Tryz.underlying35 hi hz0 hz1 hz2 rfl (by decide) (.slice ap os.length kp) os.length (os.map encD) rfl (hown.alloc _) ⟨wr.heap.size, 0, none⟩ 1 1 [.int .i64 ((c : Int) % 10000)] rfl rfl ?c1 ?c2 (by unfold maxLen; omega) (by omega) (by have := hbel.size; simp; omega) ?_)
        case c1 => exact cell_one_new _ _ _
        case c2 => intro u hu; simp at hu; subst hu; rfl
        intro v3 w3 hown3 hgrow hnn
        obtain ⟨os', hos', hol', cap3, g3, rfl, hown4, hb3⟩ := grown_snoc hown hbel hown3 hgrow hnn HCM.out
        go_wp2
        go_roundw
        case rel =>
          refine ⟨c / 10000, os', _, cap3, rfl, by rw [HCD.out], by rw [hol']; simp, by omega, by omega, by intro h; omega, hown4, by rw [hos']; exact dig_snoc hod (by omega), ?_, hb3⟩
          rw [Hid, hol', hos']
          exact HST.out
        case measure => simp [intOf]; omega
end Go.Proofs.YtnhfdcfnojnofaaGreatDoor.T
