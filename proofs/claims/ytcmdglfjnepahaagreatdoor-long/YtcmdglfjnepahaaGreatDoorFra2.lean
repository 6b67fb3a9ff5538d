/-
  What package fraction does: reduced.
-/
import Derived.Test.YtcmdglfjnepahaaGreatDoorFra1
set_option linter.unusedSimpArgs false
set_option linter.unusedVariables false
namespace Go.Proofs.YtcmdglfjnepahaaGreatDoor
open Go.RowKit

theorem Box3.far {w : World} {g h o : Nat} {x y z u : Value} (b : Box3 w g x y z) (hne : h ≠ g) : Box3 (w.setCell ⟨h, o, none⟩ u) g x y z := by
  obtain ⟨h1, h2, h3, h4, h5, h6, h7⟩ := b
  exact ⟨by rw [Go.Proofs.YtcmdglfjnepahaaGreatDoor.far hne]; exact h1, by rw [Go.Proofs.YtcmdglfjnepahaaGreatDoor.far hne]; exact h2, by rw [Go.Proofs.YtcmdglfjnepahaaGreatDoor.far hne]; exact h3, by simpa using h4, by simpa using h5, by simpa using h6, by simpa using h7⟩

theorem FracV.whole {w : World} {x : Value} {p : Int} {q : Nat} (h : FracV w x p q) : ∃ b v u, x = .agg #[.bool b, v, u] ∧ WholeV w (.agg #[.bool b, v]) p := by
  obtain ⟨b, v, u, h1, h2, h3, _⟩ := h
  exact ⟨b, v, u, h1, b, v, rfl, h2, h3⟩

theorem gcd_low {z : Int} {n : Nat} (hn : n ≠ 0) : 0 < Nat.gcd z.natAbs n ∧ 0 < n / Nat.gcd z.natAbs n ∧ Nat.gcd (z / (Nat.gcd z.natAbs n : Int)).natAbs (n / Nat.gcd z.natAbs n) = 1 := by
  have h1 : 0 < Nat.gcd z.natAbs n := Nat.gcd_pos_of_pos_right _ (Nat.pos_of_ne_zero hn)
  refine ⟨h1, Nat.div_pos (Nat.le_of_dvd (Nat.pos_of_ne_zero hn) (Nat.gcd_dvd_right _ _)) h1, ?_⟩
  have h2 : (z / (Nat.gcd z.natAbs n : Int)).natAbs = z.natAbs / Nat.gcd z.natAbs n := by
    rw [Int.natAbs_ediv_of_dvd]
    · simp
    · exact Int.ofNat_dvd_left.2 (Nat.gcd_dvd_left _ _)
  rw [h2]
  rw [Nat.gcd_div (Nat.gcd_dvd_left _ _) (Nat.gcd_dvd_right _ _), Nat.div_self h1]

set_option maxRecDepth 100000 in
set_option maxHeartbeats 1000000 in
theorem reduced_any (K : Nat) (hK : K ≤ 1073741822) (hO : OverOK K) (w : World) (x v : Value) (z : Int) (n : Nat) (h : WholeV w x z) (hv : NatV w v n) (hn : n ≠ 0) (hz : z.natAbs < 4294967296 ^ K) (hnk : n < 4294967296 ^ K) :
    Calls Tryz.prog 45 #[x, v] w fun e w' => ∃ s, e = .returned s ∧ FracV w' s (z / (Nat.gcd z.natAbs n : Int)) (n / Nat.gcd z.natAbs n) ∧ Below w.heap.size w w' := by
  have h0 := h
  obtain ⟨b, ao, l, cap, rfl, hx, hb⟩ := h.parts
  obtain ⟨ao', l', cap', rfl⟩ := hv.slice
  have hbox2 : Box2 ((w.alloc (.cells #[.bool b, .slice ao l cap] 62)).alloc (.cells #[.bool false, .slice none 0 0, .slice none 0 0] 64)) w.heap.size (.bool b) (.slice ao l cap) := (Box2.new _ _ _ _).alloc _
  have hbox3 : Box3 ((w.alloc (.cells #[.bool b, .slice ao l cap] 62)).alloc (.cells #[.bool false, .slice none 0 0, .slice none 0 0] 64)) (w.heap.size + 1) (.bool false) (.slice none 0 0) (.slice none 0 0) := Box3.new1 _ _ _ _ _ _
  have hbW := below2 w (.cells #[.bool b, .slice ao l cap] 62) (.cells #[.bool false, .slice none 0 0, .slice none 0 0] 64)
  by_cases h1 : n = 1
  · subst h1
    have e1 : Nat.gcd z.natAbs 1 = 1 := Nat.gcd_one_right _
    rw [e1, Nat.div_self (by omega), Int.natCast_one, Int.ediv_one]
    go_enter Tryz.func45, Tryz.ntmps45
    go_wp2_with fail
    refine (isOne_yes _ _ ((hv.alloc _).alloc _)).mono ?_
    rintro e w' ⟨rfl, rfl⟩
    go_wp2_with fail
    refine (fof_any _ _ z ((h0.alloc _).alloc _)).mono ?_
    rintro e w2 ⟨s, rfl, hs, hbs⟩
    obtain ⟨b2, a2, l2, k2, a3, l3, k3, rfl, hp1, hp2, hp3, hp4, hp5⟩ := hs.parts
    have hbox := hbox3.below hbs
    have hbA : Below w.heap.size w w2 := hbW.trans (hbs.mono hbW.size)
    obtain ⟨c0, c1, c2, f0, f1, f2, g0⟩ := hbox
    clear hbs hs hbox2 hbox3
    go_wp2
    exact bodyPost_ret (v := .agg #[.bool b2, .slice a2 l2 k2, .slice a3 l3 k3]) (by simp [results, Tryz.results45, go_sem, c0, c1, c2]) rfl ⟨_, rfl, fracV_boxed hp1 hp2 hp3 hp4 hp5 c0 c1 c2,
      ((hbA.setCell (by simp) _).setCell (by simp) _).setCell (by simp) _⟩
  · obtain ⟨hg0, hg1, hg2⟩ := gcd_low (z := z) hn
    have hgle : Nat.gcd z.natAbs n ≤ n := Nat.le_of_dvd (Nat.pos_of_ne_zero hn) (Nat.gcd_dvd_right _ _)
    have hgk : Nat.gcd z.natAbs n < 4294967296 ^ K := Nat.lt_of_le_of_lt hgle hnk
    have hnd : lowN (n / Nat.gcd z.natAbs n) = if n / Nat.gcd z.natAbs n = 1 then 0 else n / Nat.gcd z.natAbs n := rfl
    generalize hgg : Nat.gcd z.natAbs n = g at *
    have HG := hide hgg
    have HG2 := hide hg2
    have HND := hide hnd
    clear hgg hg2 hnd
    go_enter Tryz.func45, Tryz.ntmps45
    go_wp2_with fail
    refine (isOne_no _ _ _ ((hv.alloc _).alloc _) h1).mono ?_
    rintro e w' ⟨rfl, rfl⟩
    go_wp2_with fail
    refine (size_any _ _ z ((h0.alloc _).alloc _)).mono ?_
    rintro e w2 ⟨sv, rfl, hs, hbs⟩
    go_wp2_with fail
    refine (gcd_any K (by omega) hO _ _ _ z.natAbs n hs (((hv.alloc _).alloc _).below hbs) hz hnk).mono ?_
    rintro e w3 ⟨gv, rfl, hgv, hbg⟩
    rw [HG.out] at hgv
    have hb23 : Below ((w.alloc (.cells #[.bool b, .slice ao l cap] 62)).alloc (.cells #[.bool false, .slice none 0 0, .slice none 0 0] 64)).heap.size ((w.alloc (.cells #[.bool b, .slice ao l cap] 62)).alloc (.cells #[.bool false, .slice none 0 0, .slice none 0 0] 64)) w3 := hbs.trans (hbg.mono hbs.size)
    have hv3 := ((hv.alloc _).alloc _).below hb23
    have hx3 := ((hx.alloc _).alloc _).below hb23
    have h03 := ((h0.alloc _).alloc _).below hb23
    have hbox23 := hbox2.below hb23
    have hbox33 := hbox3.below hb23
    have hb3 : Below w.heap.size w w3 := hbW.trans (hb23.mono hbW.size)
    clear hbs hbg hb23 hs hbox2 hbox3
    by_cases hg1' : g = 1
    · subst hg1'
      rw [Nat.div_one, Int.natCast_one, Int.ediv_one] at *
      obtain ⟨p0, p1, p2, p3, p4⟩ := hbox23
      obtain ⟨c0, c1, c2, f0, f1, f2, g0⟩ := hbox33
      go_wp2_with fail
      refine (isOne_yes _ _ hgv).mono ?_
      rintro e w4 ⟨rfl, rfl⟩
      go_wp2_with fail
      refine (isOne_no _ _ _ hv3 h1).mono ?_
      rintro e w5 ⟨rfl, rfl⟩
      go_wp2
      rw [if_neg h1] at HND
      exact bodyPost_ret (v := .agg #[.bool b, .slice ao l cap, .slice ao' l' cap']) (by simp [results, Tryz.results45, go_sem, c0, c1, c2]) rfl ⟨_, rfl, by rw [Int.natCast_one, Int.ediv_one, Nat.div_one]; exact fracV_boxed hx3 hb (by rw [HND.out]; exact hv3) hg1 HG2 c0 c1 c2,
        ((hb3.setCell (by simp) _).setCell (by simp) _).setCell (by simp) _⟩
    · have hgg2 : g ≠ 0 := by omega
      obtain ⟨p0, p1, p2, p3, p4⟩ := hbox23
      go_wp2_with fail
      refine (isOne_no _ _ _ hgv hg1').mono ?_
      rintro e w4 ⟨rfl, rfl⟩
      go_wp2_with fail
      refine (floorOver_any K hK hO _ _ _ z g h03 hgv hgg2 hz hgk).mono ?_
      rintro e w5 ⟨fv, rfl, hfv, hbf⟩
      have hb5 : Below w.heap.size w w5 := hb3.trans (hbf.mono hb3.size)
      have hbox35 := hbox33.below hbf
      have hv5 := hv3.below hbf
      have hgv5 := hgv.below hbf
      have q0 : w5.cell? ⟨w.heap.size, 0, none⟩ = some (.bool b) := (hbf.cell (p := ⟨w.heap.size, 0, none⟩) p4).trans p0
      have q1 : w5.cell? ⟨w.heap.size, 1, none⟩ = some (.slice ao l cap) := (hbf.cell (p := ⟨w.heap.size, 1, none⟩) p4).trans p1
      have q2 : w5.frozen? ⟨w.heap.size, 0, none⟩ = false := (hbf.frozen (p := ⟨w.heap.size, 0, none⟩) p4).trans p2
      have q3 : w5.frozen? ⟨w.heap.size, 1, none⟩ = false := (hbf.frozen (p := ⟨w.heap.size, 1, none⟩) p4).trans p3
      have q4 : w.heap.size < w5.heap.size := Nat.lt_of_lt_of_le p4 hbf.size
      obtain ⟨b2, a2, l2, k2, rfl, hp1, hp2⟩ := hfv.parts
      clear hbf hbox33 p0 p1 p2 p3 p4 hv3 hgv h03 hx3
      have e1 : (w5.setCell ⟨w.heap.size, 0, none⟩ (.bool b2)).cell? ⟨w.heap.size, 1, none⟩ = some (.slice ao l cap) := by rw [World.cell?_setCell_other _ _ _ _ (by simp)]; exact q1
      have hup6 := (hp1.setCell q0 (by simp) (.bool b2)).setCell e1 (by simp) (.slice a2 l2 k2)
      have hv6 := (hv5.setCell q0 (by simp) (.bool b2)).setCell e1 (by simp) (.slice a2 l2 k2)
      have hgv6 := (hgv5.setCell q0 (by simp) (.bool b2)).setCell e1 (by simp) (.slice a2 l2 k2)
      have hbox36 : Box3 ((w5.setCell ⟨w.heap.size, 0, none⟩ (.bool b2)).setCell ⟨w.heap.size, 1, none⟩ (.slice a2 l2 k2)) (w.heap.size + 1) (.bool false) (.slice none 0 0) (.slice none 0 0) := (hbox35.far (by omega)).far (by omega)
      have hb6 : Below w.heap.size w ((w5.setCell ⟨w.heap.size, 0, none⟩ (.bool b2)).setCell ⟨w.heap.size, 1, none⟩ (.slice a2 l2 k2)) := (hb5.setCell (by simp) _).setCell (by simp) _
      have r0 : ((w5.setCell ⟨w.heap.size, 0, none⟩ (.bool b2)).setCell ⟨w.heap.size, 1, none⟩ (.slice a2 l2 k2)).cell? ⟨w.heap.size, 0, none⟩ = some (.bool b2) := by
        rw [World.cell?_setCell_other _ _ _ _ (by simp)]; exact World.cell?_setCell_same _ _ _ q0
      have r1 : ((w5.setCell ⟨w.heap.size, 0, none⟩ (.bool b2)).setCell ⟨w.heap.size, 1, none⟩ (.slice a2 l2 k2)).cell? ⟨w.heap.size, 1, none⟩ = some (.slice a2 l2 k2) := World.cell?_setCell_same _ _ _ e1
      have r4 : w.heap.size < ((w5.setCell ⟨w.heap.size, 0, none⟩ (.bool b2)).setCell ⟨w.heap.size, 1, none⟩ (.slice a2 l2 k2)).heap.size := by simpa using q4
      go_wp2_with fail
      refine (hO _ _ _ n g hv6 hgv6 hnk hgk).mono ?_
      rintro e w7 ⟨qv, rv, rfl, hq, hrv, hb7⟩
      have hbox37 := hbox36.below hb7
      have hup7 := hup6.below hb7
      have hb7' : Below w.heap.size w w7 := hb6.trans (hb7.mono hb6.size)
      have s0 : w7.cell? ⟨w.heap.size, 0, none⟩ = some (.bool b2) := (hb7.cell (p := ⟨w.heap.size, 0, none⟩) r4).trans r0
      have s1 : w7.cell? ⟨w.heap.size, 1, none⟩ = some (.slice a2 l2 k2) := (hb7.cell (p := ⟨w.heap.size, 1, none⟩) r4).trans r1
      clear hb7 hbox36 hup6 hv6 hgv6 hb6 r0 r1 r4 e1 q0 q1 q2 q3 q4 hv5 hgv5 hbox35 hb5 hp1
      obtain ⟨a4, l4, k4, rfl⟩ := hq.slice
      by_cases hone : n / g = 1
      · rw [hone] at hq
        have HONE := hide hone
        clear hone
        go_wp2_with fail
        refine (isOne_yes _ _ hq).mono ?_
        rintro e w8 ⟨rfl, rfl⟩
        go_wp2_with fail
        refine (fof_any _ _ (z / (g : Int)) ⟨b2, _, rfl, hup7, hp2⟩).mono ?_
        rintro e w9 ⟨s, rfl, hs, hbs⟩
        obtain ⟨b3, a5, l5, k5, a6, l6, k6, rfl, hr1, hr2, hr3, hr4, hr5⟩ := hs.parts
        have hbox := hbox37.below hbs
        have hb9 : Below w.heap.size w w9 := hb7'.trans (hbs.mono hb7'.size)
        obtain ⟨c0, c1, c2, f0, f1, f2, g0⟩ := hbox
        clear hbs hs hbox37 s0 s1
        go_wp2
        exact bodyPost_ret (v := .agg #[.bool b3, .slice a5 l5 k5, .slice a6 l6 k6]) (by simp [results, Tryz.results45, go_sem, c0, c1, c2]) rfl ⟨_, rfl, by rw [HONE.out]; exact fracV_boxed hr1 hr2 hr3 hr4 hr5 c0 c1 c2,
          ((hb9.setCell (by simp) _).setCell (by simp) _).setCell (by simp) _⟩
      · obtain ⟨c0, c1, c2, f0, f1, f2, g0⟩ := hbox37
        go_wp2_with fail
        refine (isOne_no _ _ _ hq hone).mono ?_
        rintro e w8 ⟨rfl, rfl⟩
        go_wp2
        rw [if_neg hone] at HND
        exact bodyPost_ret (v := .agg #[.bool b2, .slice a2 l2 k2, .slice a4 l4 k4]) (by simp [results, Tryz.results45, go_sem, c0, c1, c2]) rfl ⟨_, rfl, fracV_boxed hup7 hp2 (by rw [HND.out]; exact hq) hg1 HG2 c0 c1 c2,
          ((hb7'.setCell (by simp) _).setCell (by simp) _).setCell (by simp) _⟩
end Go.Proofs.YtcmdglfjnepahaaGreatDoor
