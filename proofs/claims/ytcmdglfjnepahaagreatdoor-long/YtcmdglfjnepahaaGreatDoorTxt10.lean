/-
  Numbers read: a text without a stroke; what is written is read as itself.
-/
import Derived.Test.YtcmdglfjnepahaaGreatDoorTxt9
import Derived.Test.YtcmdglfjnepahaaGreatDoorPla3
import Derived.Test.YtcmdglfjnepahaaGreatDoorNat15
set_option linter.unusedSimpArgs false
set_option linter.unusedVariables false
namespace Go.Proofs.YtcmdglfjnepahaaGreatDoor
open Go.RowKit

theorem index_none (a : List UInt8) (h : ∀ c ∈ a, c ≠ 47) : Lib.index a [47] = -1 := by
  induction a with
  | nil => simp [Lib.index]
  | cons c a ih =>
    have ih := ih (fun d hd => h d (List.mem_cons_of_mem _ hd))
    have hc := h c List.mem_cons_self
    simp only [Lib.index, ih]
    have hp : ([47] : List UInt8).isPrefixOf (c :: a) = false := by
      simp [List.isPrefixOf, Ne.symm hc]
    rw [hp]
    simp

theorem cut_none (a : List UInt8) (h : ∀ c ∈ a, c ≠ 47) : Lib.cut a [47] = (a, [], false) := by
  unfold Lib.cut
  rw [index_none a h, if_neg (by omega)]

set_option maxRecDepth 100000 in
set_option maxHeartbeats 2000000 in
theorem fracParse_whole (s : ByteArray) (m : Nat) (w : World) (mx : Int) (hmx : w.cell? ⟨1, 0, none⟩ = some (.int .i64 mx)) (h1w : 1 < w.heap.size) (hm : m ≤ 1000000000) (hs : s.size < 4294967281) (a : List UInt8) (hcut : Lib.cut s.data.toList [47] = (a, [], false))
    (ha0 : 0 < (Lib.trimPrefix a [45]).length) (ha1 : (Lib.trimPrefix a [45]).length ≤ m) (ha2 : allDig (Lib.trimPrefix a [45]) = true) :
    Calls Tryz.prog 24 #[.string s, .int .i64 (m : Nat)] w fun e w' => ∃ x, e = .returned (.tuple #[x, .bool true]) ∧ FracV w' x (sg (Lib.hasPrefix a [45]) (decVal (Lib.trimPrefix a [45]))) 1 ∧ Below w.heap.size w w' := by
  have hbox : Box3 (w.alloc (.cells #[.bool false, .slice none 0 0, .slice none 0 0] 64)) w.heap.size (.bool false) (.slice none 0 0) (.slice none 0 0) := Box3.new _ _ _ _ _
  have hbW : Below w.heap.size w (w.alloc (.cells #[.bool false, .slice none 0 0, .slice none 0 0] 64)) := (Below.refl _ _).alloc (Nat.le_refl _) _
  have hmx2 : (w.alloc (.cells #[.bool false, .slice none 0 0, .slice none 0 0] 64)).cell? ⟨1, 0, none⟩ = some (.int .i64 mx) := (hbW.cell (p := ⟨1, 0, none⟩) h1w).trans hmx
  have hcp := Tryz.strings_Cut s ⟨#[47]⟩ mx (w.alloc (.cells #[.bool false, .slice none 0 0, .slice none 0 0] 64)) hs hmx2
  have e47 : (ByteArray.mk #[47]).data.toList = [47] := rfl
  rw [e47, hcut] at hcp
  have HCP := hide hcp
  have hp := fun W => wholeParse_yes ⟨a.toArray⟩ m W hm (by simpa using ha0) (by simpa using ha1) (by simpa using ha2)
  have ea : (ByteArray.mk a.toArray).data.toList = a := by simp
  rw [ea] at hp
  have HP := hide hp
  generalize sg (Lib.hasPrefix a [45]) (decVal (Lib.trimPrefix a [45])) = z at *
  clear hcp hp ea e47 hcut ha0 ha1 ha2 hmx hmx2 hs
  go_enter Tryz.func24, Tryz.ntmps24
  go_wp2_with fail
  refine HCP.out.mono ?_
  rintro e w1 ⟨rfl, q1, rfl⟩
  go_wp2_with fail
  refine (HP.out _).mono ?_
  rintro e w2 ⟨x, rfl, hx, hbx⟩
  obtain ⟨b2, a2, l2, k2, rfl, hv2, hbb2⟩ := hx.parts
  have hboxA := (hbox.drewN q1).below hbx
  have hbA : Below w.heap.size w w2 := hbW.trans ((below_ofDrewN hbx).mono hbW.size)
  have hboxB := hboxA.alloc (.cells #[.bool b2, .slice a2 l2 k2] 62)
  have hxB := hx.alloc (.cells #[.bool b2, .slice a2 l2 k2] 62)
  have hbB : Below w.heap.size w (w2.alloc (.cells #[.bool b2, .slice a2 l2 k2] 62)) := hbA.alloc hbA.size _
  clear hbx hboxA hbox hx hv2 hbW
  go_wp2_with fail
  refine (fof_any _ _ z hxB).mono ?_
  rintro e w5 ⟨y, rfl, hy, hby⟩
  obtain ⟨b3, a5, l5, k5, a6, l6, k6, rfl, hr1, hr2, hr3, hr4, hr5⟩ := hy.parts
  have hboxD := hboxB.below hby
  have hbD : Below w.heap.size w w5 := hbB.trans (hby.mono hbB.size)
  obtain ⟨c0, c1, c2, f0, f1, f2, g0⟩ := hboxD
  clear hby hboxB hxB hy
  go_wp2
  exact bodyPost_ret (v := .tuple #[.agg #[.bool b3, .slice a5 l5 k5, .slice a6 l6 k6], .bool true]) (by simp [results, Tryz.results24, go_sem, c0, c1, c2]) rfl ⟨_, rfl, fracV_boxed hr1 hr2 hr3 hr4 hr5 c0 c1 c2,
    ((hbD.setCell (by simp) _).setCell (by simp) _).setCell (by simp) _⟩

theorem overOK_ten : OverOK 10 := over_any 10 (by omega) (longOK_any 10 (by omega))

theorem ten40 {n : Nat} (h : n < 10 ^ 40) : n < 4294967296 ^ 10 := Nat.lt_trans h (by decide)

/-- What is written is read as itself. -/
theorem parseOK_text (p : Int) (q : Nat) (hq : 0 < q) (hc : Nat.gcd p.natAbs q = 1) (hp : p.natAbs < 10 ^ 40) (hqb : q < 10 ^ 40) : ParseOK ⟨(fracText p q).toArray⟩ p q := by
  rintro W ⟨_, mx, h1, h2⟩
  have hl1 := dec_len_le 40 _ hp (by omega)
  have hl2 := dec_len_le 40 _ hqb (by omega)
  have hl3 := dec_pos p.natAbs
  have hl4 := dec_pos q
  have ht := trim_itoa p
  have hl5 : (Lib.itoa p).length ≤ 41 := by
    unfold Lib.itoa
    split
    · simp; omega
    · rw [show p.toNat = p.natAbs by omega]; omega
  by_cases h : q = 1
  · subst h
    rw [fracText, if_pos rfl]
    have hd : (ByteArray.mk (Lib.itoa p).toArray).data.toList = Lib.itoa p := by simp
    refine (fracParse_whole ⟨(Lib.itoa p).toArray⟩ 40 W mx h1 h2 (by omega) (by rw [size_mk]; omega) (Lib.itoa p) (by rw [hd]; exact cut_none _ (itoa_ne p)) (by rw [ht.1]; omega) (by rw [ht.1]; omega) (by rw [ht.1]; exact dec_all _)).mono ?_
    rintro e w' ⟨x, rfl, hx, hb⟩
    rw [ht.1, ht.2, dec_val, sg_self] at hx
    exact ⟨x, rfl, hx, hb⟩
  · rw [fracText, if_neg h]
    have hd : (ByteArray.mk (Lib.itoa p ++ ([47] ++ Lib.decDigits q)).toArray).data.toList = Lib.itoa p ++ 47 :: Lib.decDigits q := by simp
    obtain ⟨K, hK, hO, hz, hn⟩ : ∃ K, K ≤ 1073741822 ∧ OverOK K ∧ p.natAbs < 4294967296 ^ K ∧ q < 4294967296 ^ K := ⟨10, by omega, overOK_ten, ten40 hp, ten40 hqb⟩
    have hq0 : q ≠ 0 := by omega
    have hsz : (ByteArray.mk (Lib.itoa p ++ ([47] ++ Lib.decDigits q)).toArray).size < 4294967281 := by rw [size_mk]; simp; omega
    clear hp hqb
    have c1 : Lib.cut (ByteArray.mk (Lib.itoa p ++ ([47] ++ Lib.decDigits q)).toArray).data.toList [47] = (Lib.itoa p, Lib.decDigits q, true) := by rw [hd]; exact cut_at _ _ (itoa_ne p)
    have c2 : 0 < (Lib.trimPrefix (Lib.itoa p) [45]).length := by rw [ht.1]; exact hl3
    have c3 : (Lib.trimPrefix (Lib.itoa p) [45]).length ≤ 40 := by rw [ht.1]; exact hl1
    have c4 : allDig (Lib.trimPrefix (Lib.itoa p) [45]) = true := by rw [ht.1]; exact dec_all _
    have c5 : decVal (Lib.decDigits q) ≠ 0 := by rw [dec_val]; exact hq0
    have c6 : decVal (Lib.trimPrefix (Lib.itoa p) [45]) < 4294967296 ^ K := by rw [ht.1, dec_val]; exact hz
    have c7 : decVal (Lib.decDigits q) < 4294967296 ^ K := by rw [dec_val]; exact hn
    have c8 := dec_all q
    have c9 := fracParse_frac K hK hO ⟨(Lib.itoa p ++ ([47] ++ Lib.decDigits q)).toArray⟩ 40 W mx h1 h2 (by omega) hsz (Lib.itoa p) (Lib.decDigits q) c1 c2 c3 c4 hl4 hl2 c8 c5 c6 c7
    refine c9.mono ?_
    rintro e w' ⟨x, z, hz, rfl, hx, hbw⟩
    rw [ht.1, ht.2, dec_val, sg_self] at hz
    subst hz
    rw [dec_val, hc] at hx
    simp only [Int.natCast_one, Int.ediv_one, Nat.div_one] at hx
    exact ⟨x, rfl, hx, hbw⟩
end Go.Proofs.YtcmdglfjnepahaaGreatDoor
