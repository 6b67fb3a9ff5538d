/-
  What the keeper's leaves do: pick, num, over.
-/
import Derived.Test.YtcmdglfjnepahaaGreatDoorNat1
import Derived.Test.YtcmdglfjnepahaaGreatDoorShelf
import Derived.Lib.AppendIntMem
import Derived.WalkSmall
set_option linter.unusedSimpArgs false
set_option linter.unusedVariables false
namespace Go.Proofs.YtcmdglfjnepahaaGreatDoor
open Go.RowKit

/-- What pick answers. -/
def pickZ (c n : Int) : Int := (if c < 0 then -(c + 1) else c) % n

theorem pickZ_bd (c : Int) {n : Int} (hn : 0 < n) : 0 ≤ pickZ c n ∧ pickZ c n < n := by
  unfold pickZ
  exact ⟨Int.emod_nonneg _ (by omega), Int.emod_lt_of_pos _ hn⟩

theorem tmod_eq {a b : Int} (ha : 0 ≤ a) : Int.tmod a b = a % b := Int.tmod_eq_emod_of_nonneg ha

set_option maxHeartbeats 400000 in
theorem pick_any (c n : Int) (h0 : -9223372036854775808 ≤ c) (h1 : c ≤ 9223372036854775807) (hn : 0 < n) (hn1 : n ≤ 9223372036854775807) (w : World) :
    Calls Tryz.prog 7 #[.int .i64 c, .int .i64 n] w fun e w' => e = .returned (.int .i64 (pickZ c n)) ∧ w' = w := by
  have hb := pickZ_bd c hn
  by_cases hc : c < 0
  · have e : pickZ c n = Int.tmod (-(c + 1)) n := by rw [pickZ, if_pos hc, tmod_eq (by omega)]
    have HE := hide e
    rw [e] at hb
    clear e
    go_enter Tryz.func7, Tryz.ntmps7
    go_wp2
    go_ret
    exact ⟨ret_int (by rw [HE.out, Int.neg_tmod]), rfl⟩
  · have e : pickZ c n = Int.tmod c n := by rw [pickZ, if_neg hc, tmod_eq (by omega)]
    have HE := hide e
    rw [e] at hb
    clear e
    go_enter Tryz.func7, Tryz.ntmps7
    go_wp2
    go_ret
    exact ⟨ret_int (by rw [HE.out, tmod_eq hc]), rfl⟩

set_option maxHeartbeats 400000 in
theorem num_any (z : Int) (h0 : -9223372036854775808 ≤ z) (h1 : z ≤ 9223372036854775807) (w : World) (htab : Lib.TabIs Tryz.prog w "internal/strconv.uint64pow10" .u64 Lib.pow10Tab) :
    Calls Tryz.prog 11 #[.int .i64 z] w fun e w' => e = .returned (.string ⟨(Lib.itoa z).toArray⟩) ∧ Below w.heap.size w w' := by
  go_enter Tryz.func11, Tryz.ntmps11
  go_wp2_with fail
  refine (Tryz.strconv_Itoa z h0 h1 w htab).mono ?_
  rintro e w1 ⟨rfl, k, os, rfl⟩
  go_wp2
  go_ret
  exact ⟨rfl, Go.Lib.below_grow _ w (Nat.le_refl _) k os⟩

theorem ba_app (a b : List UInt8) : (ByteArray.mk a.toArray) ++ (ByteArray.mk b.toArray) = ByteArray.mk (a ++ b).toArray := by
  apply ByteArray.ext
  simp

theorem tabIs_below {w w' : World} (h : Lib.TabIs Tryz.prog w "internal/strconv.uint64pow10" .u64 Lib.pow10Tab) (hb : Below w.heap.size w w') : Lib.TabIs Tryz.prog w' "internal/strconv.uint64pow10" .u64 Lib.pow10Tab := by
  unfold Lib.TabIs World.var? at *
  cases hg : Tryz.prog.globalNamed "internal/strconv.uint64pow10" with
  | none => rw [hg] at h; simp at h
  | some g =>
    rw [hg] at h
    simp only [Option.bind_some] at h ⊢
    have hlt : g < w.heap.size := by
      rcases Nat.lt_or_ge g w.heap.size with h1 | h1
      · exact h1
      · rw [Array.getElem?_eq_none h1] at h; simp at h
    rw [hb.block g hlt]
    exact h

/-- A fraction's text, not in lowest terms. -/
def overText (a b : Int) : List UInt8 := Lib.itoa a ++ ([47] ++ Lib.itoa b)

theorem nd_le {n : Nat} (hn : n < 18446744073709551616) : (Lib.decDigits n).length ≤ 20 := by
  by_cases h0 : n = 0
  · subst h0; rw [Lib.decDigits_one (by omega)]; simp
  · rw [Lib.decDigits_length]
    have h1 := Lib.numDigits_eq n (by omega) hn
    split at h1 <;> omega

theorem it_le {z : Int} (hz : z.natAbs < 18446744073709551616) : (Lib.itoa z).length ≤ 21 := by
  unfold Lib.itoa
  split
  · have := nd_le hz; simp; omega
  · have := nd_le (n := z.toNat) (by omega); omega

set_option maxHeartbeats 400000 in
set_option maxRecDepth 100000 in
theorem keepOver_any (a b : Int) (h0 : -9223372036854775808 ≤ a) (h1 : a ≤ 9223372036854775807) (h2 : -9223372036854775808 ≤ b) (h3 : b ≤ 9223372036854775807) (w : World) (htab : Lib.TabIs Tryz.prog w "internal/strconv.uint64pow10" .u64 Lib.pow10Tab) :
    Calls Tryz.prog 8 #[.int .i64 a, .int .i64 b] w fun e w' => e = .returned (.string ⟨(overText a b).toArray⟩) ∧ Below w.heap.size w w' := by
  have hl1 := it_le (z := a) (by omega)
  have hl2 := it_le (z := b) (by omega)
  have HT : Hid (ByteArray.mk (Lib.itoa a).toArray ++ ByteArray.mk #[47] ++ ByteArray.mk (Lib.itoa b).toArray = ByteArray.mk (overText a b).toArray) := by
    rw [Hid, overText]
    have e1 : ByteArray.mk (Lib.itoa a).toArray ++ ByteArray.mk #[47] = ByteArray.mk (Lib.itoa a ++ [47]).toArray := ba_app _ [47]
    rw [e1, ba_app, List.append_assoc]
  go_enter Tryz.func8, Tryz.ntmps8
  go_wp2_with fail
  refine (num_any a h0 h1 _ htab).mono ?_
  rintro e wB ⟨rfl, hbB⟩
  go_wp2_with fail
  refine (num_any b h2 h3 _ (tabIs_below htab hbB)).mono ?_
  rintro e wC ⟨rfl, hbC⟩
  go_wp2
  go_ret
  exact ⟨by rw [← HT.out]; rfl, hbB.trans (hbC.mono hbB.size)⟩
end Go.Proofs.YtcmdglfjnepahaaGreatDoor
