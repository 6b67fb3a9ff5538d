/-
  What the keeper's digits does.
-/
import Derived.Test.YtcmdglfjnepahaaGreatDoorKee4
import Derived.Laws.IdiomStrings
set_option linter.unusedSimpArgs false
set_option linter.unusedVariables false
namespace Go.Proofs.YtcmdglfjnepahaaGreatDoor
open Go.RowKit

/-- A digit of each of the first k bytes. -/
def digL (l : List UInt8) (k : Nat) : List UInt8 := (l.take k).map fun c => UInt8.ofNat (48 + c.toNat % 10)

theorem digL_all (l : List UInt8) (k : Nat) : allDig (digL l k) = true := by
  unfold allDig digL
  rw [List.all_eq_true]
  intro c hc
  obtain ⟨d, _, rfl⟩ := List.mem_map.1 hc
  have h : d.toNat % 10 < 10 := Nat.mod_lt _ (by omega)
  have := dig_toNat h
  simp only [isDig, this]
  simp
  omega

theorem digL_len (l : List UInt8) (k : Nat) (h : k ≤ l.length) : (digL l k).length = k := by
  simp [digL]; omega

theorem digL_succ (l : List UInt8) (k : Nat) (h : k < l.length) : digL l (k + 1) = digL l k ++ [UInt8.ofNat (48 + l[k].toNat % 10)] := by
  unfold digL
  rw [List.take_succ_eq_append_getElem h, List.map_append]
  rfl

theorem toList_len (s : ByteArray) : s.data.toList.length = s.size := Array.length_toList

theorem empty_no {s : ByteArray} (h : s ≠ ⟨#[]⟩) : s.toList.isEmpty = false := by
  rw [← Go.decide_eq_emptyBytes]
  exact decide_eq_false h

theorem digT_seven {s : ByteArray} (h : s = ⟨#[]⟩ ∨ ∃ h0 : 0 < s.size, s[0].toNat = 48) : (⟨#[55]⟩ : ByteArray) ++ s = ⟨(digT s.data.toList).toArray⟩ := by
  have e : digT s.data.toList = 55 :: s.data.toList := by
    unfold digT
    rw [if_pos]
    rcases h with rfl | ⟨h0, h⟩
    · exact Or.inl rfl
    · right
      obtain ⟨⟨l⟩⟩ := s
      cases l with
      | nil => simp [ByteArray.size] at h0
      | cons c r => exact congrArg some (UInt8.toNat.inj h)
  rw [e]
  apply ByteArray.ext
  simp

theorem digT_same {s : ByteArray} (h0 : 0 < s.size) (h : s[0].toNat ≠ 48) : s = ⟨(digT s.data.toList).toArray⟩ := by
  have e : digT s.data.toList = s.data.toList := by
    unfold digT
    rw [if_neg]
    rintro (h1 | h1)
    · obtain ⟨⟨l⟩⟩ := s
      simp only at h1
      subst h1
      simp [ByteArray.size] at h0
    · obtain ⟨⟨l⟩⟩ := s
      cases l with
      | nil => simp at h1
      | cons c r =>
        have hc : c = 48 := by simpa using h1
        subst hc
        exact h rfl
  rw [e]

theorem u8_digit (c : UInt8) : wrap64 (48 + (wrap64 (c.toNat : Int)).tmod 10) % 256 = ((UInt8.ofNat (48 + c.toNat % 10)).toNat : Int) := by
  have h : c.toNat % 10 < 10 := Nat.mod_lt _ (by omega)
  have hc : c.toNat < 256 := c.toNat_lt
  rw [UInt8.toNat_ofNat', Go.IntWalk.wrap64_in (c.toNat : Int) (by omega), Int.tmod_eq_emod_of_nonneg (by omega), Go.IntWalk.wrap64_in _ (by omega)]
  omega

set_option maxHeartbeats 1000000 in
set_option maxRecDepth 100000 in
theorem digits_any (raw : ByteArray) (m : Nat) (hm : m ≤ 30) (hraw : raw.size ≤ 9223372036854775807) (w : World) :
    Calls Tryz.prog 12 #[.string raw, .int .i64 (m : Nat)] w fun e w' => ∃ n : Nat, e = .returned (.string (wT n)) ∧ n ≠ 0 ∧ n < 10 ^ (m + 1) ∧ Below w.heap.size w w' := by
  go_enter Tryz.func12, Tryz.ntmps12
  go_wp2
  go_loopw [5, 6] (fun sv iv wr => ∃ (k : Nat) (sB : ByteArray), k ≤ raw.size ∧ k ≤ m ∧ sv = .string sB ∧ sB.size = k ∧ Hid (sB = ⟨(digL raw.data.toList k).toArray⟩) ∧ iv = .int .i64 (k : Nat) ∧ Below w.heap.size w wr) (fun _ iv _ => ((m : Int) - intOf iv).toNat)
  case atStart => exact ⟨0, ⟨#[]⟩, by omega, by omega, rfl, rfl, rfl, rfl, Below.refl _ _⟩
  case round =>
    obtain ⟨k, sB, hk1, hk2, rfl, hsz, HB, rfl, hb⟩ := hrel
    have hend : Hid (∃ n : Nat, (⟨(digT sB.data.toList).toArray⟩ : ByteArray) = wT n ∧ n ≠ 0 ∧ n < 10 ^ (m + 1)) := by
      have hl : sB.data.toList = digL raw.data.toList k := by rw [HB.out]
      obtain ⟨n, h1, h2, h3⟩ := digT_dec (digL_all raw.data.toList k)
      rw [Hid, hl]
      refine ⟨n, by rw [h1, wT, itoa_nat], h2, Nat.lt_of_lt_of_le h3 (Nat.pow_le_pow_right (by omega) ?_)⟩
      rw [digL_len _ _ (by rw [toList_len]; exact hk1)]
      omega
    by_cases h1 : k < raw.size
    · by_cases h2 : k < m
      · have hst : Hid (sB ++ ⟨[UInt8.ofNat (48 + raw[k].toNat % 10)].toArray⟩ = ⟨(digL raw.data.toList (k + 1)).toArray⟩) := by
          rw [Hid, digL_succ _ _ (by rw [toList_len]; exact h1), HB.out]
          exact ba_append _ _
        have e8 := u8_digit raw[k]
        have E8 := hide e8
        obtain ⟨u, hu⟩ : ∃ u, UInt8.ofNat (48 + raw[k].toNat % 10) = u := ⟨_, rfl⟩
        rw [hu] at hst
        have HU := hide hu
        clear e8 hu hend
        have hback : (convert 46 9 (.slice (some ⟨wr.heap.size, 0, none⟩) 1 1)).run Tryz.prog (wr.alloc (.cells #[.int .u8 (u.toNat : Int)] 5)) = .ok (.string ⟨[u].toArray⟩) (wr.alloc (.cells #[.int .u8 (u.toNat : Int)] 5)) := run_convert_bytes_back (P := Tryz.prog) (wr.alloc (.cells #[.int .u8 (u.toNat : Int)] 5)) 46 9 5 ⟨wr.heap.size, 0, none⟩ 1 [u] Tryz.underlying46 Tryz.underlying5 Tryz.underlying9 (by
          intro j hj
          have : j = 0 := by simp at hj; omega
          subst this
          simp [Addr.add])
        have HBK := hide hback
        clear hback
        go_wp2
        rw [E8.out, HU.out]
        rw [HBK.out]
        simp only [Result.andThen]
        rw [Oper.upon_value]
        have hszu : (ByteArray.mk [u].toArray).size = 1 := rfl
        generalize ByteArray.mk [u].toArray = tB at *
        go_wp2
        go_roundw
        case rel => exact ⟨k + 1, _, by omega, by omega, rfl, by rw [ByteArray.size_append]; omega, hst, by go_num, hb.alloc hb.size _⟩
        case measure => simp [intOf]; omega
      · by_cases h3 : sB = ⟨#[]⟩
        · subst h3
          obtain rfl : k = 0 := hsz.symm
          clear hsz
          go_wp2
          go_ret
          obtain ⟨n, e1, e2, e3⟩ := hend.out
          exact ⟨n, by rw [← e1, ← digT_seven (Or.inl rfl)]; rfl, e2, e3, hb⟩
        · have hk0 : 0 < sB.size := by
            rcases Nat.eq_zero_or_pos sB.size with h | h
            · exact absurd (ByteArray.ext (Array.eq_empty_of_size_eq_zero h)) h3
            · exact h
          have h5 := empty_no h3
          by_cases h4 : ((sB[0].toNat : Nat) : Int) = 48
          · go_wp2
            go_ret
            obtain ⟨n, e1, e2, e3⟩ := hend.out
            exact ⟨n, by rw [← e1, ← digT_seven (Or.inr ⟨hk0, by omega⟩)]; rfl, e2, e3, hb⟩
          · go_wp2
            go_ret
            obtain ⟨n, e1, e2, e3⟩ := hend.out
            exact ⟨n, by rw [← e1, ← digT_same hk0 (by omega)]; rfl, e2, e3, hb⟩
    · by_cases h3 : sB = ⟨#[]⟩
      · subst h3
        obtain rfl : k = 0 := hsz.symm
        clear hsz
        go_wp2
        go_ret
        obtain ⟨n, e1, e2, e3⟩ := hend.out
        exact ⟨n, by rw [← e1, ← digT_seven (Or.inl rfl)]; rfl, e2, e3, hb⟩
      · have hk0 : 0 < sB.size := by
          rcases Nat.eq_zero_or_pos sB.size with h | h
          · exact absurd (ByteArray.ext (Array.eq_empty_of_size_eq_zero h)) h3
          · exact h
        have h5 := empty_no h3
        by_cases h4 : ((sB[0].toNat : Nat) : Int) = 48
        · go_wp2
          go_ret
          obtain ⟨n, e1, e2, e3⟩ := hend.out
          exact ⟨n, by rw [← e1, ← digT_seven (Or.inr ⟨hk0, by omega⟩)]; rfl, e2, e3, hb⟩
        · go_wp2
          go_ret
          obtain ⟨n, e1, e2, e3⟩ := hend.out
          exact ⟨n, by rw [← e1, ← digT_same hk0 (by omega)]; rfl, e2, e3, hb⟩
end Go.Proofs.YtcmdglfjnepahaaGreatDoor
