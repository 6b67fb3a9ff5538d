/-
  Decimal digits read: natural.Parse.
-/
import Derived.Test.YtcmdglfjnepahaaGreatDoorTxt2
import Derived.Test.YtcmdglfjnepahaaGreatDoorShelf
import Derived.Lib.Strings
set_option linter.unusedSimpArgs false
set_option linter.unusedVariables false
namespace Go.Proofs.YtcmdglfjnepahaaGreatDoor
open Go.RowKit

def strLen : Value → Nat | .string s => s.size | _ => 0

theorem allDig_sub {l m : List UInt8} (h : allDig l = true) (hs : ∀ c ∈ m, c ∈ l) : allDig m = true := by
  unfold allDig at *
  rw [List.all_eq_true] at *
  exact fun c hc => h c (hs c hc)

theorem decVal_trim (l : List UInt8) : decVal (Lib.trimLeftB l 48) = decVal l := by
  unfold Lib.trimLeftB
  induction l with
  | nil => rfl
  | cons c l ih =>
    by_cases hc : c = 48
    · subst hc
      have e : decVal (48 :: l) = decVal l := by simp [decVal]
      rw [e, List.dropWhile_cons_of_pos (by simp)]
      exact ih
    · rw [List.dropWhile_cons_of_neg (by simpa using hc)]

theorem trimLeftB_len (l : List UInt8) (c : UInt8) : (Lib.trimLeftB l c).length ≤ l.length := by
  unfold Lib.trimLeftB
  exact (List.dropWhile_sublist _).length_le

theorem decVal_piece {L : List UInt8} {k n : Nat} (h : k = 0 ∨ n = 9) (hk : k + n ≤ L.length) : decVal (L.take (k + n)) = decVal (L.take k) * 1000000000 + decVal ((L.drop k).take n) := by
  rw [List.take_add, decVal_append]
  rcases h with h | h
  · subst h; simp [decVal]
  · subst h
    have : ((L.drop k).take 9).length = 9 := by rw [List.length_take, List.length_drop]; omega
    rw [this]

set_option maxRecDepth 100000 in
set_option maxHeartbeats 1000000 in
theorem natParse_no (s : ByteArray) (m : Nat) (w : World) (hm : m ≤ 1099511627776) (hs : s.size ≤ 1099511627776) (h : s.data.toList = [] ∨ m < s.size ∨ allDig s.data.toList = false) :
    Calls Tryz.prog 43 #[.string s, .int .i64 (m : Nat)] w fun e w' => e = .returned (.tuple #[.slice none 0 0, .bool false]) ∧ w' = w := by
  by_cases h0 : s.size = 0
  · have h1 : ((s.size : Int) == 0) = true := by rw [h0]; rfl
    clear h
    go_enter Tryz.func43, Tryz.ntmps43
    go_wp2
    go_ret2
    exact ⟨rfl, rfl⟩
  · have h1 : ((s.size : Int) == 0) = false := beq_eq_false_iff_ne.2 (by omega)
    by_cases h2 : m < s.size
    · have h3 : (m : Int) < (s.size : Int) := by omega
      clear h
      go_enter Tryz.func43, Tryz.ntmps43
      go_wp2
      go_ret2
      exact ⟨rfl, rfl⟩
    · have h3 : ¬ (m : Int) < (s.size : Int) := by omega
      have h4 : allDig s.data.toList = false := by
        rcases h with h | h | h
        · exact absurd (by rw [Lib.size_eq, h]; rfl) h0
        · exact absurd h h2
        · exact h
      clear h
      go_enter Tryz.func43, Tryz.ntmps43
      go_wp2_with fail
      refine (allDigits_no s _ hs h4).mono ?_
      rintro e w' ⟨rfl, rfl⟩
      go_wp2
      go_ret2
      exact ⟨rfl, rfl⟩

set_option maxRecDepth 100000 in
set_option maxHeartbeats 1000000 in
theorem natParse_yes (s : ByteArray) (m : Nat) (w : World) (hm : m ≤ 1000000000) (hs0 : 0 < s.size) (hs : s.size ≤ m) (h : allDig s.data.toList = true) :
    Calls Tryz.prog 43 #[.string s, .int .i64 (m : Nat)] w fun e w' => ∃ v, e = .returned (.tuple #[v, .bool true]) ∧ NatV w' v (decVal s.data.toList) ∧ Below w.heap.size w w' := by
  have h1 : ((s.size : Int) == 0) = false := beq_eq_false_iff_ne.2 (by omega)
  have h3 : ¬ (m : Int) < (s.size : Int) := by omega
  have hLl : (Lib.trimLeftB s.data.toList 48).length ≤ s.size := by rw [Lib.size_eq s]; exact trimLeftB_len _ _
  have hLd : allDig (Lib.trimLeftB s.data.toList 48) = true := allDig_sub h (fun c hc => (List.dropWhile_sublist _).subset hc)
  have HV := hide (decVal_trim s.data.toList)
  obtain ⟨i0, hi, hz0, hz1, hz2⟩ := info_parts Tryz.info131
  go_enter Tryz.func43, Tryz.ntmps43
  go_wp2_with fail
  refine (allDigits_yes s _ (by omega) h).mono ?_
  rintro e w' ⟨rfl, rfl⟩
  clear h
  go_wp2_with fail
  refine (Tryz.strings_TrimLeft_one s 48 (by decide) _).mono ?_
  rintro e w1 ⟨rfl, rfl⟩
  generalize Lib.trimLeftB s.data.toList 48 = L at *
  have hLs : (ByteArray.mk L.toArray).size = L.length := by simp [ByteArray.size]
  clear h1 h3
  go_wp2_with (at_make; refine wpList_make_own _ rfl _ _ 60 rfl w1.heap.size 131 i0 (.int .u32 0) 1 Tryz.underlying60 hi hz0 hz1 _ _ _ (L.length / 9 + 1) rfl rfl ?c0 (by rw [hz2]; omega) (by unfold maxLen; omega) (Nat.le_refl _) ?_)
  case c0 => rw [← hLs]; omega
  intro w2 hown hgrow
  have hb2 : Below w1.heap.size w1 w2 := (Below.refl _ _).grown hgrow (Nat.le_refl _) (fun k h => by simp at h)
  have HL := hide hLs
  clear hgrow hi hz0 hz1 hz2 hLs
  go_wp2
  go_loopw [0, 6] (fun tv nv wr => ∃ (t : ByteArray) (k g cap : Nat) (ds : List Nat), tv = .string t ∧ nv = .slice (some ⟨g, 0, none⟩) ds.length cap ∧ k ≤ L.length ∧ t.size ≤ 1000000000 ∧ Hid (t.data.toList = L.drop k) ∧ Hid (t.size = L.length - k) ∧ Hid (k = 0 ∨ (L.length - k) % 9 = 0) ∧
      wr.ownsRow w1.heap.size 131 1 (.slice (some ⟨g, 0, none⟩) ds.length cap) ds.length (ds.map encD) ∧ Dig ds ∧ Top ds ∧ Hid (val ds = decVal (L.take k)) ∧ ds.length ≤ k ∧ Below w1.heap.size w1 wr) (fun tv _ _ => strLen tv)
  case atStart =>
    refine ⟨_, 0, w1.heap.size, L.length / 9 + 1, [], rfl, rfl, Nat.zero_le _, by rw [HL.out]; omega, by simp [Hid], by rw [Hid, HL.out, Nat.sub_zero], Or.inl rfl, hown, ?_, Top.nil, by simp [Hid, val, decVal], Nat.le_refl _, hb2⟩
    intro d hd; simp at hd
  case round =>
    obtain ⟨t, k, g, cap, ds, rfl, rfl, hk, htb, htl, hts, hk9, hown, hd, htop, hval, hdl, hbel⟩ := hrel
    by_cases h0 : 0 < t.size
    · have hn1 : (t.size - 1) % 9 + 1 ≤ t.size := by have := Nat.mod_le (t.size - 1) 9; omega
      have hpl : (t.extract 0 ((t.size - 1) % 9 + 1)).data.toList = (L.drop k).take ((t.size - 1) % 9 + 1) := by rw [Lib.extract_data, List.drop_zero, Nat.sub_zero, htl.out]
      have hps : (t.extract 0 ((t.size - 1) % 9 + 1)).size ≤ 9 := by
        rw [Lib.size_eq, hpl, List.length_take]; omega
      have hpd : allDig (t.extract 0 ((t.size - 1) % 9 + 1)).data.toList = true := by
        rw [hpl]; exact allDig_sub hLd (fun c hc => List.mem_of_mem_drop (List.mem_of_mem_take hc))
      have hpv := decVal_lt hpd
      have hpv2 : decVal (t.extract 0 ((t.size - 1) % 9 + 1)).data.toList < 1000000000 := by
        have h1 : (t.extract 0 ((t.size - 1) % 9 + 1)).data.toList.length ≤ 9 := by rw [← Lib.size_eq]; exact hps
        have h2 : 10 ^ (t.extract 0 ((t.size - 1) % 9 + 1)).data.toList.length ≤ 10 ^ 9 := Nat.pow_le_pow_right (by omega) h1
        omega
      have hkn : k + ((t.size - 1) % 9 + 1) ≤ L.length := by have := hts.out; omega
      have h9 : k = 0 ∨ (t.size - 1) % 9 + 1 = 9 := by
        have h1 := hts.out
        rcases hk9.out with h | h
        · exact Or.inl h
        · right; omega
      have HP := hide (decVal_piece (L := L) h9 hkn)
      have HPL := hide hpl
      have hrest : (t.extract ((t.size - 1) % 9 + 1) t.size).data.toList = L.drop (k + ((t.size - 1) % 9 + 1)) := by
        rw [Lib.extract_to_end, htl.out, List.drop_drop]
      have HR := hide hrest
      have hr9 : (L.length - (k + ((t.size - 1) % 9 + 1))) % 9 = 0 := by have := hts.out; omega
      have HR9 := hide hr9
      have hrs : (t.extract ((t.size - 1) % 9 + 1) t.size).size = L.length - (k + ((t.size - 1) % 9 + 1)) := by rw [Lib.size_eq, hrest, List.length_drop]
      have HRS := hide hrs
      have hb1 := hbel.size
      clear hpl hpv hrest hr9 hrs h9
      go_wp2_with fail
      refine (piece_any _ _ hps hpd).mono ?_
      rintro e w3 ⟨rfl, rfl⟩
      clear hps hpd
      have epv : (t.extract 0 ((t.size - 1) % 9 + 1)).data.toList = t.data.toList.take ((t.size - 1) % 9 + 1) := by rw [Lib.extract_data, List.drop_zero, Nat.sub_zero]
      rw [epv] at hpv2
      have HPV := hide (congrArg decVal (epv.symm.trans HPL.out))
      clear epv
      go_wp2_with fail
      refine (timesPiece_any _ w1.heap.size g cap _ ds hown hb1 (by omega) hpv2 hd htop).mono ?_
      rintro e w4 ⟨g4, cap4, ds4, rfl, hown4, hd4, hval4, hdl4, hb4, htop4⟩
      go_wp2
      go_roundw
      case rel => exact ⟨_, k + ((t.size - 1) % 9 + 1), g4, cap4, ds4, rfl, rfl, by omega, by rw [HRS.out]; omega, HR, HRS, Or.inr HR9.out, hown4, hd4, htop4, by rw [Hid, hval4, HPV.out, HP.out, hval.out], by omega, hbel.trans hb4⟩
      case measure => show (t.extract _ _).size < t.size; rw [HRS.out]; have := hts.out; omega
    · have hke : k = L.length := by have := hts.out; omega
      have hvd : val ds = decVal s.data.toList := by rw [hval.out, hke, List.take_length, HV.out]
      have HVD := hide hvd
      have hgl := (lt_of_owns hown).2
      have hrow := row_of_owns hown rfl
      have hcl : ds.length ≤ cap := by
        obtain ⟨_, h1 | ⟨g1, cap1, cur, hv, _, _, hn, _⟩⟩ := hown
        · exact absurd h1.1 (by simp)
        · simp only [Value.slice.injEq] at hv
          obtain ⟨_, _, rfl⟩ := hv
          exact hn
      clear hke hvd
      go_wp2
      go_ret2
      refine ⟨_, rfl, ?_, hbel⟩
      rw [← HVD.out]
      exact ⟨ds, U32s.mk hrow hgl hcl, hd, htop, rfl⟩
end Go.Proofs.YtcmdglfjnepahaaGreatDoor
