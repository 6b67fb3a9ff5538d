/-
  Part 13 of the texts ahead of Pls1: Kee5, Tr12, Tr13, Tr8.
-/
import Derived.Test.YtnhfdcfnojnofaaGreatDoorPls1Z12
import Derived.Laws.IdiomStrings
import Derived.Deep.DeepCutAuto
import Derived.Test.YtnhfdcfnojnofaaGreatDoorPls1Z8
set_option linter.unusedSimpArgs false
set_option linter.unusedVariables false
/-
  What the keeper's digits does.
-/
namespace Go.Proofs.YtnhfdcfnojnofaaGreatDoor
open Go.RowKit

/-- A digit of each of the first k bytes. -/
def digL (l : List UInt8) (k : Nat) : List UInt8 := (l.take k).map fun c => UInt8.ofNat (48 + c.toNat % 10)

theorem toList_len (s : ByteArray) : s.data.toList.length = s.size := Array.length_toList

theorem empty_no {s : ByteArray} (h : s ≠ ⟨#[]⟩) : s.toList.isEmpty = false := by
  rw [← Go.decide_eq_emptyBytes]
  exact decide_eq_false h

end Go.Proofs.YtnhfdcfnojnofaaGreatDoor

/-
  What the document's own decimals, Text do (package planesref).
-/
namespace Go.Proofs.YtnhfdcfnojnofaaGreatDoor.T
open Go.RowKit

theorem padL_len (k : Nat) : ∀ r, (padL k r).length = k := by
  induction k with
  | zero => intro r; rfl
  | succ k ih => intro r; rw [padL]; simp [ih]

theorem padL_head (k : Nat) : ∀ r, padL (k + 1) r = UInt8.ofNat (48 + (r / 10 ^ k) % 10) :: padL k r := by
  induction k with
  | zero => intro r; simp [padL]
  | succ k ih =>
    intro r
    rw [padL, ih (r / 10), padL, Nat.div_div_eq_div_mul, Nat.mul_comm 10, ← Nat.pow_succ]
    rfl

theorem dec_len_ge (k : Nat) : ∀ n, 10 ^ k ≤ n → k < (Lib.decDigits n).length := by
  induction k with
  | zero => intro n _; exact dec_pos n
  | succ k ih =>
    intro n hn
    have h10 : ¬ n < 10 := by
      have : 10 ^ 1 ≤ 10 ^ (k + 1) := Nat.pow_le_pow_right (by omega) (by omega)
      omega
    have h1 := ih (n / 10) (by rw [Nat.pow_succ] at hn; omega)
    rw [Lib.decDigits, dif_neg h10]
    simp
    omega

/-- Without noughts ahead the digits are the number's own. -/
theorem padL_dec {j N : Nat} (h0 : 0 < j) (hN : N < 10 ^ j) (h : j = 1 ∨ 10 ^ (j - 1) ≤ N) : padL j N = Lib.decDigits N := by
  rw [padL_eq j N h0 hN]
  have h1 := dec_len_le j N hN h0
  have h2 : j ≤ (Lib.decDigits N).length := by
    rcases h with rfl | h
    · exact dec_pos N
    · have := dec_len_ge (j - 1) N h; omega
  rw [show j - (Lib.decDigits N).length = 0 by omega]
  rfl

theorem top_digit {j N : Nat} (hN : N < 10 ^ (j + 1)) : (N / 10 ^ j) % 10 = N / 10 ^ j := by
  refine Nat.mod_eq_of_lt ?_
  rw [Nat.pow_succ] at hN
  exact (Nat.div_lt_iff_lt_mul (Nat.pow_pos (by omega))).2 (by rw [Nat.mul_comm]; exact hN)

theorem pow4 (i : Nat) : 10000 ^ i = 10 ^ (4 * i) := by rw [Nat.pow_mul]

theorem place_at {ds : List Nat} (hd : Dig ds) (i : Nat) (hi : i < ds.length) : val ds / 10 ^ (4 * i) % 10000 = ds.getD i 0 := by
  have h1 := val_take_drop ds i (by omega)
  have h2 := val_drop ds i hi
  have h3 := val_lt (hd.take i)
  have h4 := hd.get i
  rw [List.length_take, Nat.min_eq_left (by omega)] at h3
  rw [← pow4, h1, Nat.add_comm, Nat.mul_add_div (Nat.pow_pos (by omega)), Nat.div_eq_of_lt h3, Nat.add_zero, h2, Nat.add_mul_mod_self_left, Nat.mod_eq_of_lt h4]

/-- A digit of a place is the number's. -/
theorem digit_at {ds : List Nat} (hd : Dig ds) (i k : Nat) (hi : i < ds.length) (hk : k < 4) : ds.getD i 0 / 10 ^ k % 10 = val ds / 10 ^ (4 * i + k) % 10 := by
  rw [← place_at hd i hi, Nat.pow_add, ← Nat.div_div_eq_div_mul]
  generalize val ds / 10 ^ (4 * i) = M
  have : k = 0 ∨ k = 1 ∨ k = 2 ∨ k = 3 := by omega
  rcases this with rfl | rfl | rfl | rfl <;> simp <;> omega

theorem ba_of {s : ByteArray} {l : List UInt8} (h : s.data.toList = l) : s = ⟨l.toArray⟩ := by
  subst h
  rfl

theorem extract_tail {s : ByteArray} {c : UInt8} {l : List UInt8} {m : Nat} (h : s = ⟨(c :: l).toArray⟩) (hl : l.length = m) : s.extract 1 (m + 1) = ⟨l.toArray⟩ := by
  apply ba_of
  rw [Lib.extract_data, h]
  simp only [List.drop_succ_cons, List.drop_zero, Nat.add_sub_cancel]
  exact List.take_of_length_le (Nat.le_of_eq hl)

theorem first_of {s : ByteArray} {c : UInt8} {l : List UInt8} (h : s = ⟨(c :: l).toArray⟩) (h0 : 0 < s.size) : s[0] = c := by
  subst h; rfl

set_option maxHeartbeats 2000000 in
set_option maxRecDepth 100000 in
theorem decimals_any (w : World) (v : Value) (n K : Nat) (hv : NV w v n) (hn : n < 10000 ^ K) (hK : K ≤ 100000000) :
    Calls Tryz.prog 189 #[v] w fun e w' => e = .returned (.string ⟨(Lib.decDigits n).toArray⟩) ∧ Below w.heap.size w w' := by
  obtain ⟨ds, hs, hd, ht, hnv⟩ := hv
  have hl := top_len ht (by rw [hnv]; exact hn)
  obtain ⟨ao, cap, rfl, hc⟩ := hs.shape
  have HNV := hide hnv
  have HT := hide ht
  clear hn ht hnv
  go_enter Tryz.func189, Tryz.ntmps189
  go_wp2
  go_loopw [3, 4] (fun sv iv wr => ∃ (i : Nat) (sB : ByteArray), i ≤ ds.length ∧ sv = .string sB ∧ sB.size = 4 * i ∧ Hid (sB = ⟨(padL (4 * i) n).toArray⟩) ∧ iv = .int .i64 (i : Nat) ∧ Below w.heap.size w wr) (fun _ iv _ => ((ds.length : Int) - intOf iv).toNat)
  case atStart => exact ⟨0, ⟨#[]⟩, by omega, rfl, rfl, rfl, rfl, Below.refl _ _⟩
  case round =>
    obtain ⟨i, sB, hi, rfl, hsz, HB, rfl, hbel⟩ := hrel
    by_cases hk : i < ds.length
    · obtain ⟨b, off, rfl, hb, hrow⟩ := hs.row (by intro e; rw [e] at hk; simp at hk)
      have hck := (hbel.cell (p := ⟨b, off + i, none⟩) hb).trans (hrow i hk)
      have hdk := hd.get i
      have HDA : Hid (∀ k, k < 4 → ds.getD i 0 / 10 ^ k % 10 = n / 10 ^ (4 * i + k) % 10) := by
        intro k hk4
        have := digit_at hd i k hk hk4
        rw [HNV.out] at this
        exact this
      generalize ds.getD i 0 = d at *
      go_wp2_with fail
      go_loopw [3, 5, 6] (fun sv nv kv wq => ∃ (k : Nat) (sC : ByteArray), k ≤ 4 ∧ sv = .string sC ∧ sC.size = 4 * i + k ∧ Hid (sC = ⟨(padL (4 * i + k) n).toArray⟩) ∧ nv = .int .i64 ((d / 10 ^ k : Nat) : Int) ∧ kv = .int .i64 (k : Nat) ∧ Below w.heap.size w wq) (fun _ _ kv _ => (4 - intOf kv).toNat)
      case atStart => exact ⟨0, sB, by omega, rfl, hsz, HB, by simp, rfl, hbel⟩
      case round =>
        obtain ⟨k, sC, hk4, rfl, hszC, HC, rfl, rfl, hbq⟩ := hrel
        by_cases hkk : k < 4
        · have hx : d / 10 ^ k < 10000 := Nat.lt_of_le_of_lt (Nat.div_le_self _ _) hdk
          have HD1 : Hid (d / 10 ^ k / 10 = d / 10 ^ (k + 1)) := by rw [Hid, Nat.div_div_eq_div_mul, Nat.pow_succ]
          have HD2 := hide (HDA.out k hkk)
          have HST : Hid (ByteArray.mk [UInt8.ofNat (48 + d / 10 ^ k % 10)].toArray ++ sC = ⟨(padL (4 * i + (k + 1)) n).toArray⟩) := by
            rw [Hid, HC.out, ba_append, show 4 * i + (k + 1) = 4 * i + k + 1 by omega, padL_head, HD2.out]
            rfl
          generalize d / 10 ^ k = x at *
          obtain ⟨u, hu⟩ : ∃ u, UInt8.ofNat (48 + x % 10) = u := ⟨_, rfl⟩
          rw [hu] at HST
          have HU := hide hu
          clear hu
          have hback : (convert 78 9 (.slice (some ⟨wr.heap.size, 0, none⟩) 1 1)).run Tryz.prog (wr.alloc (.cells #[.int .u8 (u.toNat : Int)] 5)) = .ok (.string ⟨[u].toArray⟩) (wr.alloc (.cells #[.int .u8 (u.toNat : Int)] 5)) := run_convert_bytes_back (P := Tryz.prog) (wr.alloc (.cells #[.int .u8 (u.toNat : Int)] 5)) 78 9 5 ⟨wr.heap.size, 0, none⟩ 1 [u] Tryz.underlying78 Tryz.underlying5 Tryz.underlying9 (by
            intro j hj
            have : j = 0 := by simp at hj; omega
            subst this
            simp [Addr.add])
          have HBK := hide hback
          clear hback
          have HE8 : Hid (48 + (x : Int) % 10 = ((UInt8.ofNat (48 + x % 10)).toNat : Int)) := by
            rw [Hid, dig_toNat (Nat.mod_lt _ (by omega))]
            omega
          go_wp2
          rw [HE8.out, HU.out, HBK.out]
          simp only [Result.andThen]
          rw [Oper.upon_value]
          have hszu : (ByteArray.mk [u].toArray).size = 1 := rfl
          generalize ByteArray.mk [u].toArray = tB at *
          go_wp2
          go_roundw
          case rel => exact ⟨k + 1, _, by omega, rfl, by rw [ByteArray.size_append]; omega, HST, by rw [← HD1.out]; rfl, by go_num, hbq.alloc hbq.size _⟩
          case measure => simp [intOf]; omega
        · obtain rfl : k = 4 := by omega
          clear hkk
          go_wp2
          go_roundw
          case rel => exact ⟨i + 1, sC, by omega, rfl, by omega, HC, by go_num, hbq⟩
          case measure => simp [intOf]; omega
    · obtain rfl : i = ds.length := by omega
      have HN4 : Hid (n < 10 ^ (4 * ds.length)) := by rw [Hid, ← pow4, ← HNV.out]; exact val_lt hd
      clear hk hi
      go_wp2_with fail
      go_loopw [3] (fun sv wq => ∃ (j : Nat) (sC : ByteArray), sv = .string sC ∧ sC.size = j ∧ j ≤ 4 * ds.length ∧ Hid (sC = ⟨(padL j n).toArray⟩) ∧ Hid (n < 10 ^ j) ∧ Below w.heap.size w wq) (fun sv _ => match sv with | .string s => s.size | _ => 0)
      case atStart => exact ⟨4 * ds.length, sB, rfl, hsz, Nat.le_refl _, HB, HN4, hbel⟩
      case round =>
        obtain ⟨j, sC, rfl, hszC, hj, HC, HNJ, hbq⟩ := hrel
        by_cases hj0 : j = 0
        · subst hj0
          have hn0 : n = 0 := by have := HNJ.out; simpa using this
          have hse : sC = ⟨#[]⟩ := HC.out
          subst hse
          have HR : Hid (Lib.decDigits n = [48]) := by rw [Hid, hn0, Lib.decDigits_one (by omega)]; rfl
          clear hszC HC HB
          go_wp2
          go_ret
          exact ⟨by rw [HR.out]; rfl, hbq⟩
        · obtain ⟨m, rfl⟩ : ∃ m, j = m + 1 := ⟨j - 1, by omega⟩
          have hne : sC.toList.isEmpty = false := empty_no (fun e => by rw [e] at hszC; have h0 : (ByteArray.mk #[]).size = 0 := rfl; omega)
          have hs0 : 0 < sC.size := by omega
          have hT : sC[0].toNat = 48 + n / 10 ^ m := by
            have h1 := HC.out
            rw [padL_head, top_digit HNJ.out] at h1
            rw [first_of h1 hs0]
            have h2 := top_digit HNJ.out
            have h3 : n / 10 ^ m % 10 < 10 := Nat.mod_lt _ (by omega)
            exact dig_toNat (by omega)
          by_cases hm : m = 0
          · have HR : Hid (sC = ⟨(Lib.decDigits n).toArray⟩) := by rw [Hid, HC.out, padL_dec (by omega) HNJ.out (Or.inl (by omega))]
            have hsz1 : sC.size = 1 := by omega
            clear hszC hT HB HC
            go_wp2
            go_ret
            exact ⟨by rw [← HR.out]; rfl, hbq⟩
          · by_cases hz : n / 10 ^ m = 0
            · have hi0 : (sC[0].toNat : Int) = 48 := by omega
              have hsz2 : (1 : Int) < (sC.size : Int) := by omega
              have HN2 : Hid (n < 10 ^ m) := by
                rw [Hid]
                exact (Nat.div_eq_zero_iff_lt (Nat.pow_pos (by omega))).1 hz
              have HD : Hid (sC = ⟨(48 :: padL m n).toArray⟩) := by
                have h1 := HC.out
                rw [padL_head, hz] at h1
                rw [Hid, h1]
                rfl
              clear hT HB hz
              have HX := hide (extract_tail HD.out (padL_len m n))
              have HZ : Hid ((sC.extract 1 (m + 1)).size = m) := by rw [Hid, HX.out, size_mk, padL_len]
              go_wp2
              go_roundw
              case rel => exact ⟨m, _, rfl, HZ.out, by omega, HX, HN2, hbq⟩
              case measure => show (sC.extract 1 (m + 1)).size < sC.size; rw [HZ.out]; omega
            · have hi0 : (sC[0].toNat : Int) ≠ 48 := by omega
              have hsz2 : (1 : Int) < (sC.size : Int) := by omega
              have HR : Hid (sC = ⟨(Lib.decDigits n).toArray⟩) := by
                rw [Hid, HC.out, padL_dec (by omega) HNJ.out (Or.inr ?_)]
                show 10 ^ (m + 1 - 1) ≤ n
                rw [Nat.add_sub_cancel]
                rcases Nat.lt_or_ge n (10 ^ m) with h | h
                · exact absurd (Nat.div_eq_of_lt h) hz
                · exact h
              clear hT HB hz HC
              go_wp2
              go_ret
              exact ⟨by rw [← HR.out]; rfl, hbq⟩

set_option maxHeartbeats 1000000 in
set_option maxRecDepth 100000 in
theorem text_any (K : Nat) (hK : K ≤ 1000) (w : World) (x : Value) (p : Int) (q : Nat) (h : NumV w x p q) (hp : p.natAbs < 10000 ^ K) (hq : q < 10000 ^ K) :
    Calls Tryz.prog 107 #[x] w fun e w' => e = .returned (.string ⟨(fracText p q).toArray⟩) ∧ Below w.heap.size w w' := by
  have h0 := h
  obtain ⟨b, ao, l, cap, ao', l', cap', rfl, hv, hb, hu, hq0⟩ := h.parts
  have hboxP : Box3 (w.alloc (.cells #[.bool b, .slice ao l cap, .slice ao' l' cap'] 118)) w.heap.size (.bool b) (.slice ao l cap) (.slice ao' l' cap') := Box3.new _ _ _ _ _
  have hbW : Below w.heap.size w (w.alloc (.cells #[.bool b, .slice ao l cap, .slice ao' l' cap'] 118)) := (Below.refl _ _).alloc (Nat.le_refl _) _
  have hl1 : (Lib.decDigits p.natAbs).length ≤ 4 * K + 1 := Nat.le_trans (dec_len_le (4 * K + 1) _ (by rw [pow4] at hp; exact Nat.lt_of_lt_of_le hp (Nat.pow_le_pow_right (by omega) (by omega))) (by omega)) (Nat.le_refl _)
  have hl2 : (Lib.decDigits q).length ≤ 4 * K + 1 := Nat.le_trans (dec_len_le (4 * K + 1) _ (by rw [pow4] at hq; exact Nat.lt_of_lt_of_le hq (Nat.pow_le_pow_right (by omega) (by omega))) (by omega)) (Nat.le_refl _)
  have hz1 : (ByteArray.mk (Lib.decDigits p.natAbs).toArray).size ≤ 4 * K + 1 := by rw [size_mk]; exact hl1
  have hz2 : (ByteArray.mk (Lib.decDigits q).toArray).size ≤ 4 * K + 1 := by rw [size_mk]; exact hl2
  clear hl1 hl2
  obtain ⟨sU, hsU⟩ : ∃ sU, sU = ByteArray.mk (Lib.decDigits p.natAbs).toArray := ⟨_, rfl⟩
  obtain ⟨sD, hsD⟩ : ∃ sD, sD = ByteArray.mk (Lib.decDigits q).toArray := ⟨_, rfl⟩
  obtain ⟨sN, hsN⟩ : ∃ sN, sN = ByteArray.mk (Lib.itoa p).toArray := ⟨_, rfl⟩
  have HN : Hid (sN = if b then ⟨#[45]⟩ ++ sU else sU) := by
    rw [Hid, hsN, hsU, hb.out]
    by_cases hp0 : p < 0
    · rw [if_pos (by simpa using hp0), Lib.itoa, if_pos hp0]
      exact (ba_append [45] _).symm
    · rw [if_neg (by simpa using hp0), Lib.itoa, if_neg hp0, show p.toNat = p.natAbs by omega]
  have HT : Hid (ByteArray.mk (fracText p q).toArray = if q = 1 then sN else sN ++ ⟨#[47]⟩ ++ sD) := by
    rw [Hid, fracText]
    by_cases h1 : q = 1
    · rw [if_pos h1, if_pos h1, hsN]
    · rw [if_neg h1, if_neg h1, hsN, hsD]
      have e1 : ByteArray.mk (Lib.itoa p).toArray ++ ByteArray.mk #[47] = ByteArray.mk (Lib.itoa p ++ [47]).toArray := ba_append _ [47]
      rw [e1, ba_append, List.append_assoc]
  have HU := hide hsU
  have HD := hide hsD
  rw [← hsU] at hz1
  rw [← hsD] at hz2
  clear hsU hsD hsN hb
  go_enter Tryz.func107, Tryz.ntmps107
  go_wp2_with fail
  refine (decimals_any _ _ p.natAbs K (hv.alloc _) hp (by omega)).mono ?_
  rintro e w1 ⟨rfl, hb1⟩
  rw [← HU.out]
  have hP1 := hboxP.below hb1
  have hbl1 := hbW.trans (hb1.mono hbW.size)
  have hx1 := (h0.alloc (.cells #[.bool b, .slice ao l cap, .slice ao' l' cap'] 118)).below hb1
  have hu1 := (hu.alloc (.cells #[.bool b, .slice ao l cap, .slice ao' l' cap'] 118)).below hb1
  clear hb1 hboxP hbW hv hu h h0
  have hP := hP1
  obtain ⟨i0, i1, i2, i3, i4, i5, i6⟩ := hP
  have hszN : sN.size ≤ 4 * K + 2 := by
    rw [HN.out]
    split
    · rw [ByteArray.size_append, show (ByteArray.mk #[45]).size = 1 from rfl]; omega
    · omega
  go_upto_if 8 with fail
  go_cut [3] (fun v wc => v = .string sN ∧ w1 = wc)
  case first =>
    cases b with
    | true =>
      have hn := HN.out
      rw [if_pos rfl] at hn
      subst hn
      go_wp2_with fail
      all_goals go_meet
      all_goals exact ⟨rfl, rfl⟩
    | false =>
      have hn := HN.out
      rw [if_neg (by simp)] at hn
      subst hn
      go_wp2_with fail
      all_goals go_meet
      all_goals exact ⟨rfl, rfl⟩
  case rest =>
    obtain ⟨rfl, rfl⟩ := hcut
    clear HN
    go_wp2_with fail
    refine (whole_any _ _ p q hx1 K hq (by omega)).mono ?_
    rintro e w2 ⟨rfl, hb2⟩
    have hP2 := hP1.below hb2
    have hbl2 := hbl1.trans (hb2.mono hbl1.size)
    have hu2 := hu1.below hb2
    clear hb2 hP1 hbl1 hu1 hx1 i0 i1 i2 i3 i4 i5 i6
    obtain ⟨i0, i1, i2, i3, i4, i5, i6⟩ := hP2
    by_cases hq1 : q = 1
    · have ht := HT.out
      rw [if_pos hq1] at ht
      have HT2 := hide ht
      clear ht
      rw [decide_eq_true hq1]
      go_wp2
      go_ret
      exact ⟨by rw [HT2.out]; rfl, hbl2⟩
    · have ht := HT.out
      rw [if_neg hq1] at ht
      have HT2 := hide ht
      clear ht
      rw [decide_eq_false hq1]
      go_wp2_with fail
      refine (decimals_any _ _ q K hu2 hq (by omega)).mono ?_
      rintro e w3 ⟨rfl, hb3⟩
      rw [← HD.out]
      go_wp2
      go_ret
      exact ⟨by rw [HT2.out]; rfl, hbl2.trans (hb3.mono hbl2.size)⟩
end Go.Proofs.YtnhfdcfnojnofaaGreatDoor.T

/-
  What the document's own places does (package planesref).
-/
namespace Go.Proofs.YtnhfdcfnojnofaaGreatDoor.T
open Go.RowKit

theorem seg_step {L : List UInt8} {a E j : Nat} {os : List Nat} (ha : a ≤ E) (hE : E ≤ L.length) (hj : L.length = 4 * j + E) (hl : os.length = j) (hv : val os = decVal (L.drop E)) :
    val (os ++ [decVal ((L.drop a).take (E - a))]) = decVal (L.drop a) := by
  have h1 : L.drop a = (L.drop a).take (E - a) ++ L.drop E := by
    conv => lhs; rw [← List.take_append_drop (E - a) (L.drop a), List.drop_drop, show a + (E - a) = E by omega]
  conv => rhs; rw [h1]
  rw [decVal_append, val_append, val_one, hl, hv, List.length_drop, show L.length - E = 4 * j by omega, pow4, Nat.mul_comm, Nat.add_comm]

theorem seg_dig {L : List UInt8} {a E : Nat} (ha : a ≤ E) (h1 : allDig ((L.drop a).take (E - a)) = true) (h2 : allDig (L.drop E) = true) : allDig (L.drop a) = true := by
  have h : L.drop a = (L.drop a).take (E - a) ++ L.drop E := by
    conv => lhs; rw [← List.take_append_drop (E - a) (L.drop a), List.drop_drop, show a + (E - a) = E by omega]
  rw [h, allDig_append, h1, h2]
  rfl

theorem seg_lt {L : List UInt8} {a t : Nat} (ht : t ≤ 4) (h1 : allDig ((L.drop a).take t) = true) : decVal ((L.drop a).take t) < 10000 := by
  have h2 := decVal_lt h1
  have h3 : 10 ^ ((L.drop a).take t).length ≤ 10 ^ 4 := Nat.pow_le_pow_right (by omega) (by rw [List.length_take]; omega)
  omega

theorem seg_snoc {L : List UInt8} {a t : Nat} (h : a + t < L.length) : (L.drop a).take (t + 1) = (L.drop a).take t ++ [L[a + t]] := by
  rw [List.take_succ_eq_append_getElem (by rw [List.length_drop]; omega)]
  simp

theorem bad_all {L : List UInt8} {I : Nat} (h : I < L.length) (hb : isDig L[I] = false) : allDig L = false := by
  unfold allDig
  rw [List.all_eq_false]
  exact ⟨L[I], List.getElem_mem h, by simp [hb]⟩

set_option maxHeartbeats 4000000 in
set_option maxRecDepth 100000 in
theorem places_any (s : ByteArray) (m : Nat) (w : World) (h0 : 0 < s.size) (h1 : s.size ≤ m) (hm : m ≤ 1000000) :
    Calls Tryz.prog 182 #[.string s, .int .i64 (m : Nat)] w fun e w' => ∃ x, e = .returned (.tuple #[x, .bool (allDig s.data.toList)]) ∧ (allDig s.data.toList = true → NV w' x (decVal s.data.toList)) ∧ (allDig s.data.toList = false → x = .slice none 0 0) ∧ Below w.heap.size w w' := by
  obtain ⟨i0, hi, hz0, hz1, hz2⟩ := info_parts Tryz.infoInt
  have hne : s.toList.isEmpty = false := empty_no (fun e => by rw [e] at h0; exact absurd h0 (by decide))
  obtain ⟨L, hL⟩ : ∃ L, s.data.toList = L := ⟨_, rfl⟩
  have hLs : L.length = s.size := by rw [← hL]; exact toList_len s
  have hget : ∀ (I : Nat) (h : I < s.size), s[I] = L[I]'(by omega) := by
    intro I h
    subst hL
    rfl
  rw [hL]
  have HG := hide hget
  have hms : ¬ m < s.size := by omega
  clear hget
  go_enter Tryz.func182, Tryz.ntmps182
  go_wp2
  go_loopw [6, 7] (fun lv ev wr => ∃ (e : Int) (os : List Nat) (ap : Option Addr) (kp : Nat), lv = .slice ap os.length kp ∧ ev = .int .i64 e ∧ -4 ≤ e ∧ Hid ((s.size : Int) = 4 * os.length + e) ∧ wr.ownsRow w.heap.size 3 1 (.slice ap os.length kp) os.length (os.map encD) ∧ Dig os ∧ Hid (allDig (L.drop e.toNat) = true) ∧ Hid (val os = decVal (L.drop e.toNat)) ∧ Below w.heap.size w wr) (fun _ ev _ => (intOf ev + 4).toNat)
  case atStart => exact ⟨(s.size : Int), [], none, 0, rfl, rfl, by omega, by simp [Hid], World.ownsRow_nil _ _ _ _, fun d hd => by simp at hd, by rw [Hid, List.drop_of_length_le (by omega)]; rfl, by rw [Hid, List.drop_of_length_le (by omega)]; rfl, Below.refl _ _⟩
  case round =>
    obtain ⟨e, os, ap, kp, rfl, rfl, he4, hse, hown, hod, hall, hval, hbel⟩ := hrel
    by_cases he : 0 < e
    · obtain ⟨E, rfl⟩ : ∃ E : Nat, e = (E : Int) := ⟨e.toNat, by omega⟩
      have hE : E ≤ L.length := by have := hse.out; omega
      have hol : os.length ≤ 1000000 := by have := hse.out; omega
      obtain ⟨a, ha⟩ : ∃ a, a = E - 4 := ⟨_, rfl⟩
      go_wp2_with fail
      go_loopw [8, 9] (fun nv iv wq => ∃ (i : Int) (x : Nat), nv = .int .i64 (x : Nat) ∧ iv = .int .i64 i ∧ (E : Int) - 4 ≤ i ∧ i ≤ (E : Int) ∧ x < 10000 ∧ Hid (allDig ((L.drop a).take (i.toNat - a)) = true) ∧ Hid (x = decVal ((L.drop a).take (i.toNat - a))) ∧ wr = wq) (fun _ iv _ => ((E : Int) - intOf iv).toNat)
      case atStart =>
        have e0 : ((E : Int) - 4).toNat - a = 0 := by omega
        exact ⟨(E : Int) - 4, 0, rfl, rfl, by omega, by omega, by omega, by rw [e0]; rfl, by rw [e0]; rfl, rfl⟩
      case round =>
        obtain ⟨i, x, rfl, rfl, hi1, hi2, hx, hal, hxv, rfl⟩ := hrel
        by_cases hiE : i < (E : Int)
        · by_cases hi0 : i < 0
          · have HT : Hid ((i + 1).toNat - a = i.toNat - a) := by rw [Hid]; omega
            go_wp2
            go_roundw
            case rel => exact ⟨i + 1, x, rfl, by go_num, by omega, by omega, hx, by rw [HT.out]; exact hal, by rw [HT.out]; exact hxv, by first | rfl | trivial⟩
            case measure => simp [intOf]; omega
          · obtain ⟨I, rfl⟩ : ∃ I : Nat, i = (I : Int) := ⟨i.toNat, by omega⟩
            have hIs : I < s.size := by omega
            have hIi : (I : Int) < (s.size : Int) := by omega
            have hIn : ¬ (I : Int) < 0 := by omega
            have hgI := HG.out I hIs
            obtain ⟨t, ht⟩ : ∃ t, t = I - a := ⟨_, rfl⟩
            have hat : a + t = I := by omega
            have ht4 : t < 4 := by omega
            have HT1 : Hid ((I : Int).toNat - a = t) := by rw [Hid, ht]; rfl
            have HT2 : Hid (((I : Int) + 1).toNat - a = t + 1) := by rw [Hid]; omega
            have HSN : Hid ((L.drop a).take (t + 1) = (L.drop a).take t ++ [s[I]]) := by
              rw [Hid, seg_snoc (by omega), hgI]
              simp only [hat]
            have HBAD : Hid (isDig s[I] = false → allDig L = false) := fun hb => bad_all (I := I) (by omega) (by rw [← hgI]; exact hb)
            clear hgI
            by_cases hlo : (s[I].toNat : Int) < 48
            · have HAL : Hid (false = allDig L) := (HBAD.out (by unfold isDig; simp; omega)).symm
              clear HSN HBAD
              go_wp2
              go_ret2
              exact ⟨.slice none 0 0, by rw [← HAL.out]; rfl, fun h => absurd (HAL.out.trans h) (by decide), fun _ => rfl, hbel⟩
            · by_cases hhi : 57 < (s[I].toNat : Int)
              · have HAL : Hid (false = allDig L) := (HBAD.out (by unfold isDig; simp; omega)).symm
                clear HSN HBAD
                go_wp2
                go_ret2
                exact ⟨.slice none 0 0, by rw [← HAL.out]; rfl, fun h => absurd (HAL.out.trans h) (by decide), fun _ => rfl, hbel⟩
              · have HIS : Hid (isDig s[I] = true) := by rw [Hid]; unfold isDig; simp; omega
                have hal2 := hal.out
                have hxv2 := hxv.out
                rw [HT1.out] at hal2 hxv2
                have HAL2 : Hid (allDig ((L.drop a).take (t + 1)) = true) := by
                  rw [Hid, HSN.out, allDig_append, hal2]
                  simp [allDig, HIS.out]
                have HXV2 : Hid (10 * x + (s[I].toNat - 48) = decVal ((L.drop a).take (t + 1))) := by
                  rw [Hid, HSN.out, decVal_snoc, ← hxv2, Nat.mul_comm]
                have hx2 : 10 * x + (s[I].toNat - 48) < 10000 := by
                  rw [HXV2.out]
                  exact seg_lt (by omega) HAL2.out
                clear HSN HBAD HIS hal2 hxv2 hal hxv
                go_wp2
                go_roundw
                case rel => exact ⟨(I : Int) + 1, 10 * x + (s[I].toNat - 48), by congr 1; omega, by go_num, by omega, by omega, hx2, by rw [HT2.out]; exact HAL2, by rw [HT2.out]; exact HXV2, by first | rfl | trivial⟩
                case measure => simp [intOf]; omega
        · obtain rfl : i = (E : Int) := by omega
          have HT : Hid ((E : Int).toNat - a = E - a) := by rw [Hid]; rfl
          have hal2 := hal.out
          have hxv2 := hxv.out
          rw [HT.out] at hal2 hxv2
          have HE4 : Hid (((E : Int) - 4).toNat = a) := by rw [Hid]; omega
          have HALN : Hid (allDig (L.drop a) = true) := seg_dig (by omega) hal2 hall.out
          have HVN : Hid (val (os ++ [x]) = decVal (L.drop a)) := by
            rw [Hid, hxv2]
            exact seg_step (j := os.length) (by omega) hE (by have := hse.out; omega) rfl hval.out
          clear hal hxv hal2 hxv2 hall hval
          go_wp2_with (at_builtin; refine wpList_append_own _ rfl _ _ 35 rfl w.heap.size 3 i0 (.int .i64 0) 1 8 Tryz.underlying35 hi hz0 hz1 hz2 rfl (by decide) (.slice ap os.length kp) os.length (os.map encD) rfl (hown.alloc _) ⟨wr.heap.size, 0, none⟩ 1 1 [.int .i64 (x : Int)] rfl rfl (cell_one_new _ _ _) ?c2 (by unfold maxLen; omega) (by omega) (by have := hbel.size; simp; omega) ?_)
          case c2 => first | rfl | (intro u hu; simp at hu; subst hu; rfl)
          intro v3 w3 hown3 hgrow hnn
          obtain ⟨os', hos', hol', cap3, g3, rfl, hown4, hb3⟩ := grown_snoc hown hbel hown3 hgrow hnn rfl
          go_wp2
          go_roundw
          case rel =>
            refine ⟨(E : Int) - 4, os', _, cap3, rfl, rfl, by omega, by rw [Hid, hol']; have := hse.out; omega, hown4, by rw [hos']; exact dig_snoc hod hx, by rw [HE4.out]; exact HALN, ?_, hb3⟩
            rw [HE4.out, hos']
            exact HVN
          case measure => simp [intOf]; omega
    · have e0 : e.toNat = 0 := by omega
      have HALL : Hid (true = allDig L) := by
        have := hall.out
        rw [e0, List.drop_zero] at this
        exact this.symm
      have HVAL : Hid (val os = decVal L) := by
        have := hval.out
        rw [e0, List.drop_zero] at this
        exact this
      have hol : os.length ≤ 1000000 := by have := hse.out; omega
      clear hall hval e0
      go_wp2_with fail
      refine (trim_any _ _ os (sl_of_owns hown) (by omega)).mono ?_
      rintro e w3 ⟨⟨x, rfl, hx⟩, rfl⟩
      go_wp2
      go_ret2
      exact ⟨x, by rw [← HALL.out]; rfl, fun _ => nv_trim hx hod HVAL.out, fun h => absurd (HALL.out.trans h) (by decide), hbel⟩

set_option maxHeartbeats 400000 in
set_option maxRecDepth 100000 in
theorem places_out (s : ByteArray) (m : Nat) (w : World) (h : s = ⟨#[]⟩ ∨ m < s.size) (hs : s.size ≤ 9223372036854775807) (hm : m ≤ 1000000) :
    Calls Tryz.prog 182 #[.string s, .int .i64 (m : Nat)] w fun e w' => e = .returned (.tuple #[.slice none 0 0, .bool false]) ∧ w' = w := by
  by_cases he : s = ⟨#[]⟩
  · subst he
    go_enter Tryz.func182, Tryz.ntmps182
    go_wp2
    go_ret2
    exact ⟨rfl, rfl⟩
  · have hne := empty_no he
    have hlt : (m : Int) < (s.size : Int) := by
      rcases h with h | h
      · exact absurd h he
      · omega
    go_enter Tryz.func182, Tryz.ntmps182
    go_wp2
    go_ret2
    exact ⟨rfl, rfl⟩
end Go.Proofs.YtnhfdcfnojnofaaGreatDoor.T

/-
  What the document's own Mul does (package planesref).
-/
namespace Go.Proofs.YtnhfdcfnojnofaaGreatDoor.T
open Go.RowKit

theorem mul_lt_pow {x y K : Nat} (hx : x < 10000 ^ K) (hy : y < 10000 ^ K) : x * y < 10000 ^ (K + K) := by
  rw [Nat.pow_add]; exact Nat.mul_lt_mul'' hx hy

end Go.Proofs.YtnhfdcfnojnofaaGreatDoor.T
