/-
  What takeTimes of package natural does.
-/
import Derived.Test.YtcmdglfjnepahaaGreatDoorNat3
set_option linter.unusedSimpArgs false
set_option linter.unusedVariables false
namespace Go.Proofs.YtcmdglfjnepahaaGreatDoor
open Go.RowKit

theorem gap_neg (x u bw : Int) (hx : 0 ≤ x) (hx2 : x < 4294967296) (hu : 0 ≤ u) (hu2 : u < 4294967296) (hb : 0 ≤ bw) (hb2 : bw ≤ 1) (h : x < u + bw) :
    IntKind.u64.wrap (IntKind.u64.wrap (x - u) - bw) % 4294967296 = x - u - bw + 4294967296 ∧ IntKind.u64.wrap (IntKind.u64.wrap (x - u) - bw) / 9223372036854775808 = 1 := by
  have e : ∀ n : Int, IntKind.u64.wrap n = n % 18446744073709551616 := fun n => by simp [IntKind.wrap, IntKind.signed, IntKind.bits]
  rw [e, e]
  omega

theorem gap_neg1 (x bw : Int) (hx : 0 ≤ x) (hb2 : bw ≤ 1) (h : x < bw) :
    IntKind.u64.wrap (x - bw) % 4294967296 = x - bw + 4294967296 ∧ IntKind.u64.wrap (x - bw) / 9223372036854775808 = 1 := by
  have e : ∀ n : Int, IntKind.u64.wrap n = n % 18446744073709551616 := fun n => by simp [IntKind.wrap, IntKind.signed, IntKind.bits]
  rw [e]
  omega

set_option maxHeartbeats 2000000 in
theorem takeTimes_any (w : World) (b off cap f : Nat) (ds es : List Nat) (v : Value) (hcap : ds.length ≤ cap) (hlen : ds.length ≤ 1073741824) (hes : es.length ≤ ds.length) (hf : f < 4294967296)
    (hrow : Row w b off ds) (hfr : Free w b off ds.length) (hd : Dig ds) (hv : U32b w b v es) (hd' : Dig es) :
    Calls Tryz.prog 174 #[.slice (some ⟨b, off, none⟩) ds.length cap, v, .int .u32 (f : Nat)] w fun e w' =>
      ∃ ds' r, e = .returned (.int .u64 (r : Nat)) ∧ r ≤ 4294967296 ∧ ds'.length = ds.length ∧ Dig ds' ∧ Row w' b off ds' ∧ Upd b off ds.length w w' ∧ val ds' + f * val es = val ds + 4294967296 ^ ds.length * r := by
  have hv0 := hv
  obtain ⟨ao, cap', rfl, hc', _⟩ := hv
  go_enter Tryz.func174, Tryz.ntmps174
  go_wp2
  go_loopw [7, 8, 13] (fun cv bv i wr => ∃ (k c bw : Nat) (cur : List Nat), k ≤ ds.length ∧ c < 4294967296 ∧ bw ≤ 1 ∧ i = .int .i64 (k : Nat) ∧ cv = .int .u64 (c : Nat) ∧ bv = .int .u64 (bw : Nat) ∧ Hid (cur.length = ds.length) ∧ Dig cur ∧ Row wr b off cur ∧ Upd b off ds.length w wr ∧
      Hid (cur.drop k = ds.drop k) ∧ Hid (val (cur.take k) + f * val (es.take k) = val (ds.take k) + 4294967296 ^ k * (c + bw))) (fun _ _ i _ => ds.length - (intOf i).toNat)
  case atStart => exact ⟨0, 0, 0, ds, Nat.zero_le _, by omega, by omega, rfl, rfl, rfl, rfl, hd, hrow, Upd.refl _ _ _ _, rfl, by simp [Hid, val]⟩
  case round =>
    obtain ⟨k, c, bw, cur, hk, hc, hbw, rfl, rfl, rfl, hcl, hcd, hcr, hup, hdr, hval⟩ := hrel
    by_cases hlt : k < ds.length
    · by_cases hke : k < es.length
      · obtain ⟨ao2, cap2, he2, _, hr2⟩ := hv0.upd hup
        simp only [Value.slice.injEq] at he2
        obtain ⟨rfl, _, rfl⟩ := he2
        obtain ⟨b', off', rfl, hb', hbb, hrow'⟩ := hr2 (by intro e; simp [e] at hke)
        have hx := hcr k (by rw [hcl.out]; exact hlt)
        rw [getD_of_drop hdr.out] at hx
        have hy := hrow' k hke
        have hxl := hd.get k
        have hyl := hd'.get k
        have hfz : wr.frozen? ⟨b, off + k, none⟩ = false := hup.free hfr k hlt
        have hkc : k < cur.length := by rw [hcl.out]; exact hlt
        have hset := fun z => hcr.setCell k z hkc
        have hupd := fun z => hup.setCell k hlt z
        have hst := fun z c' bw' => take_step (z := z) (c' := c') (bw' := bw') hkc hval.out
        clear hr2 hval
        generalize ds.getD k 0 = x at *
        generalize es.getD k 0 = y at *
        obtain ⟨hp3, hp2⟩ := mul_bd f y hf hyl
        have hfy : ((f * y : Nat) : Int) = (f : Int) * (y : Int) := by simp
        by_cases hneg : x < (c + f * y) % 4294967296 + bw
        · have hneg2 : (x : Int) < ((c : Int) + (f : Int) * (y : Int)) % 4294967296 + bw := by omega
          obtain ⟨g1, g2⟩ := gap_neg x (((c : Int) + (f : Int) * (y : Int)) % 4294967296) bw (by omega) (by omega) (by omega) (by omega) (by omega) (by omega) hneg2
          have HS := hst (x + 4294967296 - (c + f * y) % 4294967296 - bw) ((c + f * y) / 4294967296) 1 (by omega)
          have hset := hset (x + 4294967296 - (c + f * y) % 4294967296 - bw)
          have hupd := hupd (.int .u32 ((x + 4294967296 - (c + f * y) % 4294967296 - bw : Nat) : Int))
          have ez : ((x + 4294967296 - (c + f * y) % 4294967296 - bw : Nat) : Int) = IntKind.u64.wrap (IntKind.u64.wrap (↑x - (↑c + ↑f * ↑y) % 4294967296) - ↑bw) % 4294967296 := by rw [g1]; omega
          rw [ez] at hset hupd
          have E2 : Hid ((((c + f * y) / 4294967296 : Nat) : Int) = ((c : Int) + f * y) / 4294967296) := by rw [Hid]; omega
          have hzl : x + 4294967296 - (c + f * y) % 4294967296 - bw < 4294967296 := by omega
          have hcl2 : (c + f * y) / 4294967296 < 4294967296 := by omega
          have HS := hide HS
          have G2 := hide g2
          have HZ := hide hzl
          clear hst ez g1 g2 hfy hneg hneg2 hzl
          go_wp2
          go_roundw
          case rel => exact ⟨k + 1, (c + f * y) / 4294967296, 1, _, by omega, hcl2, by omega, by go_num, by rw [E2.out], by rw [unhide G2]; rfl, by rw [Hid, List.length_set, hcl.out], hcd.set _ _ (unhide HZ), hset, hupd, by rw [Hid, drop_set_succ]; exact drop_tail hdr.out, unhide HS⟩
          case measure => simp [intOf]; omega
        · have hneg2 : ((c : Int) + (f : Int) * (y : Int)) % 4294967296 + bw ≤ (x : Int) := by omega
          have HS := hst (x - (c + f * y) % 4294967296 - bw) ((c + f * y) / 4294967296) 0 (by omega)
          have hset := hset (x - (c + f * y) % 4294967296 - bw)
          have hupd := hupd (.int .u32 ((x - (c + f * y) % 4294967296 - bw : Nat) : Int))
          have ez : ((x - (c + f * y) % 4294967296 - bw : Nat) : Int) = (↑x - (↑c + ↑f * ↑y) % 4294967296) - ↑bw := by omega
          rw [ez] at hset hupd
          have E2 : Hid ((((c + f * y) / 4294967296 : Nat) : Int) = ((c : Int) + f * y) / 4294967296) := by rw [Hid]; omega
          have hzl : x - (c + f * y) % 4294967296 - bw < 4294967296 := by omega
          have hcl2 : (c + f * y) / 4294967296 < 4294967296 := by omega
          have G2 : Hid ((↑x - (↑c + ↑f * ↑y) % 4294967296 - ↑bw : Int) / 9223372036854775808 = 0) := by rw [Hid]; omega
          have HS := hide HS
          have HZ := hide hzl
          clear hst ez hfy hneg hzl
          go_wp2
          go_roundw
          case rel => exact ⟨k + 1, (c + f * y) / 4294967296, 0, _, by omega, hcl2, by omega, by go_num, by rw [E2.out], by rw [G2.out]; rfl, by rw [Hid, List.length_set, hcl.out], hcd.set _ _ (unhide HZ), hset, hupd, by rw [Hid, drop_set_succ]; exact drop_tail hdr.out, unhide HS⟩
          case measure => simp [intOf]; omega
      · have hke2 : es.length ≤ k := by omega
        by_cases hcb : c = 0 ∧ bw = 0
        · obtain ⟨rfl, rfl⟩ := hcb
          have HD := hide (take_done (by rw [hcl.out]; omega) hcl.out hke2 hdr.out hval.out)
          clear hval
          go_wp2
          go_ret
          exact ⟨cur, 0, rfl, by omega, hcl.out, hcd, hcr, hup, HD.out⟩
        · have hx := hcr k (by rw [hcl.out]; exact hlt)
          rw [getD_of_drop hdr.out] at hx
          have hxl := hd.get k
          have hfz : wr.frozen? ⟨b, off + k, none⟩ = false := hup.free hfr k hlt
          have hkc : k < cur.length := by rw [hcl.out]; exact hlt
          have hset := fun z => hcr.setCell k z hkc
          have hupd := fun z => hup.setCell k hlt z
          have hst := fun z c' bw' => take_step (z := z) (c' := c') (bw' := bw') hkc hval.out
          rw [getD_none es k hke2] at hst
          clear hval
          generalize ds.getD k 0 = x at *
          by_cases hc0 : c = 0
          · subst hc0
            have hb1 : ((bw : Int) == 0) = false := beq_eq_false_iff_ne.2 (by omega)
            by_cases hneg : x < bw
            · obtain ⟨g1, g2⟩ := gap_neg1 x bw (by omega) (by omega) (by omega)
              have HS := hide (hst (x + 4294967296 - bw) 0 1 (by omega))
              have hset := hset (x + 4294967296 - bw)
              have hupd := hupd (.int .u32 ((x + 4294967296 - bw : Nat) : Int))
              have ez : ((x + 4294967296 - bw : Nat) : Int) = IntKind.u64.wrap (↑x - ↑bw) % 4294967296 := by rw [g1]; omega
              rw [ez] at hset hupd
              have HZ := hide (show x + 4294967296 - bw < 4294967296 by omega)
              have G2 := hide g2
              clear hst ez g1 g2 hcb
              go_wp2
              go_roundw
              case rel => exact ⟨k + 1, 0, 1, _, by omega, by omega, by omega, by go_num, rfl, by rw [G2.out]; rfl, by rw [Hid, List.length_set, hcl.out], hcd.set _ _ HZ.out, hset, hupd, by rw [Hid, drop_set_succ]; exact drop_tail hdr.out, HS.out⟩
              case measure => simp [intOf]; omega
            · have HS := hide (hst (x - bw) 0 0 (by omega))
              have hset := hset (x - bw)
              have hupd := hupd (.int .u32 ((x - bw : Nat) : Int))
              have ez : ((x - bw : Nat) : Int) = ↑x - ↑bw := by omega
              rw [ez] at hset hupd
              have HZ := hide (show x - bw < 4294967296 by omega)
              have G2 := hide (show ((x : Int) - bw) / 9223372036854775808 = 0 by omega)
              have hnn : (bw : Int) ≤ x := by omega
              clear hst ez hcb hneg
              go_wp2
              go_roundw
              case rel => exact ⟨k + 1, 0, 0, _, by omega, by omega, by omega, by go_num, rfl, by rw [G2.out]; rfl, by rw [Hid, List.length_set, hcl.out], hcd.set _ _ HZ.out, hset, hupd, by rw [Hid, drop_set_succ]; exact drop_tail hdr.out, HS.out⟩
              case measure => simp [intOf]; omega
          · have hc1 : ((c : Int) == 0) = false := beq_eq_false_iff_ne.2 (by omega)
            have E2 := hide (show (c : Int) / 4294967296 = 0 by omega)
            by_cases hneg : x < c + bw
            · have hneg2 : (x : Int) < (c : Int) + bw := by omega
              obtain ⟨g1, g2⟩ := gap_neg x c bw (by omega) (by omega) (by omega) (by omega) (by omega) (by omega) hneg2
              have HS := hide (hst (x + 4294967296 - c - bw) 0 1 (by omega))
              have hset := hset (x + 4294967296 - c - bw)
              have hupd := hupd (.int .u32 ((x + 4294967296 - c - bw : Nat) : Int))
              have ez : ((x + 4294967296 - c - bw : Nat) : Int) = IntKind.u64.wrap (IntKind.u64.wrap (↑x - ↑c) - ↑bw) % 4294967296 := by rw [g1]; omega
              rw [ez] at hset hupd
              have HZ := hide (show x + 4294967296 - c - bw < 4294967296 by omega)
              have G2 := hide g2
              clear hst ez g1 g2 hneg hneg2 hcb hc0
              go_wp2
              go_roundw
              case rel => exact ⟨k + 1, 0, 1, _, by omega, by omega, by omega, by go_num, by rw [E2.out]; rfl, by rw [G2.out]; rfl, by rw [Hid, List.length_set, hcl.out], hcd.set _ _ HZ.out, hset, hupd, by rw [Hid, drop_set_succ]; exact drop_tail hdr.out, HS.out⟩
              case measure => simp [intOf]; omega
            · have HS := hide (hst (x - c - bw) 0 0 (by omega))
              have hset := hset (x - c - bw)
              have hupd := hupd (.int .u32 ((x - c - bw : Nat) : Int))
              have ez : ((x - c - bw : Nat) : Int) = ↑x - ↑c - ↑bw := by omega
              rw [ez] at hset hupd
              have HZ := hide (show x - c - bw < 4294967296 by omega)
              have G2 := hide (show ((x : Int) - c - bw) / 9223372036854775808 = 0 by omega)
              have hnn : (c : Int) + bw ≤ x := by omega
              clear hst ez hcb hneg hc0
              go_wp2
              go_roundw
              case rel => exact ⟨k + 1, 0, 0, _, by omega, by omega, by omega, by go_num, by rw [E2.out]; rfl, by rw [G2.out]; rfl, by rw [Hid, List.length_set, hcl.out], hcd.set _ _ HZ.out, hset, hupd, by rw [Hid, drop_set_succ]; exact drop_tail hdr.out, HS.out⟩
              case measure => simp [intOf]; omega
    · have hkd : k = ds.length := by omega
      have HV : Hid (val cur + f * val es = val ds + 4294967296 ^ ds.length * (c + bw)) := by
        have := hval.out
        rw [List.take_of_length_le (by rw [hcl.out]; omega), List.take_of_length_le (by omega), List.take_of_length_le (by omega), hkd] at this
        exact this
      clear hval hkd
      go_wp2
      go_ret
      exact ⟨cur, c + bw, by go_num, by omega, hcl.out, hcd, hcr, hup, HV.out⟩
end Go.Proofs.YtcmdglfjnepahaaGreatDoor
