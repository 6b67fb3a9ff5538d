/-
  Part 2 of the texts ahead of Pks1: Nat3, Nat4, Num2, Nat5, Mem2, Nat6.
-/
import Derived.Test.YtnhfdcfnojnofaaGreatDoorPks1Z1
import Derived.Laws.CopyOwn
set_option linter.unusedSimpArgs false
set_option linter.unusedVariables false
/-
  What addInto of package natural does.
-/
namespace Go.Proofs.YtnhfdcfnojnofaaGreatDoor
open Go.RowKit

set_option maxHeartbeats 1000000 in
theorem addInto_any (w : World) (b off cap : Nat) (ds es : List Nat) (v : Value) (hcap : ds.length ≤ cap) (hlen : ds.length ≤ 1073741824) (hes : es.length ≤ ds.length)
    (hrow : Row w b off ds) (hfr : Free w b off ds.length) (hd : Dig ds) (hv : U32b w b v es) (hd' : Dig es) :
    Calls Tryz.prog 306 #[.slice (some ⟨b, off, none⟩) ds.length cap, v] w fun e w' => e = .returned (.tuple #[]) ∧
      ∃ ds' c, ds'.length = ds.length ∧ Dig ds' ∧ Row w' b off ds' ∧ Upd b off ds.length w w' ∧ val ds' + 4294967296 ^ ds.length * c = val ds + val es := by
  have hv0 := hv
  obtain ⟨ao, cap', rfl, hc', _⟩ := hv
  go_enter Tryz.func306, Tryz.ntmps306
  go_wp2
  go_loopw [4, 8] (fun cv i wr => ∃ (k c : Nat) (cur : List Nat), k ≤ ds.length ∧ c ≤ 1 ∧ i = .int .i64 (k : Nat) ∧ cv = .int .u64 (c : Nat) ∧ Hid (cur.length = ds.length) ∧ Dig cur ∧ Row wr b off cur ∧ Upd b off ds.length w wr ∧
      Hid (cur.drop k = ds.drop k) ∧ Hid (val (cur.take k) + 4294967296 ^ k * c = val (ds.take k) + val (es.take k))) (fun _ i _ => ds.length - (intOf i).toNat)
  case atStart => exact ⟨0, 0, ds, Nat.zero_le _, by omega, rfl, rfl, rfl, hd, hrow, Upd.refl _ _ _ _, rfl, by simp [Hid, val]⟩
  case round =>
    obtain ⟨k, c, cur, hk, hc, rfl, rfl, hcl, hcd, hcr, hup, hdr, hval⟩ := hrel
    by_cases hlt : k < ds.length
    · by_cases hke : k < es.length
      · obtain ⟨ao2, cap2, he2, _, hr2⟩ := hv0.upd hup
        simp only [Value.slice.injEq] at he2
        obtain ⟨rfl, _, rfl⟩ := he2
        obtain ⟨b', off', rfl, hb', hbb, hrow'⟩ := hr2 (by intro e; simp [e] at hke)
        have hx := hcr k (by rw [hcl.out]; exact hlt)
        rw [getD_of_drop hdr.out] at hx
        have hy := hrow' k hke
        have hxl := hd.get k
        have hyl := hd'.get k
        have hfz : wr.frozen? ⟨b, off + k, none⟩ = false := hup.free hfr k hlt
        have hstep := add_step (by rw [hcl.out]; exact hlt) hval.out
        have hset := hcr.setCell k ((c + ds.getD k 0 + es.getD k 0) % 4294967296) (by rw [hcl.out]; exact hlt)
        have hupd := hup.setCell k hlt (.int .u32 (((c + ds.getD k 0 + es.getD k 0) % 4294967296 : Nat) : Int))
        have HS : Hid (val ((cur.set k ((c + ds.getD k 0 + es.getD k 0) % 4294967296)).take (k + 1)) + 4294967296 ^ (k + 1) * ((c + ds.getD k 0 + es.getD k 0) / 4294967296) = val (ds.take (k + 1)) + val (es.take (k + 1))) := hstep
        clear hstep hr2 hval
        generalize ds.getD k 0 = x at *
        generalize es.getD k 0 = y at *
        have e1 : (((c + x + y) % 4294967296 : Nat) : Int) = ((c : Int) + x + y) % 4294967296 := by omega
        have e2 : (((c + x + y) / 4294967296 : Nat) : Int) = ((c : Int) + x + y) / 4294967296 := by omega
        rw [e1] at hset hupd
        have E2 : Hid ((((c + x + y) / 4294967296 : Nat) : Int) = ((c : Int) + x + y) / 4294967296) := e2
        clear e1 e2
        go_wp2
        go_roundw
        case rel => exact ⟨k + 1, (c + x + y) / 4294967296, _, by omega, by omega, by go_num, by rw [E2.out], by rw [Hid, List.length_set, hcl.out], hcd.set _ _ (Nat.mod_lt _ (by decide)), hset, hupd, by rw [Hid, drop_set_succ]; exact drop_tail hdr.out, HS⟩
        case measure => simp [intOf]; omega
      · by_cases hc0 : c = 0
        · subst hc0
          have hdone := add_done (by rw [hcl.out]; omega) hcl.out (by omega) hdr.out hval.out
          have HD : Hid (val cur + 4294967296 ^ ds.length * 0 = val ds + val es) := hdone
          clear hdone hval
          have hke2 : es.length ≤ k := by omega
          go_wp2
          refine bodyPost_ret (results_none rfl _ _ _) rfl ?_
          exact ⟨rfl, cur, 0, hcl.out, hcd, hcr, hup, HD.out⟩
        · have hx := hcr k (by rw [hcl.out]; exact hlt)
          rw [getD_of_drop hdr.out] at hx
          have hxl := hd.get k
          have hfz : wr.frozen? ⟨b, off + k, none⟩ = false := hup.free hfr k hlt
          have hstep := add_step (by rw [hcl.out]; exact hlt) hval.out
          rw [getD_none es k (by omega), Nat.add_zero] at hstep
          have hset := hcr.setCell k ((c + ds.getD k 0) % 4294967296) (by rw [hcl.out]; exact hlt)
          have hupd := hup.setCell k hlt (.int .u32 (((c + ds.getD k 0) % 4294967296 : Nat) : Int))
          have HS : Hid (val ((cur.set k ((c + ds.getD k 0) % 4294967296)).take (k + 1)) + 4294967296 ^ (k + 1) * ((c + ds.getD k 0) / 4294967296) = val (ds.take (k + 1)) + val (es.take (k + 1))) := hstep
          clear hstep hval
          generalize ds.getD k 0 = x at *
          have e1 : (((c + x) % 4294967296 : Nat) : Int) = ((c : Int) + x) % 4294967296 := by omega
          have e2 : (((c + x) / 4294967296 : Nat) : Int) = ((c : Int) + x) / 4294967296 := by omega
          rw [e1] at hset hupd
          have E2 : Hid ((((c + x) / 4294967296 : Nat) : Int) = ((c : Int) + x) / 4294967296) := e2
          clear e1 e2
          have hc2 : ((c : Int) == 0) = false := beq_eq_false_iff_ne.2 (by omega)
          have hke2 : es.length ≤ k := by omega
          go_wp2
          go_roundw
          case rel => exact ⟨k + 1, (c + x) / 4294967296, _, by omega, by omega, by go_num, by rw [E2.out], by rw [Hid, List.length_set, hcl.out], hcd.set _ _ (Nat.mod_lt _ (by decide)), hset, hupd, by rw [Hid, drop_set_succ]; exact drop_tail hdr.out, HS⟩
          case measure => simp [intOf]; omega
    · have hkd : k = ds.length := by omega
      have HV : Hid (val cur + 4294967296 ^ ds.length * c = val ds + val es) := by
        have := hval.out
        rw [List.take_of_length_le (by rw [hcl.out]; omega), List.take_of_length_le (by omega), List.take_of_length_le (by omega), hkd] at this
        exact this
      clear hval hkd
      go_wp2
      go_end0
      exact ⟨rfl, cur, c, hcl.out, hcd, hcr, hup, HV.out⟩
end Go.Proofs.YtnhfdcfnojnofaaGreatDoor

/-
  What takeTimes of package natural does.
-/
namespace Go.Proofs.YtnhfdcfnojnofaaGreatDoor
open Go.RowKit

theorem gap_neg (x u bw : Int) (hx : 0 ≤ x) (hx2 : x < 4294967296) (hu : 0 ≤ u) (hu2 : u < 4294967296) (hb : 0 ≤ bw) (hb2 : bw ≤ 1) (h : x < u + bw) :
    IntKind.u64.wrap (IntKind.u64.wrap (x - u) - bw) % 4294967296 = x - u - bw + 4294967296 ∧ IntKind.u64.wrap (IntKind.u64.wrap (x - u) - bw) / 9223372036854775808 = 1 := by
  have e : ∀ n : Int, IntKind.u64.wrap n = n % 18446744073709551616 := fun n => by simp [IntKind.wrap, IntKind.signed, IntKind.bits]
  rw [e, e]
  omega

theorem gap_neg1 (x bw : Int) (hx : 0 ≤ x) (hb2 : bw ≤ 1) (h : x < bw) :
    IntKind.u64.wrap (x - bw) % 4294967296 = x - bw + 4294967296 ∧ IntKind.u64.wrap (x - bw) / 9223372036854775808 = 1 := by
  have e : ∀ n : Int, IntKind.u64.wrap n = n % 18446744073709551616 := fun n => by simp [IntKind.wrap, IntKind.signed, IntKind.bits]
  rw [e]
  omega

set_option maxHeartbeats 2000000 in
theorem takeTimes_any (w : World) (b off cap f : Nat) (ds es : List Nat) (v : Value) (hcap : ds.length ≤ cap) (hlen : ds.length ≤ 1073741824) (hes : es.length ≤ ds.length) (hf : f < 4294967296)
    (hrow : Row w b off ds) (hfr : Free w b off ds.length) (hd : Dig ds) (hv : U32b w b v es) (hd' : Dig es) :
    Calls Tryz.prog 312 #[.slice (some ⟨b, off, none⟩) ds.length cap, v, .int .u32 (f : Nat)] w fun e w' =>
      ∃ ds' r, e = .returned (.int .u64 (r : Nat)) ∧ r ≤ 4294967296 ∧ ds'.length = ds.length ∧ Dig ds' ∧ Row w' b off ds' ∧ Upd b off ds.length w w' ∧ val ds' + f * val es = val ds + 4294967296 ^ ds.length * r := by
  have hv0 := hv
  obtain ⟨ao, cap', rfl, hc', _⟩ := hv
  go_enter Tryz.func312, Tryz.ntmps312
  go_wp2
  go_loopw [7, 8, 13] (fun cv bv i wr => ∃ (k c bw : Nat) (cur : List Nat), k ≤ ds.length ∧ c < 4294967296 ∧ bw ≤ 1 ∧ i = .int .i64 (k : Nat) ∧ cv = .int .u64 (c : Nat) ∧ bv = .int .u64 (bw : Nat) ∧ Hid (cur.length = ds.length) ∧ Dig cur ∧ Row wr b off cur ∧ Upd b off ds.length w wr ∧
      Hid (cur.drop k = ds.drop k) ∧ Hid (val (cur.take k) + f * val (es.take k) = val (ds.take k) + 4294967296 ^ k * (c + bw))) (fun _ _ i _ => ds.length - (intOf i).toNat)
  case atStart => exact ⟨0, 0, 0, ds, Nat.zero_le _, by omega, by omega, rfl, rfl, rfl, rfl, hd, hrow, Upd.refl _ _ _ _, rfl, by simp [Hid, val]⟩
  case round =>
    obtain ⟨k, c, bw, cur, hk, hc, hbw, rfl, rfl, rfl, hcl, hcd, hcr, hup, hdr, hval⟩ := hrel
    by_cases hlt : k < ds.length
    · by_cases hke : k < es.length
      · obtain ⟨ao2, cap2, he2, _, hr2⟩ := hv0.upd hup
        simp only [Value.slice.injEq] at he2
        obtain ⟨rfl, _, rfl⟩ := he2
        obtain ⟨b', off', rfl, hb', hbb, hrow'⟩ := hr2 (by intro e; simp [e] at hke)
        have hx := hcr k (by rw [hcl.out]; exact hlt)
        rw [getD_of_drop hdr.out] at hx
        have hy := hrow' k hke
        have hxl := hd.get k
        have hyl := hd'.get k
        have hfz : wr.frozen? ⟨b, off + k, none⟩ = false := hup.free hfr k hlt
        have hkc : k < cur.length := by rw [hcl.out]; exact hlt
        have hset := fun z => hcr.setCell k z hkc
        have hupd := fun z => hup.setCell k hlt z
        have hst := fun z c' bw' => take_step (z := z) (c' := c') (bw' := bw') hkc hval.out
        clear hr2 hval
        generalize ds.getD k 0 = x at *
        generalize es.getD k 0 = y at *
        obtain ⟨hp3, hp2⟩ := mul_bd f y hf hyl
        have hfy : ((f * y : Nat) : Int) = (f : Int) * (y : Int) := by simp
        by_cases hneg : x < (c + f * y) % 4294967296 + bw
        · have hneg2 : (x : Int) < ((c : Int) + (f : Int) * (y : Int)) % 4294967296 + bw := by omega
          obtain ⟨g1, g2⟩ := gap_neg x (((c : Int) + (f : Int) * (y : Int)) % 4294967296) bw (by omega) (by omega) (by omega) (by omega) (by omega) (by omega) hneg2
          have HS := hst (x + 4294967296 - (c + f * y) % 4294967296 - bw) ((c + f * y) / 4294967296) 1 (by omega)
          have hset := hset (x + 4294967296 - (c + f * y) % 4294967296 - bw)
          have hupd := hupd (.int .u32 ((x + 4294967296 - (c + f * y) % 4294967296 - bw : Nat) : Int))
          have ez : ((x + 4294967296 - (c + f * y) % 4294967296 - bw : Nat) : Int) = IntKind.u64.wrap (IntKind.u64.wrap (↑x - (↑c + ↑f * ↑y) % 4294967296) - ↑bw) % 4294967296 := by rw [g1]; omega
          rw [ez] at hset hupd
          have E2 : Hid ((((c + f * y) / 4294967296 : Nat) : Int) = ((c : Int) + f * y) / 4294967296) := by rw [Hid]; omega
          have hzl : x + 4294967296 - (c + f * y) % 4294967296 - bw < 4294967296 := by omega
          have hcl2 : (c + f * y) / 4294967296 < 4294967296 := by omega
          have HS := hide HS
          have G2 := hide g2
          have HZ := hide hzl
          clear hst ez g1 g2 hfy hneg hneg2 hzl
          go_wp2
          go_roundw
          case rel => exact ⟨k + 1, (c + f * y) / 4294967296, 1, _, by omega, hcl2, by omega, by go_num, by rw [E2.out], by rw [unhide G2]; rfl, by rw [Hid, List.length_set, hcl.out], hcd.set _ _ (unhide HZ), hset, hupd, by rw [Hid, drop_set_succ]; exact drop_tail hdr.out, unhide HS⟩
          case measure => simp [intOf]; omega
        · have hneg2 : ((c : Int) + (f : Int) * (y : Int)) % 4294967296 + bw ≤ (x : Int) := by omega
          have HS := hst (x - (c + f * y) % 4294967296 - bw) ((c + f * y) / 4294967296) 0 (by omega)
          have hset := hset (x - (c + f * y) % 4294967296 - bw)
          have hupd := hupd (.int .u32 ((x - (c + f * y) % 4294967296 - bw : Nat) : Int))
          have ez : ((x - (c + f * y) % 4294967296 - bw : Nat) : Int) = (↑x - (↑c + ↑f * ↑y) % 4294967296) - ↑bw := by omega
          rw [ez] at hset hupd
          have E2 : Hid ((((c + f * y) / 4294967296 : Nat) : Int) = ((c : Int) + f * y) / 4294967296) := by rw [Hid]; omega
          have hzl : x - (c + f * y) % 4294967296 - bw < 4294967296 := by omega
          have hcl2 : (c + f * y) / 4294967296 < 4294967296 := by omega
          have G2 : Hid ((↑x - (↑c + ↑f * ↑y) % 4294967296 - ↑bw : Int) / 9223372036854775808 = 0) := by rw [Hid]; omega
          have HS := hide HS
          have HZ := hide hzl
          clear hst ez hfy hneg hzl
          go_wp2
          go_roundw
          case rel => exact ⟨k + 1, (c + f * y) / 4294967296, 0, _, by omega, hcl2, by omega, by go_num, by rw [E2.out], by rw [G2.out]; rfl, by rw [Hid, List.length_set, hcl.out], hcd.set _ _ (unhide HZ), hset, hupd, by rw [Hid, drop_set_succ]; exact drop_tail hdr.out, unhide HS⟩
          case measure => simp [intOf]; omega
      · have hke2 : es.length ≤ k := by omega
        by_cases hcb : c = 0 ∧ bw = 0
        · obtain ⟨rfl, rfl⟩ := hcb
          have HD := hide (take_done (by rw [hcl.out]; omega) hcl.out hke2 hdr.out hval.out)
          clear hval
          go_wp2
          go_ret
          exact ⟨cur, 0, rfl, by omega, hcl.out, hcd, hcr, hup, HD.out⟩
        · have hx := hcr k (by rw [hcl.out]; exact hlt)
          rw [getD_of_drop hdr.out] at hx
          have hxl := hd.get k
          have hfz : wr.frozen? ⟨b, off + k, none⟩ = false := hup.free hfr k hlt
          have hkc : k < cur.length := by rw [hcl.out]; exact hlt
          have hset := fun z => hcr.setCell k z hkc
          have hupd := fun z => hup.setCell k hlt z
          have hst := fun z c' bw' => take_step (z := z) (c' := c') (bw' := bw') hkc hval.out
          rw [getD_none es k hke2] at hst
          clear hval
          generalize ds.getD k 0 = x at *
          by_cases hc0 : c = 0
          · subst hc0
            have hb1 : ((bw : Int) == 0) = false := beq_eq_false_iff_ne.2 (by omega)
            by_cases hneg : x < bw
            · obtain ⟨g1, g2⟩ := gap_neg1 x bw (by omega) (by omega) (by omega)
              have HS := hide (hst (x + 4294967296 - bw) 0 1 (by omega))
              have hset := hset (x + 4294967296 - bw)
              have hupd := hupd (.int .u32 ((x + 4294967296 - bw : Nat) : Int))
              have ez : ((x + 4294967296 - bw : Nat) : Int) = IntKind.u64.wrap (↑x - ↑bw) % 4294967296 := by rw [g1]; omega
              rw [ez] at hset hupd
              have HZ := hide (show x + 4294967296 - bw < 4294967296 by omega)
              have G2 := hide g2
              clear hst ez g1 g2 hcb
              go_wp2
              go_roundw
              case rel => exact ⟨k + 1, 0, 1, _, by omega, by omega, by omega, by go_num, rfl, by rw [G2.out]; rfl, by rw [Hid, List.length_set, hcl.out], hcd.set _ _ HZ.out, hset, hupd, by rw [Hid, drop_set_succ]; exact drop_tail hdr.out, HS.out⟩
              case measure => simp [intOf]; omega
            · have HS := hide (hst (x - bw) 0 0 (by omega))
              have hset := hset (x - bw)
              have hupd := hupd (.int .u32 ((x - bw : Nat) : Int))
              have ez : ((x - bw : Nat) : Int) = ↑x - ↑bw := by omega
              rw [ez] at hset hupd
              have HZ := hide (show x - bw < 4294967296 by omega)
              have G2 := hide (show ((x : Int) - bw) / 9223372036854775808 = 0 by omega)
              have hnn : (bw : Int) ≤ x := by omega
              clear hst ez hcb hneg
              go_wp2
              go_roundw
              case rel => exact ⟨k + 1, 0, 0, _, by omega, by omega, by omega, by go_num, rfl, by rw [G2.out]; rfl, by rw [Hid, List.length_set, hcl.out], hcd.set _ _ HZ.out, hset, hupd, by rw [Hid, drop_set_succ]; exact drop_tail hdr.out, HS.out⟩
              case measure => simp [intOf]; omega
          · have hc1 : ((c : Int) == 0) = false := beq_eq_false_iff_ne.2 (by omega)
            have E2 := hide (show (c : Int) / 4294967296 = 0 by omega)
            by_cases hneg : x < c + bw
            · have hneg2 : (x : Int) < (c : Int) + bw := by omega
              obtain ⟨g1, g2⟩ := gap_neg x c bw (by omega) (by omega) (by omega) (by omega) (by omega) (by omega) hneg2
              have HS := hide (hst (x + 4294967296 - c - bw) 0 1 (by omega))
              have hset := hset (x + 4294967296 - c - bw)
              have hupd := hupd (.int .u32 ((x + 4294967296 - c - bw : Nat) : Int))
              have ez : ((x + 4294967296 - c - bw : Nat) : Int) = IntKind.u64.wrap (IntKind.u64.wrap (↑x - ↑c) - ↑bw) % 4294967296 := by rw [g1]; omega
              rw [ez] at hset hupd
              have HZ := hide (show x + 4294967296 - c - bw < 4294967296 by omega)
              have G2 := hide g2
              clear hst ez g1 g2 hneg hneg2 hcb hc0
              go_wp2
              go_roundw
              case rel => exact ⟨k + 1, 0, 1, _, by omega, by omega, by omega, by go_num, by rw [E2.out]; rfl, by rw [G2.out]; rfl, by rw [Hid, List.length_set, hcl.out], hcd.set _ _ HZ.out, hset, hupd, by rw [Hid, drop_set_succ]; exact drop_tail hdr.out, HS.out⟩
              case measure => simp [intOf]; omega
            · have HS := hide (hst (x - c - bw) 0 0 (by omega))
              have hset := hset (x - c - bw)
              have hupd := hupd (.int .u32 ((x - c - bw : Nat) : Int))
              have ez : ((x - c - bw : Nat) : Int) = ↑x - ↑c - ↑bw := by omega
              rw [ez] at hset hupd
              have HZ := hide (show x - c - bw < 4294967296 by omega)
              have G2 := hide (show ((x : Int) - c - bw) / 9223372036854775808 = 0 by omega)
              have hnn : (c : Int) + bw ≤ x := by omega
              clear hst ez hcb hneg hc0
              go_wp2
              go_roundw
              case rel => exact ⟨k + 1, 0, 0, _, by omega, by omega, by omega, by go_num, by rw [E2.out]; rfl, by rw [G2.out]; rfl, by rw [Hid, List.length_set, hcl.out], hcd.set _ _ HZ.out, hset, hupd, by rw [Hid, drop_set_succ]; exact drop_tail hdr.out, HS.out⟩
              case measure => simp [intOf]; omega
    · have hkd : k = ds.length := by omega
      have HV : Hid (val cur + f * val es = val ds + 4294967296 ^ ds.length * (c + bw)) := by
        have := hval.out
        rw [List.take_of_length_le (by rw [hcl.out]; omega), List.take_of_length_le (by omega), List.take_of_length_le (by omega), hkd] at this
        exact this
      clear hval hkd
      go_wp2
      go_ret
      exact ⟨cur, c + bw, by go_num, by omega, hcl.out, hcd, hcr, hup, HV.out⟩
end Go.Proofs.YtnhfdcfnojnofaaGreatDoor

/-
  More plain numbers: one round of dividing by a digit; one round of multiplying.
-/
namespace Go.Proofs.YtnhfdcfnojnofaaGreatDoor

theorem take_set_le (ds : List Nat) (k x : Nat) : (ds.set k x).take k = ds.take k := List.take_set_of_le (Nat.le_refl _)

theorem getD_of_take {a b : List Nat} {k : Nat} (h : a.take (k + 1) = b.take (k + 1)) : a.getD k 0 = b.getD k 0 := by
  have e1 : (a.take (k + 1))[k]? = a[k]? := by rw [List.getElem?_take, if_pos (by omega)]
  have e2 : (b.take (k + 1))[k]? = b[k]? := by rw [List.getElem?_take, if_pos (by omega)]
  rw [List.getD_eq_getElem?_getD, List.getD_eq_getElem?_getD, ← e1, ← e2, h]

theorem take_pred {a b : List Nat} {k : Nat} (h : a.take (k + 1) = b.take (k + 1)) : a.take k = b.take k := by
  have e1 : (a.take (k + 1)).take k = a.take k := by rw [List.take_take, Nat.min_eq_left (by omega)]
  have e2 : (b.take (k + 1)).take k = b.take k := by rw [List.take_take, Nat.min_eq_left (by omega)]
  rw [← e1, ← e2, h]

theorem div_step {cur ds : List Nat} {k D r : Nat} (hk : k < cur.length) (hl : cur.length = ds.length) (hi : val (ds.drop (k + 1)) = D * val (cur.drop (k + 1)) + r) :
    val (ds.drop k) = D * val ((cur.set k ((ds.getD k 0 + 4294967296 * r) / D)).drop k) + (ds.getD k 0 + 4294967296 * r) % D := by
  rw [val_drop ds k (by omega), val_drop _ k (by simpa using hk), getD_set_same cur k _ hk, drop_set_succ, hi]
  generalize ds.getD k 0 = x
  generalize val (cur.drop (k + 1)) = Q
  have h1 := Nat.div_add_mod (x + 4294967296 * r) D
  rw [Nat.mul_add D, Nat.mul_left_comm D 4294967296 Q, Nat.mul_add 4294967296]
  omega

theorem div_bd {x D r : Nat} (hx : x < 4294967296) (hr : r < D) : (x + 4294967296 * r) / D < 4294967296 := by
  rw [Nat.div_lt_iff_lt_mul (by omega)]
  have : 4294967296 * (r + 1) ≤ 4294967296 * D := Nat.mul_le_mul_left _ hr
  omega

/-- Nothing is carried out of a sum with one digit more than the longer one. -/
theorem sum_fits {a b s : List Nat} {c : Nat} (ha : Dig a) (hb : Dig b) (hl : b.length ≤ a.length) (h : val s + 4294967296 ^ (a.length + 1) * c = val a + val b) : val s = val a + val b := by
  have h1 := val_lt ha
  have h2 := Nat.lt_of_lt_of_le (val_lt hb) (pow_mono hl)
  rw [Nat.pow_succ] at h
  generalize 4294967296 ^ a.length = p at *
  have h5 : p * 2 ≤ p * 4294967296 := Nat.mul_le_mul_left p (by omega)
  generalize p * 4294967296 = r at *
  cases c with
  | zero => rw [Nat.mul_zero, Nat.add_zero] at h; exact h
  | succ c =>
    exfalso
    rw [Nat.mul_succ r c] at h
    generalize r * c = q at *
    omega

theorem sub_fits {a b s : List Nat} {r L : Nat} (hs : Dig s) (hL : s.length = L) (hle : val b ≤ val a) (h : val s + 1 * val b = val a + 4294967296 ^ L * r) : val s = val a - val b := by
  have h1 := val_lt hs
  rw [hL] at h1
  generalize 4294967296 ^ L = p at *
  cases r with
  | zero => rw [Nat.mul_zero, Nat.add_zero, Nat.one_mul] at h; omega
  | succ r =>
    exfalso
    rw [Nat.mul_succ p r] at h
    generalize p * r = q at *
    omega
end Go.Proofs.YtnhfdcfnojnofaaGreatDoor

/-
  What shortDivide of package natural does.
-/
namespace Go.Proofs.YtnhfdcfnojnofaaGreatDoor
open Go.RowKit

set_option maxHeartbeats 1000000 in
theorem shortDivide_any (w : World) (b off cap D : Nat) (ds : List Nat) (hcap : ds.length ≤ cap) (hlen : ds.length ≤ 1073741824) (hD : 0 < D) (hD2 : D < 4294967296)
    (hrow : Row w b off ds) (hfr : Free w b off ds.length) (hd : Dig ds) :
    Calls Tryz.prog 224 #[.slice (some ⟨b, off, none⟩) ds.length cap, .int .u32 (D : Nat)] w fun e w' =>
      ∃ ds' r, e = .returned (.int .u32 (r : Nat)) ∧ r < D ∧ ds'.length = ds.length ∧ Dig ds' ∧ Row w' b off ds' ∧ Upd b off ds.length w w' ∧ val ds = D * val ds' + r := by
  go_enter Tryz.func224, Tryz.ntmps224
  go_wp2
  go_loopw [5, 6] (fun lv i wr => ∃ (k r : Nat) (cur : List Nat), k ≤ ds.length ∧ r < D ∧ i = .int .i64 ((k : Int) - 1) ∧ lv = .int .u64 (r : Nat) ∧ Hid (cur.length = ds.length) ∧ Dig cur ∧ Row wr b off cur ∧ Upd b off ds.length w wr ∧
      Hid (cur.take k = ds.take k) ∧ Hid (val (ds.drop k) = D * val (cur.drop k) + r)) (fun _ i _ => (intOf i + 1).toNat)
  case atStart => exact ⟨ds.length, 0, ds, Nat.le_refl _, hD, rfl, rfl, rfl, hd, hrow, Upd.refl _ _ _ _, rfl, by simp [Hid, val]⟩
  case round =>
    obtain ⟨k, r, cur, hk, hr, rfl, rfl, hcl, hcd, hcr, hup, htk, hval⟩ := hrel
    cases k with
    | zero =>
      have HV := hide hval.out
      simp only [List.drop_zero] at HV
      clear hval
      go_wp2
      go_ret
      exact ⟨cur, r, by go_num, hr, hcl.out, hcd, hcr, hup, HV.out⟩
    | succ k =>
      have hkc : k < cur.length := by rw [hcl.out]; omega
      have hx := hcr k hkc
      rw [getD_of_take htk.out] at hx
      have hxl := hd.get k
      have hfz : wr.frozen? ⟨b, off + k, none⟩ = false := hup.free hfr k (by omega)
      have HS := hide (div_step hkc hcl.out hval.out)
      have hql := div_bd hxl hr
      have hset := hcr.setCell k ((ds.getD k 0 + 4294967296 * r) / D) hkc
      have hupd := hup.setCell k (show k < ds.length by omega) (.int .u32 (((ds.getD k 0 + 4294967296 * r) / D : Nat) : Int))
      have hor := or_join r (ds.getD k 0) (by omega) hxl
      have hml := Nat.mod_lt (ds.getD k 0 + 4294967296 * r) hD
      have hxb : ds.getD k 0 + 4294967296 * r < 18446744073709551616 := by omega
      generalize ds.getD k 0 = x at *
      have hq1 : ((x + 4294967296 * r : Nat) : Int) / (D : Int) = (((x + 4294967296 * r) / D : Nat) : Int) := by simp
      have hq2 : ((x + 4294967296 * r : Nat) : Int) % (D : Int) = (((x + 4294967296 * r) % D : Nat) : Int) := by simp
      generalize (x + 4294967296 * r) / D = q at *
      generalize (x + 4294967296 * r) % D = r' at *
      generalize x + 4294967296 * r = y at *
      clear hval
      go_wp2
      go_roundw
      case rel => exact ⟨k, r', _, by omega, hml, by go_num, by rw [hq2], by rw [Hid, List.length_set, hcl.out], hcd.set _ _ hql, hset, hupd, by rw [Hid, take_set_le]; exact take_pred htk.out, HS.out⟩
      case measure => simp [intOf]
end Go.Proofs.YtnhfdcfnojnofaaGreatDoor

/-
  make, append and copy on slices of uint32 that the call itself makes.
-/
namespace Go.Proofs.YtnhfdcfnojnofaaGreatDoor
open Go.RowKit

theorem row_of_owns {w : World} {base e g n cap : Nat} {ds : List Nat} (h : w.ownsRow base e 1 (.slice (some ⟨g, 0, none⟩) n cap) n (ds.map fun d : Nat => .int .u32 (d : Int))) (hn : ds.length = n) : Row w g 0 ds := by
  intro i hi
  have := h.cellAt i (by omega)
  rw [Nat.zero_add, this, List.getElem?_map, List.getElem?_eq_getElem hi, List.getD_eq_getElem?_getD, List.getElem?_eq_getElem hi]
  rfl

theorem free_of_owns {w : World} {base e g n cap : Nat} {xs : List Value} (h : w.ownsRow base e 1 (.slice (some ⟨g, 0, none⟩) n cap) n xs) (m : Nat) : Free w g 0 m := by
  intro i _
  rw [Nat.zero_add]
  exact h.frozenAt i

theorem lt_of_owns {w : World} {base e g n cap : Nat} {xs : List Value} (h : w.ownsRow base e 1 (.slice (some ⟨g, 0, none⟩) n cap) n xs) : base ≤ g ∧ g < w.heap.size := h.lt g rfl

/-- A digit as a value. -/
def encD (d : Nat) : Value := .int .u32 (d : Int)

theorem owns_parts {w : World} {base e n : Nat} {v : Value} {ds : List Nat} (h : w.ownsRow base e 1 v n (ds.map encD)) (hne : v ≠ .slice none 0 0) :
    ∃ g cap, v = .slice (some ⟨g, 0, none⟩) n cap ∧ n ≤ cap ∧ base ≤ g ∧ g < w.heap.size ∧ Row w g 0 ds ∧ ∀ m, Free w g 0 m := by
  have h0 := h
  obtain ⟨hl, h1 | ⟨g, cap, cur, hv, hg, hh, hn, _, _, _⟩⟩ := h
  · exact absurd h1.1 hne
  · subst hv
    rw [List.length_map, Nat.mul_one] at hl
    exact ⟨g, cap, rfl, hn, hg, (lt_of_owns h0).2, row_of_owns h0 hl, fun m => free_of_owns h0 m⟩

theorem encD_one (ds : List Nat) : ∀ u ∈ ds.map encD, u.oneCell' = true := by
  intro u hu
  obtain ⟨d, _, rfl⟩ := List.mem_map.1 hu
  rfl

theorem row_news {w : World} {b off : Nat} {ds : List Nat} (h : Row w b off ds) : ∀ j u, (ds.map encD)[j]? = some u → w.cell? ((⟨b, off, none⟩ : Addr).add j) = some u := by
  intro j u hj
  rw [List.getElem?_map] at hj
  cases hd : ds[j]? with
  | none => rw [hd] at hj; simp at hj
  | some d =>
    rw [hd, Option.map_some, Option.some.injEq] at hj
    have hjl : j < ds.length := (List.getElem?_eq_some_iff.1 hd).1
    have := h j hjl
    rw [List.getD_eq_getElem?_getD, hd, Option.getD_some] at this
    subst hj
    by_cases h0 : j = 0
    · subst h0; simpa [Addr.add, encD] using this
    · simpa [Addr.add, encD, h0] using this

/-- 'make([]uint32, n)', n a variable: a new row of noughts. -/
theorem make_u32 {P : Program} (w : World) {ops : Array Oper} {rest : List Oper} {o : Oper} {a : Act} {Q : Exit → Act → World → Prop}
    (hg : o.guard = none) (l c : Operand) (t : TypeId) (hop : o.op = Op.makeSlice t l c)
    (e : TypeId) (i : TypeInfo) (h1 : P.underlying t = some (.slice e)) (h2 : P.info? e = some i) (h3 : i.zero = some (.int .u32 0)) (h4 : i.size = 1) (h5 : i.bytes = 4)
    (kl kc : IntKind) (L C : Int) (n : Nat) (hl : a.eval l = .int kl L) (hc : a.eval c = .int kc C) (hL : L = (n : Int)) (hC : C = (n : Int)) (hn : n ≤ 4294967296)
    (hK : ∀ w', Row w' w.heap.size 0 (List.replicate n 0) → Free w' w.heap.size 0 n → Below w.heap.size w w' → w.heap.size < w'.heap.size →
      wpList P ops Q rest (a.put o.dst (.slice (some ⟨w.heap.size, 0, none⟩) n n)) w') :
    wpList P ops Q (o :: rest) a w := by
  refine wpList_make_full w hg l c t hop w.heap.size e i (.int .u32 0) 1 h1 h2 h3 h4 kl kc L C n hl hc hL hC (by rw [h5]; omega) (by unfold maxLen; omega) (Nat.le_refl _) ?_
  intro w' hown hgrow
  have hcells : (madeCells (Value.int IntKind.u32 0).cells (n * 1)).toList = (List.replicate n 0).map fun d : Nat => .int .u32 (d : Int) := by
    rw [Nat.mul_one, List.map_replicate]
    exact toList_madeCells_one _ _
  rw [hcells] at hown
  exact hK w' (row_of_owns hown (by simp)) (free_of_owns hown n) ((Below.refl _ _).grown hgrow (Nat.le_refl _) (fun k h => by simp at h)) (lt_of_owns hown).2

theorem row_of_block {w : World} {g e : Nat} {ds : List Nat} (h : w.heap[g]? = some (.cells (ds.map encD).toArray e (0, 0))) : Row w g 0 ds ∧ (∀ m, Free w g 0 m) ∧ g < w.heap.size := by
  refine ⟨fun i hi => ?_, fun m i _ => frozen_of_row w g _ _ e h, lt_of_block h⟩
  rw [Nat.zero_add, cell_of_row w g i _ e (0, 0) h, List.getElem?_toArray, List.getElem?_map, List.getElem?_eq_getElem hi, List.getD_eq_getElem?_getD, List.getElem?_eq_getElem hi]
  rfl

/-- 'make([]uint32, n)': what the new block is. -/
theorem make_u32b {P : Program} (w : World) {ops : Array Oper} {rest : List Oper} {o : Oper} {a : Act} {Q : Exit → Act → World → Prop}
    (hg : o.guard = none) (l c : Operand) (t : TypeId) (hop : o.op = Op.makeSlice t l c)
    (e : TypeId) (i : TypeInfo) (h1 : P.underlying t = some (.slice e)) (h2 : P.info? e = some i) (h3 : i.zero = some (.int .u32 0)) (h4 : i.size = 1) (h5 : i.bytes = 4)
    (kl kc : IntKind) (L C : Int) (n : Nat) (hl : a.eval l = .int kl L) (hc : a.eval c = .int kc C) (hL : L = (n : Int)) (hC : C = (n : Int)) (hn : n ≤ 4294967296)
    (hK : ∀ w', Hid (w'.heap[w.heap.size]? = some (.cells ((List.replicate n 0).map encD).toArray e (0, 0))) → Below w.heap.size w w' →
      wpList P ops Q rest (a.put o.dst (.slice (some ⟨w.heap.size, 0, none⟩) n n)) w') :
    wpList P ops Q (o :: rest) a w := by
  refine wpList_make_full w hg l c t hop w.heap.size e i (.int .u32 0) 1 h1 h2 h3 h4 kl kc L C n hl hc hL hC (by rw [h5]; omega) (by unfold maxLen; omega) (Nat.le_refl _) ?_
  intro w' hown hgrow
  have hcells : (madeCells (Value.int IntKind.u32 0).cells (n * 1)).toList = (List.replicate n 0).map encD := by
    rw [Nat.mul_one, List.map_replicate]
    exact toList_madeCells_one _ _
  rw [hcells] at hown
  refine hK w' ?_ ((Below.refl _ _).grown hgrow (Nat.le_refl _) (fun k h => by simp at h))
  obtain ⟨_, h1 | ⟨g, cap, cur, hv, _, hh, _, _, hsz, htk⟩⟩ := hown
  · exact absurd h1.1 (by simp)
  · simp only [Value.slice.injEq, Option.some.injEq, Addr.mk.injEq] at hv
    obtain ⟨⟨rfl, _, _⟩, _, rfl⟩ := hv
    rw [List.take_of_length_le (by simp; omega)] at htk
    rw [Hid, hh, ← htk]

/-- 'copy(dst, src)' into a row of the call's own, of digits. -/
theorem copy_u32 {P : Program} {w : World} {ops : Array Oper} {rest : List Oper} {o : Oper} {a : Act} {Q : Exit → Act → World → Prop} (hgd : o.guard = none) (d s : Operand) (dT sT : TypeId)
    (ho : o.op = .call { callee := .builtin .copy, args := #[d, s], argTypes := #[dT, sT] }) (e : TypeId) (hu : P.underlying dT = some (.slice e)) (hsz : (P.info? e).map (·.size) = some 1)
    (g dLen dCap : Nat) (v : Value) (ds es : List Nat) (hd : a.eval d = .slice (some ⟨g, 0, none⟩) dLen dCap) (hdl : ds.length = dLen) (hs : a.eval s = v) (hv : U32s w v es)
    (hg : w.heap[g]? = some (.cells (ds.map encD).toArray e (0, 0))) (hle : es.length ≤ ds.length) (B : Nat) (w0 : World) (hb : Below B w0 w) (hBg : B ≤ g)
    (h : ∀ w', Hid (w'.heap[g]? = some (.cells ((es ++ ds.drop es.length).map encD).toArray e (0, 0))) → Below B w0 w' → wpList P ops Q rest (a.put o.dst (goInt es.length)) w') :
    wpList P ops Q (o :: rest) a w := by
  obtain ⟨ao, cap, hv, _, hr⟩ := hv
  refine wpList_copy_splice hgd d s dT sT ho e hu hsz (some ⟨g, 0, none⟩) ao dLen dCap es.length cap hd (hs.trans hv) g 0 (ds.map encD) e hg (es.map encD) (by rw [List.length_map]; exact (Nat.min_eq_left (by omega)).symm) ?_ (by simp; omega) (encD_one es) B w0 hb hBg ?_
  · intro hpos
    rw [List.length_map] at hpos
    obtain ⟨b, off, rfl, _, hrow⟩ := hr (List.length_pos_iff.1 hpos)
    exact ⟨rfl, _, rfl, row_news hrow⟩
  · intro w' hh hbb
    rw [List.length_map]
    refine h w' ?_ hbb
    have e1 : splice (ds.map encD) 0 (es.map encD) = (es ++ ds.drop es.length).map encD := by simp [splice]
    rw [e1] at hh
    exact hh
end Go.Proofs.YtnhfdcfnojnofaaGreatDoor

/-
  What Times of package natural does.
-/
namespace Go.Proofs.YtnhfdcfnojnofaaGreatDoor
open Go.RowKit

theorem Tryz.info131 : (Tryz.prog.info? 224).map (fun i => (i.zero, i.size, i.bytes)) = some (some (.int .u32 0), 1, 4) := by kernel_rfl

end Go.Proofs.YtnhfdcfnojnofaaGreatDoor
