/-
  What Times of package natural does.
-/
import Derived.Test.YtcmdglfjnepahaaGreatDoorNat5
import Derived.Test.YtcmdglfjnepahaaGreatDoorMem2
set_option linter.unusedSimpArgs false
set_option linter.unusedVariables false
namespace Go.Proofs.YtcmdglfjnepahaaGreatDoor
open Go.RowKit

theorem Tryz.info131 : (Tryz.prog.info? 131).map (fun i => (i.zero, i.size, i.bytes)) = some (some (.int .u32 0), 1, 4) := by kernel_rfl

set_option maxRecDepth 100000 in
set_option maxHeartbeats 1000000 in
theorem times_any (w : World) (u v : Value) (m n J K : Nat) (hu : NatV w u m) (hv : NatV w v n) (hm : m < 4294967296 ^ J) (hn : n < 4294967296 ^ K) (hK : J + K ≤ 1073741824) :
    Calls Tryz.prog 118 #[u, v] w fun e w' => ∃ x, e = .returned x ∧ NatV w' x (m * n) ∧ Below w.heap.size w w' := by
  by_cases hm0 : m = 0
  · subst hm0
    go_enter Tryz.func118, Tryz.ntmps118
    go_wp2_with (go_at_call 44; refine (isZero_yes _ _ hu).mono ?_; rintro e w' ⟨rfl, rfl⟩)
    go_ret
    exact ⟨_, rfl, by rw [Nat.zero_mul]; exact NatV.zero _ _ _, Below.refl _ _⟩
  · by_cases hn0 : n = 0
    · subst hn0
      go_enter Tryz.func118, Tryz.ntmps118
      go_wp2_with fail
      refine (isZero_no _ _ _ hu hm0).mono ?_
      rintro e w' ⟨rfl, rfl⟩
      go_wp2_with fail
      refine (isZero_yes _ _ hv).mono ?_
      rintro e w' ⟨rfl, rfl⟩
      go_wp2
      go_ret
      exact ⟨_, rfl, by rw [Nat.mul_zero]; exact NatV.zero _ _ _, Below.refl _ _⟩
    · have hu0 := hu
      have hv0 := hv
      obtain ⟨ds, ⟨ao, cap, rfl, hc, hr⟩, hd, ht, rfl⟩ := hu
      obtain ⟨es, ⟨ao', cap', rfl, hc', hr'⟩, hd', ht', rfl⟩ := hv
      have hl := ht.len hm
      have hl' := ht'.len hn
      obtain ⟨b, off, rfl, hb, hrow⟩ := hr (fun e => hm0 (by rw [e]; rfl))
      obtain ⟨b', off', rfl, hb', hrow'⟩ := hr' (fun e => hn0 (by rw [e]; rfl))
      obtain ⟨i0, hi, hz0, hz1, hz2⟩ := info_parts Tryz.info131
      go_enter Tryz.func118, Tryz.ntmps118
      go_wp2_with fail
      refine (isZero_no _ _ _ hu0 hm0).mono ?_
      rintro e w' ⟨rfl, rfl⟩
      go_wp2_with fail
      refine (isZero_no _ _ _ hv0 hn0).mono ?_
      rintro e w' ⟨rfl, rfl⟩
      go_wp2_with (at_make; refine make_u32 _ rfl _ _ 60 rfl 131 i0 Tryz.underlying60 hi hz0 hz1 hz2 _ _ _ _ (ds.length + es.length) rfl rfl (by simp) (by simp) (by omega) ?_; intro w1 hrow1 hfr1 hbel1 hsz1)
      have hg0 := hbel1.size
      have hup1 := Upd.refl w'.heap.size 0 (ds.length + es.length) w1
      have hra : Row w1 b off ds := hrow.below hbel1 hb
      have hrb : Row w1 b' off' es := hrow'.below hbel1 hb'
      have hbg : b ≠ w'.heap.size := by omega
      have hbg' : b' ≠ w'.heap.size := by omega
      generalize hgg : w'.heap.size = g at *
      have HG := hide hgg
      clear hgg
      clear hi hz0 hz1 hz2 hu0 hv0 hrow hrow'
      go_loopw [25] (fun i wr => ∃ (k : Nat) (cur : List Nat), k ≤ ds.length ∧ i = .int .i64 (k : Nat) ∧ Hid (cur.length = ds.length + es.length) ∧ Dig cur ∧ Row wr g 0 cur ∧ Upd g 0 (ds.length + es.length) w1 wr ∧
          Hid (val (cur.take (k + es.length)) = val (ds.take k) * val es)) (fun i _ => ds.length - (intOf i).toNat)
      case atStart =>
        refine ⟨0, List.replicate (ds.length + es.length) 0, Nat.zero_le _, rfl, by simp [Hid], ?_, hrow1, hup1, ?_⟩
        · intro d hd; rw [List.mem_replicate] at hd; omega
        · rw [Hid, List.take_replicate, val_replicate]; simp [val]
      case round =>
        obtain ⟨k, cur, hk, rfl, hcl, hcd, hcr, hup, hval⟩ := hrel
        by_cases hlt : k < ds.length
        · have hx := hup.other hbg hra k hlt
          have hxl := hd.get k
          generalize hxd : ds.getD k 0 = d at *
          have HXD := hide hxd
          clear hxd
          go_wp2
          go_loopw [8, 32] (fun cv jv wq => ∃ (j c : Nat) (cur' : List Nat), j ≤ es.length ∧ c < 4294967296 ∧ jv = .int .i64 (j : Nat) ∧ cv = .int .u64 (c : Nat) ∧ Hid (cur'.length = ds.length + es.length) ∧ Dig cur' ∧ Row wq g 0 cur' ∧ Upd g 0 (ds.length + es.length) w1 wq ∧
              Hid (cur'.drop (k + j) = cur.drop (k + j)) ∧ Hid (val (cur'.take (k + j)) + 4294967296 ^ (k + j) * c = val (cur.take (k + j)) + 4294967296 ^ k * (d * val (es.take j)))) (fun _ jv _ => es.length - (intOf jv).toNat)
          case atStart => exact ⟨0, 0, cur, Nat.zero_le _, by omega, rfl, rfl, hcl, hcd, hcr, hup, rfl, by simp [Hid, val]⟩
          case round =>
            obtain ⟨j, c, cur', hj, hc, rfl, rfl, hcl', hcd', hcr', hup', hdr', hval'⟩ := hrel
            by_cases hlj : j < es.length
            · have hkc : k + j < cur'.length := by rw [hcl'.out]; omega
              have hy := hup'.other hbg' hrb j hlj
              have hyl := hd'.get j
              have hz := hcr' (k + j) hkc
              rw [getD_of_drop hdr'.out, Nat.zero_add] at hz
              have hzl := hcd.get (k + j)
              have hfz : wr.frozen? ⟨g, k + j, none⟩ = false := by have := hup'.free hfr1 (k + j) (by omega); rwa [Nat.zero_add] at this
              have HS := hide (mul_step hkc hdr'.out hval'.out)
              have hset := hcr'.setCell (k + j) ((c + (d * es.getD j 0 + cur.getD (k + j) 0)) % 4294967296) hkc
              have hupd := hup'.setCell (k + j) (show k + j < ds.length + es.length by omega) (.int .u32 (((c + (d * es.getD j 0 + cur.getD (k + j) 0)) % 4294967296 : Nat) : Int))
              obtain ⟨hb1, hb2⟩ := mul_bd2 hc hxl hyl hzl
              generalize es.getD j 0 = y at *
              generalize cur.getD (k + j) 0 = z at *
              rw [Nat.zero_add] at hset hupd
              obtain ⟨hp3, hp2⟩ := mul_bd d y hxl hyl
              have hfy : ((d * y : Nat) : Int) = (d : Int) * (y : Int) := by simp
              have e1 : (((c + (d * y + z)) % 4294967296 : Nat) : Int) = ((c : Int) + (d * y + z)) % 4294967296 := by omega
              have e2 : (((c + (d * y + z)) / 4294967296 : Nat) : Int) = ((c : Int) + (d * y + z)) / 4294967296 := by omega
              rw [e1] at hset hupd
              have E2 := hide e2
              have hb3 : (c : Int) + (d * y + z) < 18446744073709551616 := by omega
              clear hval' e1 e2 hfy hb1
              go_wp2
              go_roundw
              case rel => exact ⟨j + 1, (c + (d * y + z)) / 4294967296, _, by omega, hb2, by go_num, by rw [E2.out], by rw [Hid, List.length_set, hcl'.out], hcd'.set _ _ (Nat.mod_lt _ (by decide)), hset, hupd, by rw [Hid, ← Nat.add_assoc, drop_set_succ]; exact drop_tail hdr'.out, HS.out⟩
              case measure => simp [intOf]; omega
            · have hje : j = es.length := by omega
              have hval2 := hval'.out
              rw [hje, List.take_of_length_le (Nat.le_refl es.length)] at hval2
              have hkc : k + es.length < cur'.length := by rw [hcl'.out]; omega
              have HS := hide (mul_end hkc HXD.out.symm hval2 hval.out)
              have hz := hcr' (k + es.length) hkc
              have hset := hcr'.setCell (k + es.length) c hkc
              have hupd := hup'.setCell (k + es.length) (show k + es.length < ds.length + es.length by omega) (.int .u32 (c : Int))
              have hfz : wr.frozen? ⟨g, k + es.length, none⟩ = false := by have := hup'.free hfr1 (k + es.length) (by omega); rwa [Nat.zero_add] at this
              rw [Nat.zero_add] at hz hset hupd
              generalize ((cur'.getD (k + es.length) 0 : Nat) : Int) = zz at *
              clear hval' hval2 hje
              go_wp2
              go_roundw
              case rel => exact ⟨k + 1, _, by omega, by go_num, by rw [Hid, List.length_set, hcl'.out], hcd'.set _ _ hc, hset, hupd, HS.out⟩
              case measure => simp [intOf]; omega
        · have hkd : k = ds.length := by omega
          have hval2 := hval.out
          rw [hkd, List.take_of_length_le (by rw [hcl.out]; omega), List.take_of_length_le (Nat.le_refl ds.length)] at hval2
          have HV := hide hval2
          have hgl : g < wr.heap.size := by rw [hup.size]; exact hsz1
          clear hval hval2 hkd
          go_wp2_with fail
          refine (trim_any _ g 0 (ds.length + es.length) (ds.length + es.length) cur (by omega) (by omega) (by rw [hcl.out]; omega) hcr).mono ?_
          rintro e w2 ⟨rfl, rfl⟩
          go_wp2
          go_ret
          refine ⟨_, rfl, ?_, ?_⟩
          · rw [← HV.out]
            exact natV_trim hcr hcd hgl hcl.out (Nat.le_refl _)
          · rw [HG.out]
            exact hbel1.trans (hup.below (Nat.le_refl _))
end Go.Proofs.YtcmdglfjnepahaaGreatDoor
