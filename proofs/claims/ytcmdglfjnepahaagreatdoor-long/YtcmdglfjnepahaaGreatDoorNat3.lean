/-
  What addInto of package natural does.
-/
import Derived.Test.YtcmdglfjnepahaaGreatDoorNat2
set_option linter.unusedSimpArgs false
set_option linter.unusedVariables false
namespace Go.Proofs.YtcmdglfjnepahaaGreatDoor
open Go.RowKit

set_option maxHeartbeats 1000000 in
theorem addInto_any (w : World) (b off cap : Nat) (ds es : List Nat) (v : Value) (hcap : ds.length ≤ cap) (hlen : ds.length ≤ 1073741824) (hes : es.length ≤ ds.length)
    (hrow : Row w b off ds) (hfr : Free w b off ds.length) (hd : Dig ds) (hv : U32b w b v es) (hd' : Dig es) :
    Calls Tryz.prog 168 #[.slice (some ⟨b, off, none⟩) ds.length cap, v] w fun e w' => e = .returned (.tuple #[]) ∧
      ∃ ds' c, ds'.length = ds.length ∧ Dig ds' ∧ Row w' b off ds' ∧ Upd b off ds.length w w' ∧ val ds' + 4294967296 ^ ds.length * c = val ds + val es := by
  have hv0 := hv
  obtain ⟨ao, cap', rfl, hc', _⟩ := hv
  go_enter Tryz.func168, Tryz.ntmps168
  go_wp2
  go_loopw [4, 8] (fun cv i wr => ∃ (k c : Nat) (cur : List Nat), k ≤ ds.length ∧ c ≤ 1 ∧ i = .int .i64 (k : Nat) ∧ cv = .int .u64 (c : Nat) ∧ Hid (cur.length = ds.length) ∧ Dig cur ∧ Row wr b off cur ∧ Upd b off ds.length w wr ∧
      Hid (cur.drop k = ds.drop k) ∧ Hid (val (cur.take k) + 4294967296 ^ k * c = val (ds.take k) + val (es.take k))) (fun _ i _ => ds.length - (intOf i).toNat)
  case atStart => exact ⟨0, 0, ds, Nat.zero_le _, by omega, rfl, rfl, rfl, hd, hrow, Upd.refl _ _ _ _, rfl, by simp [Hid, val]⟩
  case round =>
    obtain ⟨k, c, cur, hk, hc, rfl, rfl, hcl, hcd, hcr, hup, hdr, hval⟩ := hrel
    by_cases hlt : k < ds.length
    · by_cases hke : k < es.length
      · obtain ⟨ao2, cap2, he2, _, hr2⟩ := hv0.upd hup
        simp only [Value.slice.injEq] at he2
        obtain ⟨rfl, _, rfl⟩ := he2
        obtain ⟨b', off', rfl, hb', hbb, hrow'⟩ := hr2 (by intro e; simp [e] at hke)
        have hx := hcr k (by rw [hcl.out]; exact hlt)
        rw [getD_of_drop hdr.out] at hx
        have hy := hrow' k hke
        have hxl := hd.get k
        have hyl := hd'.get k
        have hfz : wr.frozen? ⟨b, off + k, none⟩ = false := hup.free hfr k hlt
        have hstep := add_step (by rw [hcl.out]; exact hlt) hval.out
        have hset := hcr.setCell k ((c + ds.getD k 0 + es.getD k 0) % 4294967296) (by rw [hcl.out]; exact hlt)
        have hupd := hup.setCell k hlt (.int .u32 (((c + ds.getD k 0 + es.getD k 0) % 4294967296 : Nat) : Int))
        have HS : Hid (val ((cur.set k ((c + ds.getD k 0 + es.getD k 0) % 4294967296)).take (k + 1)) + 4294967296 ^ (k + 1) * ((c + ds.getD k 0 + es.getD k 0) / 4294967296) = val (ds.take (k + 1)) + val (es.take (k + 1))) := hstep
        clear hstep hr2 hval
        generalize ds.getD k 0 = x at *
        generalize es.getD k 0 = y at *
        have e1 : (((c + x + y) % 4294967296 : Nat) : Int) = ((c : Int) + x + y) % 4294967296 := by omega
        have e2 : (((c + x + y) / 4294967296 : Nat) : Int) = ((c : Int) + x + y) / 4294967296 := by omega
        rw [e1] at hset hupd
        have E2 : Hid ((((c + x + y) / 4294967296 : Nat) : Int) = ((c : Int) + x + y) / 4294967296) := e2
        clear e1 e2
        go_wp2
        go_roundw
        case rel => exact ⟨k + 1, (c + x + y) / 4294967296, _, by omega, by omega, by go_num, by rw [E2.out], by rw [Hid, List.length_set, hcl.out], hcd.set _ _ (Nat.mod_lt _ (by decide)), hset, hupd, by rw [Hid, drop_set_succ]; exact drop_tail hdr.out, HS⟩
        case measure => simp [intOf]; omega
      · by_cases hc0 : c = 0
        · subst hc0
          have hdone := add_done (by rw [hcl.out]; omega) hcl.out (by omega) hdr.out hval.out
          have HD : Hid (val cur + 4294967296 ^ ds.length * 0 = val ds + val es) := hdone
          clear hdone hval
          have hke2 : es.length ≤ k := by omega
          go_wp2
          refine bodyPost_ret (results_none rfl _ _ _) rfl ?_
          exact ⟨rfl, cur, 0, hcl.out, hcd, hcr, hup, HD.out⟩
        · have hx := hcr k (by rw [hcl.out]; exact hlt)
          rw [getD_of_drop hdr.out] at hx
          have hxl := hd.get k
          have hfz : wr.frozen? ⟨b, off + k, none⟩ = false := hup.free hfr k hlt
          have hstep := add_step (by rw [hcl.out]; exact hlt) hval.out
          rw [getD_none es k (by omega), Nat.add_zero] at hstep
          have hset := hcr.setCell k ((c + ds.getD k 0) % 4294967296) (by rw [hcl.out]; exact hlt)
          have hupd := hup.setCell k hlt (.int .u32 (((c + ds.getD k 0) % 4294967296 : Nat) : Int))
          have HS : Hid (val ((cur.set k ((c + ds.getD k 0) % 4294967296)).take (k + 1)) + 4294967296 ^ (k + 1) * ((c + ds.getD k 0) / 4294967296) = val (ds.take (k + 1)) + val (es.take (k + 1))) := hstep
          clear hstep hval
          generalize ds.getD k 0 = x at *
          have e1 : (((c + x) % 4294967296 : Nat) : Int) = ((c : Int) + x) % 4294967296 := by omega
          have e2 : (((c + x) / 4294967296 : Nat) : Int) = ((c : Int) + x) / 4294967296 := by omega
          rw [e1] at hset hupd
          have E2 : Hid ((((c + x) / 4294967296 : Nat) : Int) = ((c : Int) + x) / 4294967296) := e2
          clear e1 e2
          have hc2 : ((c : Int) == 0) = false := beq_eq_false_iff_ne.2 (by omega)
          have hke2 : es.length ≤ k := by omega
          go_wp2
          go_roundw
          case rel => exact ⟨k + 1, (c + x) / 4294967296, _, by omega, by omega, by go_num, by rw [E2.out], by rw [Hid, List.length_set, hcl.out], hcd.set _ _ (Nat.mod_lt _ (by decide)), hset, hupd, by rw [Hid, drop_set_succ]; exact drop_tail hdr.out, HS⟩
          case measure => simp [intOf]; omega
    · have hkd : k = ds.length := by omega
      have HV : Hid (val cur + 4294967296 ^ ds.length * c = val ds + val es) := by
        have := hval.out
        rw [List.take_of_length_le (by rw [hcl.out]; omega), List.take_of_length_le (by omega), List.take_of_length_le (by omega), hkd] at this
        exact this
      clear hval hkd
      go_wp2
      go_end0
      exact ⟨rfl, cur, c, hcl.out, hcd, hcr, hup, HV.out⟩
end Go.Proofs.YtcmdglfjnepahaaGreatDoor
