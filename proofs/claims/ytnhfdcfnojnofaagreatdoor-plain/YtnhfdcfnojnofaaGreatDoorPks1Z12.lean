/-
  Part 12 of the texts ahead of Pks1: Kpl4, Kpl6.
-/
import Derived.Test.YtnhfdcfnojnofaaGreatDoorPks1Z11
import Derived.Deep.RegionHeld3
set_option linter.unusedSimpArgs false
set_option linter.unusedVariables false
/-
  What the keeper's text of a small problem says (package planeskeep).
-/
namespace Go.Proofs.YtnhfdcfnojnofaaGreatDoor
open Go.RowKit

theorem keep_range (cur : List UInt8) (r : Int × Int) : (⟨cur.toArray⟩ : ByteArray) ++ ⟨#[114, 97, 110, 103, 101, 32]⟩ ++ ⟨(Lib.itoa r.1).toArray⟩ ++ ⟨#[32]⟩ ++ ⟨(Lib.itoa r.2).toArray⟩ ++ ⟨#[10]⟩ = ⟨(cur ++ rangeS r).toArray⟩ := by
  have e1 : (⟨#[114, 97, 110, 103, 101, 32]⟩ : ByteArray) = ⟨([114, 97, 110, 103, 101, 32] : List UInt8).toArray⟩ := rfl
  have e2 : (⟨#[32]⟩ : ByteArray) = ⟨([32] : List UInt8).toArray⟩ := rfl
  have e3 : (⟨#[10]⟩ : ByteArray) = ⟨([10] : List UInt8).toArray⟩ := rfl
  rw [e1, e2, e3, ByteArray.mk_append_mk, ByteArray.mk_append_mk, ByteArray.mk_append_mk, ByteArray.mk_append_mk, ByteArray.mk_append_mk]
  unfold rangeS
  simp [wRange, tellS]

theorem keep_row (cur : List UInt8) (g : List Int) (sg : List UInt8) (r : Int) : (⟨cur.toArray⟩ : ByteArray) ++ ⟨#[114, 111, 119]⟩ ++ ⟨(tellS g).toArray⟩ ++ ⟨(32 :: sg ++ [32]).toArray⟩ ++ ⟨(Lib.itoa r).toArray⟩ ++ ⟨#[10]⟩ = ⟨(cur ++ rowS (g, sg, r)).toArray⟩ := by
  have e1 : (⟨#[114, 111, 119]⟩ : ByteArray) = ⟨([114, 111, 119] : List UInt8).toArray⟩ := rfl
  have e3 : (⟨#[10]⟩ : ByteArray) = ⟨([10] : List UInt8).toArray⟩ := rfl
  rw [e1, e3, ByteArray.mk_append_mk, ByteArray.mk_append_mk, ByteArray.mk_append_mk, ByteArray.mk_append_mk, ByteArray.mk_append_mk]
  unfold rowS
  simp [wRow, tellS]

theorem tell_short (zs : List Int) (h : ∀ z ∈ zs, z.natAbs < 10 ^ 10) (hl : zs.length ≤ 4) : (ByteArray.mk (tellS zs).toArray).size ≤ 600 :=
  T.told_len zs (fun z hz => Nat.lt_trans (h z hz) (by decide)) hl

set_option maxHeartbeats 2000000 in
set_option maxRecDepth 100000 in
theorem smallText_any (w : World) (vM vL vH vG vS vR : Value) (mx lo hi : List Int) (gs : List (List Int)) (ss rs : List Int) (hv : SmallV w vM vL vH vG vS vR mx lo hi gs ss rs) (htab : Tab w)
    (hn : mx.length ≤ 4) (hlo : lo.length = mx.length) (hhi : hi.length = mx.length) (hg : gs.length ≤ 6) (hs : ss.length = gs.length) (hr : rs.length = gs.length)
    (bm : ∀ z ∈ mx, z.natAbs < 10 ^ 10) (bl : ∀ z ∈ lo, z.natAbs < 10 ^ 10) (bh : ∀ z ∈ hi, z.natAbs < 10 ^ 10) (bg : ∀ g ∈ gs, g.length ≤ 4 ∧ ∀ z ∈ g, z.natAbs < 10 ^ 10) (bs : ∀ k ∈ ss, 0 ≤ k ∧ k ≤ 2) (br : ∀ z ∈ rs, z.natAbs < 10 ^ 10) :
    Calls Tryz.prog 24 #[.agg #[vM, vL, vH, vG, vS, vR]] w fun e w' => e = .returned (.string ⟨(textS ⟨mx.length, mx, lo.zip hi, gs.zip (ss.map signT |>.zip rs)⟩).toArray⟩) ∧ Below w.heap.size w w' := by
  obtain ⟨aM, cM, rfl, hm⟩ := hv.m
  obtain ⟨aL, cL, rfl, hl⟩ := hv.l
  obtain ⟨aH, cH, rfl, hh⟩ := hv.h
  obtain ⟨aG, cG, rfl, hgg⟩ := hv.g
  obtain ⟨aS, cS, rfl, hss⟩ := hv.s
  obtain ⟨aR, cR, rfl, hrr⟩ := hv.r
  have HV := hide hv
  have x1 : Ext w (w.alloc (.cells #[.slice aM mx.length cM, .slice aL lo.length cL, .slice aH hi.length cH, .slice aG gs.length cG, .slice aS ss.length cS, .slice aR rs.length cR] 38)) := (Ext.refl w).alloc _
  have t0 := World.alloc_heap_new w (.cells #[.slice aM mx.length cM, .slice aL lo.length cL, .slice aH hi.length cH, .slice aG gs.length cG, .slice aS ss.length cS, .slice aR rs.length cR] 38)
  have b0 := cell_of_row _ _ 0 _ _ _ t0
  have b1 := cell_of_row _ _ 1 _ _ _ t0
  have b2 := cell_of_row _ _ 2 _ _ _ t0
  have b3 := cell_of_row _ _ 3 _ _ _ t0
  have b4 := cell_of_row _ _ 4 _ _ _ t0
  have b5 := cell_of_row _ _ 5 _ _ _ t0
  rw [hlo] at hl
  rw [hhi] at hh
  have HL := hide hl
  have HH := hide hh
  have HG := hide hgg
  have HSS := hide hss
  have HRR := hide hrr
  rw [hlo, hhi, hs, hr] at x1 b0 b1 b2 b3 b4 b5 ⊢
  have HLEN := hide (And.intro hlo (And.intro hhi (And.intro hs hr)))
  clear hlo hhi hs hr
  clear hm hl hh hgg hss hrr hv t0
  go_enter Tryz.func24, Tryz.ntmps24
  go_wp2_with fail
  generalize w.alloc (.cells #[.slice aM mx.length cM, .slice aL mx.length cL, .slice aH mx.length cH, .slice aG gs.length cG, .slice aS gs.length cS, .slice aR gs.length cR] 38) = w1 at *
  have HCB := hide (fun W (hW : Ext w1 W) => And.intro (hW.cell b0) (And.intro (hW.cell b1) (And.intro (hW.cell b2) (And.intro (hW.cell b3) (And.intro (hW.cell b4) (hW.cell b5))))))
  have y0 := Ext.refl w1
  have HNN := hide (fun W (hW : Ext w1 W) => num_any (mx.length : Int) (by omega) (by omega) W ((htab.below x1).below hW))
  have HRM := hide (fun W (hW : Ext w1 W) => row_any W _ mx ((HV.out.m.ext x1).ext hW) bm (by omega) ((htab.below x1).below hW))
  have HHB := hide (T.headS_bytes ⟨mx.length, mx, [], []⟩)
  have hszM := tell_short mx bm hn
  have hszD := itoa_short (mx.length : Int) (by have : (4 : Nat) < 10 ^ 10 := by decide
                                                omega)
  rw [T.itoa_nat] at HNN hszD
  generalize hhd : ByteArray.mk (T.headS ⟨mx.length, mx, [], []⟩).toArray = hB at *
  have HHD := hide hhd
  clear hhd
  simp only at HHB
  generalize ByteArray.mk (Lib.decDigits mx.length).toArray = dB at *
  generalize ByteArray.mk (tellS mx).toArray = mB at *
  have hszH : hB.size ≤ 2000 := by
    rw [← HHB.out]
    simp only [ByteArray.size_append]
    have e1 : (ByteArray.mk #[118, 97, 114, 115, 32]).size = 5 := rfl
    have e2 : (ByteArray.mk #[10, 109, 97, 120]).size = 4 := rfl
    have e3 : (ByteArray.mk #[10]).size = 1 := rfl
    omega
  have f1 : ¬ 9223372036854775807 < 5 + dB.size := by omega
  have f2 : ¬ 9223372036854775807 < 5 + dB.size + 4 := by omega
  have f2' : ¬ 9223372036854775803 < 5 + dB.size := by omega
  have f3 : ¬ 9223372036854775807 < 5 + dB.size + 4 + mB.size := by omega
  have f4 : ¬ 9223372036854775807 < 5 + dB.size + 4 + mB.size + 1 := by omega
  have f4' : ¬ 9223372036854775806 < 5 + dB.size + 4 + mB.size := by omega
  clear b1 b2 b3 b4 b5
  go_cut [3] (fun sv wc => sv = .string hB ∧ Ext w1 wc)
  case first =>
    go_region_held3 (fun w' => w'.cell? ⟨w.heap.size, 0, none⟩ = some (.slice aM mx.length cM)) (first | (exact (HCB.out _ (by with_reducible first | assumption | exact Ext.drew (by assumption))).1) | go_keep)
      (first | (go_at_call 35; refine (HRM.out _ (by with_reducible first | exact xA | exact y0.drew | exact y0)).mono ?_; rintro e wB ⟨rfl, hbB0⟩; have hbB := Ext.of hbB0; have xB : Ext w1 wB := (by with_reducible first | exact xA.trans hbB | exact y0.drew.trans hbB); have q0 := (HCB.out wB xB).1) | (go_at_call 20; refine (HNN.out _ (by with_reducible first | exact y0.drew | exact y0)).mono ?_; rintro e wA ⟨rfl, hbA0⟩; have hbA := Ext.of hbA0; have xA : Ext w1 wA := (by with_reducible first | exact y0.drew.trans hbA | exact y0.trans hbA); have p0 := (HCB.out wA xA).1))
    all_goals go_wp2_with fail
    all_goals go_meet
    all_goals exact ⟨by rw [← HHB.out], by first | exact xB | exact xB.drew⟩
  case rest =>
    obtain ⟨rfl, xc⟩ := hcut
    clear f1 f2 f2' f3 f4 f4' HNN HRM HHB hszM hszD b0
    have HLO := hide bl
    have HHI := hide bh
    clear bl bh bm
    go_wp2_with fail
    go_loopw [3, 4] (fun sv iv wr => ∃ (i : Nat) (cur : ByteArray), i ≤ mx.length ∧ sv = .string cur ∧ iv = .int .i64 (i : Nat) ∧ cur.size ≤ 2000 + i * 1000 ∧ Hid (cur = ⟨(T.headS ⟨mx.length, mx, [], []⟩ ++ ((lo.zip hi).take i).flatMap rangeS).toArray⟩) ∧ Ext w1 wr) (fun _ iv _ => mx.length - (intOf iv).toNat)
    case atStart => exact ⟨0, _, by omega, rfl, rfl, by omega, by rw [Hid, List.take_zero, List.flatMap_nil, List.append_nil]; exact HHD.out.symm, xc⟩
    case round =>
      obtain ⟨i, cur, hi_, rfl, rfl, hcz, HC, xr⟩ := hrel
      obtain ⟨p0, p1, p2, _⟩ := HCB.out wr xr
      by_cases hin : i < mx.length
      · obtain ⟨hlo, hhi, hs, hr⟩ := HLEN.out
        obtain ⟨gL, oL, rfl, hgL, hcL⟩ := HL.out (by omega)
        obtain ⟨gH, oH, rfl, hgH, hcH⟩ := HH.out (by omega)
        have hli : i < lo.length := by omega
        have hhi' : i < hi.length := by omega
        have hzl : lo[i]? = some lo[i] := List.getElem?_eq_getElem hli
        have hzh : hi[i]? = some hi[i] := List.getElem?_eq_getElem hhi'
        have b1 := HLO.out _ (List.getElem_mem hli)
        have b2 := HHI.out _ (List.getElem_mem hhi')
        have c1 := xr.cell (x1.cell (hcL i _ hzl))
        have c2 := xr.cell (x1.cell (hcH i _ hzh))
        have hs1 := itoa_short _ b1
        have hs2 := itoa_short _ b2
        have HTK : Hid (cur ++ ⟨#[114, 97, 110, 103, 101, 32]⟩ ++ ⟨(Lib.itoa lo[i]).toArray⟩ ++ ⟨#[32]⟩ ++ ⟨(Lib.itoa hi[i]).toArray⟩ ++ ⟨#[10]⟩ = ⟨(T.headS ⟨mx.length, mx, [], []⟩ ++ ((lo.zip hi).take (i + 1)).flatMap rangeS).toArray⟩) := by
          have hiz : i < (lo.zip hi).length := by rw [List.length_zip]; omega
          have e : (lo.zip hi)[i] = (lo[i], hi[i]) := List.getElem_zip
          have := keep_range (T.headS ⟨mx.length, mx, [], []⟩ ++ ((lo.zip hi).take i).flatMap rangeS) (lo[i], hi[i])
          rw [Hid, HC.out, this, List.take_succ_eq_append_getElem hiz, e, List.flatMap_append, List.flatMap_cons, List.flatMap_nil, List.append_nil, List.append_assoc]
        generalize lo[i] = z1 at *
        generalize hi[i] = z2 at *
        have h10 : (10 : Nat) ^ 10 = 10000000000 := by decide
        have HN1 := hide (fun W (hW : Ext wr W) => num_any z1 (by omega) (by omega) W (((htab.below x1).below xr).below hW))
        have HN2 := hide (fun W (hW : Ext wr W) => num_any z2 (by omega) (by omega) W (((htab.below x1).below xr).below hW))
        generalize ByteArray.mk (Lib.itoa z1).toArray = aB at *
        generalize ByteArray.mk (Lib.itoa z2).toArray = eB at *
        have HCL := hide (fun W (hW : Ext wr W) => And.intro (hW.cell p1) (And.intro (hW.cell p2) (And.intro (hW.cell c1) (hW.cell c2))))
        have f1 : ¬ 9223372036854775807 < cur.size + 6 := by omega
        have f1' : ¬ 9223372036854775801 < cur.size := by omega
        have f2 : ¬ 9223372036854775807 < cur.size + 6 + aB.size := by omega
        have f3 : ¬ 9223372036854775807 < cur.size + 6 + aB.size + 1 := by omega
        have f3' : ¬ 9223372036854775806 < cur.size + 6 + aB.size := by omega
        have f4 : ¬ 9223372036854775807 < cur.size + 6 + aB.size + 1 + eB.size := by omega
        have f5 : ¬ 9223372036854775807 < cur.size + 6 + aB.size + 1 + eB.size + 1 := by omega
        have f5' : ¬ 9223372036854775806 < cur.size + 6 + aB.size + 1 + eB.size := by omega
        have hszN : (cur ++ ⟨#[114, 97, 110, 103, 101, 32]⟩ ++ aB ++ ⟨#[32]⟩ ++ eB ++ ⟨#[10]⟩).size ≤ 2000 + (i + 1) * 1000 := by
          have e1 : (ByteArray.mk #[114, 97, 110, 103, 101, 32]).size = 6 := rfl
          have e2 : (ByteArray.mk #[32]).size = 1 := rfl
          have e3 : (ByteArray.mk #[10]).size = 1 := rfl
          simp only [ByteArray.size_append]
          omega
        have y1 := Ext.refl wr
        clear HC h10 b1 b2 hzl hzh hcL hcH hs1 hs2 hlo hhi hs hr HV HG HSS HRR
        go_wp2
        go_region_held3 (fun w' => w'.cell? ⟨w.heap.size, 1, none⟩ = some (.slice (some ⟨gL, oL, none⟩) mx.length cL) ∧ w'.cell? ⟨w.heap.size, 2, none⟩ = some (.slice (some ⟨gH, oH, none⟩) mx.length cH) ∧ w'.cell? ⟨gL, oL + i, none⟩ = some (.int .i64 z1) ∧ w'.cell? ⟨gH, oH + i, none⟩ = some (.int .i64 z2)) (first | (exact HCL.out _ (by with_reducible first | assumption | exact Ext.drew (by assumption))) | go_keep)
          (first | (go_at_call 20; with_reducible refine (HN1.out _ (by with_reducible first | exact y1.drew | exact y1)).mono ?_; rintro e wA ⟨rfl, hbA0⟩; have hbA := Ext.of hbA0; have xA : Ext wr wA := (by with_reducible first | exact y1.drew.trans hbA | exact y1.trans hbA); obtain ⟨q0, q1, q2, q3⟩ := HCL.out wA xA) | (go_at_call 20; with_reducible refine (HN2.out _ (by with_reducible first | exact xA | exact xA.drew)).mono ?_; rintro e wB ⟨rfl, hbB0⟩; have hbB := Ext.of hbB0; have xB : Ext wr wB := (by with_reducible first | exact xA.trans hbB | exact xA.drew.trans hbB); obtain ⟨o0, o1, o2, o3⟩ := HCL.out wB xB))
        all_goals go_wp2
        all_goals go_roundw
        all_goals first | exact ⟨i + 1, _, by omega, rfl, by go_num, hszN, HTK, xr.trans (by first | exact xB | exact xB.drew)⟩ | (simp [intOf]; omega)
      · obtain rfl : i = mx.length := by omega
        have HC2 : Hid (cur = ⟨(T.headS ⟨mx.length, mx, [], []⟩ ++ (lo.zip hi).flatMap rangeS).toArray⟩) := by
          obtain ⟨hlo, hhi, _⟩ := HLEN.out
          rw [Hid, HC.out, List.take_of_length_le (by rw [List.length_zip]; omega)]
        have hc0 : cur.size ≤ 6000 := by omega
        have x2 : Ext w1 (wr.alloc (.cells #[.string ⟨#[32, 60, 61, 32]⟩, .string ⟨#[32, 62, 61, 32]⟩, .string ⟨#[32, 61, 32]⟩] 9)) := xr.alloc _
        have t2 := World.alloc_heap_new wr (.cells #[.string ⟨#[32, 60, 61, 32]⟩, .string ⟨#[32, 62, 61, 32]⟩, .string ⟨#[32, 61, 32]⟩] 9)
        have HSG : Hid (∀ k : Nat, k < 3 → (wr.alloc (.cells #[.string ⟨#[32, 60, 61, 32]⟩, .string ⟨#[32, 62, 61, 32]⟩, .string ⟨#[32, 61, 32]⟩] 9)).cell? ⟨wr.heap.size, k, none⟩ = some (.string ⟨(32 :: signT (k : Int) ++ [32]).toArray⟩)) := by
          intro k hk
          have : k = 0 ∨ k = 1 ∨ k = 2 := by omega
          rcases this with rfl | rfl | rfl
          · exact cell_of_row _ _ 0 _ _ _ t2
          · exact cell_of_row _ _ 1 _ _ _ t2
          · exact cell_of_row _ _ 2 _ _ _ t2
        clear HC hcz t2
        go_wp2_with fail
        generalize wr.alloc (.cells #[.string ⟨#[32, 60, 61, 32]⟩, .string ⟨#[32, 62, 61, 32]⟩, .string ⟨#[32, 61, 32]⟩] 9) = w2 at *
        generalize wr.heap.size = gq at HSG ⊢
        go_loopw [3, 6] (fun sv iv wq => ∃ (k : Nat) (cur : ByteArray), k ≤ gs.length ∧ sv = .string cur ∧ iv = .int .i64 (k : Nat) ∧ cur.size ≤ 6000 + k * 2000 ∧ Hid (cur = ⟨(T.headS ⟨mx.length, mx, [], []⟩ ++ (lo.zip hi).flatMap rangeS ++ ((gs.zip ((ss.map signT).zip rs)).take k).flatMap rowS).toArray⟩) ∧ Ext w2 wq) (fun _ iv _ => gs.length - (intOf iv).toNat)
        case atStart => exact ⟨0, _, by omega, rfl, rfl, by omega, by rw [Hid, List.take_zero, List.flatMap_nil, List.append_nil]; exact HC2.out, Ext.refl _⟩
        case round =>
          clear HC2 hc0 p0 p1 p2
          obtain ⟨k, cur, hk, rfl, rfl, hcz, HC, xq⟩ := hrel
          have x3 := x2.trans xq
          have x4 := x1.trans x3
          obtain ⟨_, _, _, p3, p4, p5⟩ := HCB.out _ x3
          by_cases hkn : k < gs.length
          · obtain ⟨hlo, hhi, hs, hr⟩ := HLEN.out
            have hks : k < ss.length := by omega
            have hkr : k < rs.length := by omega
            obtain ⟨gG, oG, rfl, _, hcG⟩ := HG.out (by omega)
            obtain ⟨gS, oS, rfl, _, hcS⟩ := HSS.out (by omega)
            obtain ⟨gR, oR, rfl, _, hcR⟩ := HRR.out (by omega)
            obtain ⟨ga, gl, gc, hcell, hInt⟩ := hcG k _ (List.getElem?_eq_getElem hkn)
            have c1 := x4.cell hcell
            have c2 := x4.cell (hcS k _ (List.getElem?_eq_getElem hks))
            have c3 := x4.cell (hcR k _ (List.getElem?_eq_getElem hkr))
            have hI4 := hInt.ext x4
            have hbg := bg _ (List.getElem_mem hkn)
            have hbs := bs _ (List.getElem_mem hks)
            have hbr := br _ (List.getElem_mem hkr)
            obtain ⟨kk, hkk⟩ : ∃ kk : Nat, ss[k] = (kk : Int) := ⟨(ss[k]).toNat, by omega⟩
            have hk3 : kk < 3 := by omega
            have c4 := xq.cell (HSG.out kk hk3)
            have hs1 := tell_short _ hbg.2 hbg.1
            have hs2 := itoa_short _ hbr
            have hs3 : (ByteArray.mk (32 :: signT (kk : Int) ++ [32]).toArray).size ≤ 4 := by
              rw [size_mk]
              unfold signT
              split
              · decide
              · split <;> decide
            have HTK : Hid (cur ++ ⟨#[114, 111, 119]⟩ ++ ⟨(tellS gs[k]).toArray⟩ ++ ⟨(32 :: signT (kk : Int) ++ [32]).toArray⟩ ++ ⟨(Lib.itoa rs[k]).toArray⟩ ++ ⟨#[10]⟩ = ⟨(T.headS ⟨mx.length, mx, [], []⟩ ++ (lo.zip hi).flatMap rangeS ++ ((gs.zip ((ss.map signT).zip rs)).take (k + 1)).flatMap rowS).toArray⟩) := by
              have hkz : k < (gs.zip ((ss.map signT).zip rs)).length := by simp only [List.length_zip, List.length_map]; omega
              have e : (gs.zip ((ss.map signT).zip rs))[k] = (gs[k], signT (kk : Int), rs[k]) := by
                rw [List.getElem_zip, List.getElem_zip, List.getElem_map, hkk]
              have := keep_row (T.headS ⟨mx.length, mx, [], []⟩ ++ (lo.zip hi).flatMap rangeS ++ ((gs.zip ((ss.map signT).zip rs)).take k).flatMap rowS) gs[k] (signT (kk : Int)) rs[k]
              rw [Hid, HC.out, this, List.take_succ_eq_append_getElem hkz, e, List.flatMap_append, List.flatMap_cons, List.flatMap_nil, List.append_nil]
              simp only [List.append_assoc]
            rw [hkk] at c2
            generalize gs[k] = gv at *
            generalize rs[k] = rv at *
            have h10 : (10 : Nat) ^ 10 = 10000000000 := by decide
            have HN1 := hide (fun W (hW : Ext wr W) => row_any W _ gv (hI4.ext hW) hbg.2 (by have := hbg.1; omega) ((htab.below x4).below hW))
            have HN2 := hide (fun W (hW : Ext wr W) => num_any rv (by omega) (by omega) W ((htab.below x4).below hW))
            generalize ByteArray.mk (tellS gv).toArray = gB at *
            generalize ByteArray.mk (Lib.itoa rv).toArray = rB at *
            generalize ByteArray.mk (32 :: signT (kk : Int) ++ [32]).toArray = sB at *
            have HCL := hide (fun W (hW : Ext wr W) => And.intro (hW.cell p3) (And.intro (hW.cell p4) (And.intro (hW.cell p5) (And.intro (hW.cell c1) (And.intro (hW.cell c2) (And.intro (hW.cell c3) (hW.cell c4)))))))
            have f1 : ¬ 9223372036854775807 < cur.size + 3 := by omega
            have f1' : ¬ 9223372036854775804 < cur.size := by omega
            have f2 : ¬ 9223372036854775807 < cur.size + 3 + gB.size := by omega
            have f3 : ¬ 9223372036854775807 < cur.size + 3 + gB.size + sB.size := by omega
            have f4 : ¬ 9223372036854775807 < cur.size + 3 + gB.size + sB.size + rB.size := by omega
            have f5 : ¬ 9223372036854775807 < cur.size + 3 + gB.size + sB.size + rB.size + 1 := by omega
            have f5' : ¬ 9223372036854775806 < cur.size + 3 + gB.size + sB.size + rB.size := by omega
            have hk3I : (kk : Int) < 3 := by omega
            have hszN : (cur ++ ⟨#[114, 111, 119]⟩ ++ gB ++ sB ++ rB ++ ⟨#[10]⟩).size ≤ 6000 + (k + 1) * 2000 := by
              have e1 : (ByteArray.mk #[114, 111, 119]).size = 3 := rfl
              have e3 : (ByteArray.mk #[10]).size = 1 := rfl
              simp only [ByteArray.size_append]
              omega
            have y1 := Ext.refl wr
            clear HC h10 hcG hcS hcR hInt hI4 hbg hbs hbr hs1 hs2 hs3 hkk hlo hhi hs hr HV bg bs br HLO HHI hcell HSG
            go_wp2
            go_region_held3 (fun w' => w'.cell? ⟨w.heap.size, 3, none⟩ = some (.slice (some ⟨gG, oG, none⟩) gs.length cG) ∧ w'.cell? ⟨w.heap.size, 4, none⟩ = some (.slice (some ⟨gS, oS, none⟩) gs.length cS) ∧ w'.cell? ⟨w.heap.size, 5, none⟩ = some (.slice (some ⟨gR, oR, none⟩) gs.length cR) ∧ w'.cell? ⟨gG, oG + k, none⟩ = some (.slice ga gl gc) ∧ w'.cell? ⟨gS, oS + k, none⟩ = some (.int .i64 (kk : Int)) ∧ w'.cell? ⟨gR, oR + k, none⟩ = some (.int .i64 rv) ∧ w'.cell? ⟨gq, kk, none⟩ = some (.string sB)) (first | (exact HCL.out _ (by with_reducible first | assumption | exact Ext.drew (by assumption))) | go_keep)
              (first | (go_at_call 35; refine (HN1.out _ (by with_reducible first | exact y1.drew | exact y1)).mono ?_; rintro e wA ⟨rfl, hbA0⟩; have hbA := Ext.of hbA0; have xA : Ext wr wA := (by with_reducible first | exact y1.drew.trans hbA | exact y1.trans hbA); obtain ⟨q0, q1, q2, q3, q4, q5, q6⟩ := HCL.out wA xA) | (go_at_call 20; refine (HN2.out _ (by with_reducible first | exact xA | exact xA.drew)).mono ?_; rintro e wB ⟨rfl, hbB0⟩; have hbB := Ext.of hbB0; have xB : Ext wr wB := (by with_reducible first | exact xA.trans hbB | exact xA.drew.trans hbB); obtain ⟨o0, o1, o2, o3, o4, o5, o6⟩ := HCL.out wB xB))
            all_goals go_wp2
            all_goals go_roundw
            all_goals first | exact ⟨k + 1, _, by omega, rfl, by go_num, hszN, HTK, xq.trans (by first | exact xB | exact xB.drew)⟩ | (simp [intOf]; omega)
          · obtain rfl : k = gs.length := by omega
            have HF : Hid (cur = ⟨(textS ⟨mx.length, mx, lo.zip hi, gs.zip ((ss.map signT).zip rs)⟩).toArray⟩) := by
              rw [Hid, HC.out, List.take_of_length_le (by simp only [List.length_zip, List.length_map]; omega)]
              rfl
            clear HC
            go_wp2
            go_ret
            exact ⟨by rw [← HF.out]; rfl, x4⟩
end Go.Proofs.YtnhfdcfnojnofaaGreatDoor

/-
  What a small problem of the keeper's is (package planeskeep): its numbers are small, so its text is short.
-/
namespace Go.Proofs.YtnhfdcfnojnofaaGreatDoor
open Go.RowKit

structure SmallP (mx lo hi : List Int) (gs : List (List Int)) (ss rs : List Int) : Prop where
  n1 : 1 ≤ mx.length
  n3 : mx.length ≤ 3
  ll : lo.length = mx.length
  lh : hi.length = mx.length
  k : gs.length ≤ 3
  ls : ss.length = gs.length
  lr : rs.length = gs.length
  bm : ∀ z ∈ mx, z.natAbs ≤ 99
  bl : ∀ z ∈ lo, z.natAbs ≤ 99
  bh : ∀ z ∈ hi, z.natAbs ≤ 99
  w : ∀ r ∈ lo.zip hi, -1 ≤ r.2 - r.1 ∧ r.2 - r.1 ≤ 5
  bg : ∀ g ∈ gs, g.length = mx.length ∧ ∀ z ∈ g, z.natAbs ≤ 99
  bs : ∀ k ∈ ss, 0 ≤ k ∧ k ≤ 2
  br : ∀ z ∈ rs, z.natAbs ≤ 99

/-- The problem that the lists are. -/
def probOf (mx lo hi : List Int) (gs : List (List Int)) (ss rs : List Int) : Prob := ⟨mx.length, mx, lo.zip hi, gs.zip ((ss.map signT).zip rs)⟩

theorem signT_is (k : Int) : isSign (signT k) = true := by
  unfold signT
  split
  · decide
  · split <;> decide

theorem signT_len (k : Int) : (signT k).length ≤ 2 := by
  unfold signT
  split
  · decide
  · split <;> decide

theorem small_rows {mx lo hi : List Int} {gs : List (List Int)} {ss rs : List Int} (h : SmallP mx lo hi gs ss rs) : ∀ x ∈ gs.zip ((ss.map signT).zip rs), (x.1.length = mx.length ∧ ∀ z ∈ x.1, z.natAbs ≤ 99) ∧ (∃ k, x.2.1 = signT k) ∧ x.2.2.natAbs ≤ 99 := by
  rintro ⟨g, sg, r⟩ hx
  obtain ⟨h1, h2⟩ := List.of_mem_zip hx
  obtain ⟨h3, h4⟩ := List.of_mem_zip h2
  obtain ⟨k, _, h5⟩ := List.mem_map.1 h3
  exact ⟨h.bg g h1, ⟨k, h5.symm⟩, h.br r h4⟩

theorem small_fine {mx lo hi : List Int} {gs : List (List Int)} {ss rs : List Int} (h : SmallP mx lo hi gs ss rs) : Fine (probOf mx lo hi gs ss rs) := by
  have h99 : (99 : Nat) < 10 ^ 40 := by decide
  have hr := small_rows h
  refine ⟨h.n1, by have := h.n3; show mx.length ≤ 4; omega, rfl, ?_, ?_, fun x hx => ⟨(hr x hx).1.1, ?_⟩, fun z hz => Nat.lt_of_le_of_lt (h.bm z hz) h99, fun r hx => ?_, fun x hx => ⟨fun z hz => Nat.lt_of_le_of_lt ((hr x hx).1.2 z hz) h99, Nat.lt_of_le_of_lt (hr x hx).2.2 h99⟩, fun r hx => ?_⟩
  · show (lo.zip hi).length = mx.length
    rw [List.length_zip, h.ll, h.lh, Nat.min_self]
  · show (gs.zip ((ss.map signT).zip rs)).length ≤ 6
    have := h.k
    rw [List.length_zip]
    omega
  · obtain ⟨k, hk⟩ := (hr x hx).2.1
    rw [hk]
    exact signT_is k
  · obtain ⟨h1, h2⟩ := List.of_mem_zip (show (r.1, r.2) ∈ lo.zip hi from hx)
    exact ⟨Nat.lt_of_le_of_lt (h.bl _ h1) h99, Nat.lt_of_le_of_lt (h.bh _ h2) h99⟩
  · have := h.w r hx
    omega

theorem small_38 {mx lo hi : List Int} {gs : List (List Int)} {ss rs : List Int} (h : SmallP mx lo hi gs ss rs) : (∀ z ∈ (probOf mx lo hi gs ss rs).mx, z.natAbs < 10 ^ 38) ∧ (∀ r ∈ (probOf mx lo hi gs ss rs).rg, r.1.natAbs < 10 ^ 38 ∧ r.2.natAbs < 10 ^ 38) ∧ (∀ x ∈ (probOf mx lo hi gs ss rs).rows, (∀ z ∈ x.1, z.natAbs < 10 ^ 38) ∧ x.2.2.natAbs < 10 ^ 38) := by
  have h99 : (99 : Nat) < 10 ^ 38 := by decide
  have hr := small_rows h
  refine ⟨fun z hz => Nat.lt_of_le_of_lt (h.bm z hz) h99, fun r hx => ?_, fun x hx => ⟨fun z hz => Nat.lt_of_le_of_lt ((hr x hx).1.2 z hz) h99, Nat.lt_of_le_of_lt (hr x hx).2.2 h99⟩⟩
  obtain ⟨h1, h2⟩ := List.of_mem_zip (show (r.1, r.2) ∈ lo.zip hi from hx)
  exact ⟨Nat.lt_of_le_of_lt (h.bl _ h1) h99, Nat.lt_of_le_of_lt (h.bh _ h2) h99⟩

theorem itoa_len3 (z : Int) (h : z.natAbs ≤ 99) : (Lib.itoa z).length ≤ 3 := by
  have h1 := dec_len_le 2 z.natAbs (by omega) (by omega)
  unfold Lib.itoa
  split
  · simp; omega
  · rw [show z.toNat = z.natAbs by omega]; omega

theorem flatK_len {α : Type} (f : α → List UInt8) (c : Nat) : ∀ (l : List α), (∀ x ∈ l, (f x).length ≤ c) → (l.flatMap f).length ≤ l.length * c
  | [], _ => by simp
  | x :: l, h => by
    rw [List.flatMap_cons, List.length_append, List.length_cons, Nat.add_mul]
    have h1 := h x (List.mem_cons_self)
    have h2 := flatK_len f c l (fun y hy => h y (List.mem_cons_of_mem _ hy))
    omega

theorem tell_len4 (zs : List Int) (h : ∀ z ∈ zs, z.natAbs ≤ 99) : (tellS zs).length ≤ zs.length * 4 :=
  flatK_len _ 4 zs (fun z hz => by have := itoa_len3 z (h z hz); rw [List.length_cons]; omega)

theorem small_short {mx lo hi : List Int} {gs : List (List Int)} {ss rs : List Int} (h : SmallP mx lo hi gs ss rs) : (textS (probOf mx lo hi gs ss rs)).length ≤ 300 := by
  have hr := small_rows h
  have n3 := h.n3
  have t1 := tell_len4 mx h.bm
  have t0 := itoa_len3 (mx.length : Int) (by omega)
  have t2 : ((lo.zip hi).flatMap rangeS).length ≤ (lo.zip hi).length * 20 := flatK_len _ 20 _ (fun r hx => by
    obtain ⟨h1, h2⟩ := List.of_mem_zip (show (r.1, r.2) ∈ lo.zip hi from hx)
    have := tell_len4 [r.1, r.2] (by intro z hz; simp only [List.mem_cons, List.not_mem_nil, or_false] at hz; rcases hz with rfl | rfl; exact h.bl _ h1; exact h.bh _ h2)
    simp [rangeS, wRange] at this ⊢
    omega)
  have t3 : ((gs.zip ((ss.map signT).zip rs)).flatMap rowS).length ≤ (gs.zip ((ss.map signT).zip rs)).length * 40 := flatK_len _ 40 _ (fun x hx => by
    obtain ⟨⟨a1, a2⟩, ⟨k, a3⟩, a4⟩ := hr x hx
    have b1 := tell_len4 x.1 a2
    have b2 := tell_len4 [x.2.2] (by intro z hz; simp only [List.mem_cons, List.not_mem_nil, or_false] at hz; rw [hz]; exact a4)
    have b3 := signT_len k
    rw [← a3] at b3
    simp only [rowS, wRow, List.length_append, List.length_cons, List.length_nil] at b2 ⊢
    omega)
  have l2 : (lo.zip hi).length ≤ 3 := by rw [List.length_zip, h.ll]; omega
  have l3 : (gs.zip ((ss.map signT).zip rs)).length ≤ 3 := by have := h.k; rw [List.length_zip]; omega
  show (wVars ++ 32 :: Lib.itoa (mx.length : Int) ++ [10] ++ (wMax ++ tellS mx ++ [10]) ++ (lo.zip hi).flatMap rangeS ++ (gs.zip ((ss.map signT).zip rs)).flatMap rowS).length ≤ 300
  simp only [wVars, wMax, List.length_append, List.length_cons, List.length_nil]
  omega

theorem oddF_len : ∀ (l : List UInt8) (i : Nat), (oddF i l).length ≤ 3 * l.length
  | [], _ => by simp [oddF]
  | c :: r, i => by
    have := oddF_len r (i + 1)
    rw [oddF, List.length_cons, List.length_append, List.length_cons]
    split
    · simp only [List.length_cons, List.length_nil]; omega
    · simp only [List.length_nil]; omega

/-- The odd text, as far as it is written. -/
theorem oddF_step (l : List UInt8) (i : Nat) (h : i < l.length) : oddF i (l.drop i) = l[i] :: ((if (l[i] = 45 ∨ (l[i] = 32 ∧ isDig ((l.drop (i + 1)).headD 0) = true)) ∧ 8 < i then [48, 48] else []) ++ oddF (i + 1) (l.drop (i + 1))) := by
  rw [List.drop_eq_getElem_cons h, oddF]
end Go.Proofs.YtnhfdcfnojnofaaGreatDoor
