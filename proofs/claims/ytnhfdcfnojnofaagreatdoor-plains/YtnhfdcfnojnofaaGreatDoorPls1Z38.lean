/-
  Part 38 of the texts ahead of Pls1: Ts17, Law2.
-/
import Derived.Test.YtnhfdcfnojnofaaGreatDoorPls1Z37
import Derived.Test.YtnhfdcfnojnofaaGreatDoorPls1Z32
set_option linter.unusedSimpArgs false
set_option linter.unusedVariables false
/-
  What the document's own Plain does (package planesref).
-/
namespace Go.Proofs.YtnhfdcfnojnofaaGreatDoor.T
open Go.RowKit

theorem itoa_frac (z : Int) : Lib.itoa z = fracText z 1 := by rw [fracText, if_pos rfl]

theorem parseS_err {s : List UInt8} {a b : Nat} (h : parseS s = .error (a, b)) : 0 < a := by
  unfold parseS at h
  split at h
  · cases h; decide
  · split at h
    · cases h; decide
    · split at h
      · cases h; decide
      · split at h
        · cases h; decide
        · cases h

theorem parseS_ok {s : List UInt8} {p : Prob} (h : parseS s = .ok p) : 2 + p.n ≤ (lines s).length := by
  unfold parseS at h
  split at h
  · cases h
  · split at h
    · cases h
    · split at h
      · cases h
      · split at h
        · cases h
        · cases h
          omega

theorem toldL_one (zs : List Int) : toldL (zs.map fun z => (z, 1)) = tellS zs := by
  unfold toldL tellS
  induction zs with
  | nil => rfl
  | cons z zs ih => simp only [List.map_cons, List.flatMap_cons, ih, itoa_frac]

theorem told_len (zs : List Int) (h : ∀ z ∈ zs, z.natAbs < 10 ^ 40) (hl : zs.length ≤ 4) : (ByteArray.mk (tellS zs).toArray).size ≤ 600 := by
  rw [size_mk]
  have key : ∀ zs : List Int, (∀ z ∈ zs, z.natAbs < 10 ^ 40) → (tellS zs).length ≤ zs.length * 100 := by
    intro zs
    induction zs with
    | nil => intro _; simp [tellS]
    | cons z zs ih =>
      intro h
      have h1 := ih (fun y hy => h y (by simp [hy]))
      have h2 := frac_len (p := z) (q := 1) (K := 11) (Nat.lt_trans (h z (by simp)) (by decide)) (by decide)
      rw [← itoa_frac] at h2
      unfold tellS at h1 ⊢
      rw [List.flatMap_cons, List.length_append, List.length_cons, List.length_cons]
      omega
  have := key zs h
  omega

def headS (p : Prob) : List UInt8 := wVars ++ 32 :: Lib.itoa (p.n : Int) ++ [10] ++ (wMax ++ tellS p.mx ++ [10])

theorem textS_head (p : Prob) : textS p = headS p ++ p.rg.flatMap rangeS ++ p.rows.flatMap rowS := rfl

theorem itoa_nat (n : Nat) : Lib.itoa (n : Int) = Lib.decDigits n := by
  unfold Lib.itoa
  rw [if_neg (by omega)]
  simp

theorem headS_bytes (p : Prob) : (⟨#[118, 97, 114, 115, 32]⟩ : ByteArray) ++ ⟨(Lib.decDigits p.n).toArray⟩ ++ ⟨#[10, 109, 97, 120]⟩ ++ ⟨(tellS p.mx).toArray⟩ ++ ⟨#[10]⟩ = ⟨(headS p).toArray⟩ := by
  have e1 : (⟨#[118, 97, 114, 115, 32]⟩ : ByteArray) = ⟨([118, 97, 114, 115, 32] : List UInt8).toArray⟩ := rfl
  have e2 : (⟨#[10, 109, 97, 120]⟩ : ByteArray) = ⟨([10, 109, 97, 120] : List UInt8).toArray⟩ := rfl
  have e3 : (⟨#[10]⟩ : ByteArray) = ⟨([10] : List UInt8).toArray⟩ := rfl
  rw [e1, e2, e3, ba_append, ba_append, ba_append, ba_append]
  unfold headS
  rw [itoa_nat]
  simp [wVars, wMax]

theorem range_bytes (cur : List UInt8) (r : Int × Int) : (⟨cur.toArray⟩ : ByteArray) ++ ⟨#[114, 97, 110, 103, 101]⟩ ++ ⟨(tellS [r.1, r.2]).toArray⟩ ++ ⟨#[10]⟩ = ⟨(cur ++ rangeS r).toArray⟩ := by
  have e1 : (⟨#[114, 97, 110, 103, 101]⟩ : ByteArray) = ⟨([114, 97, 110, 103, 101] : List UInt8).toArray⟩ := rfl
  have e3 : (⟨#[10]⟩ : ByteArray) = ⟨([10] : List UInt8).toArray⟩ := rfl
  rw [e1, e3, ba_append, ba_append, ba_append]
  unfold rangeS
  simp [wRange]

theorem row_bytes (cur : List UInt8) (r : List Int × List UInt8 × Int) : (⟨cur.toArray⟩ : ByteArray) ++ ⟨#[114, 111, 119]⟩ ++ ⟨(tellS r.1).toArray⟩ ++ ⟨#[32]⟩ ++ ⟨r.2.1.toArray⟩ ++ ⟨(tellS [r.2.2]).toArray⟩ ++ ⟨#[10]⟩ = ⟨(cur ++ rowS r).toArray⟩ := by
  have e1 : (⟨#[114, 111, 119]⟩ : ByteArray) = ⟨([114, 111, 119] : List UInt8).toArray⟩ := rfl
  have e2 : (⟨#[32]⟩ : ByteArray) = ⟨([32] : List UInt8).toArray⟩ := rfl
  have e3 : (⟨#[10]⟩ : ByteArray) = ⟨([10] : List UInt8).toArray⟩ := rfl
  rw [e1, e2, e3, ba_append, ba_append, ba_append, ba_append, ba_append, ba_append]
  unfold rowS
  simp [wRow]

theorem isSign_short {l : List UInt8} (h : isSign l = true) : l.length ≤ 2 := by
  unfold isSign at h
  simp at h
  rcases h with h | h | h <;> rw [h] <;> simp

theorem Nums.ext {w w' : World} {v : Value} {zs : List (Int × Nat)} (h : Nums w v zs) (hb : Ext w w') : Nums w' v zs := h.below hb

/-- Two numbers in a new row. -/
theorem nums_two (W0 : World) (t u : Tri) (y z : Int) (h1 : NumV W0 t.val y 1) (h2 : NumV W0 u.val z 1) : Nums (W0.alloc (.cells #[.bool t.b, t.up, t.down, .bool u.b, u.up, u.down] 118)) (.slice (some ⟨W0.heap.size, 0, none⟩) 2 2) ([y, z].map fun z => (z, 1)) := by
  have t0 := World.alloc_heap_new W0 (.cells #[.bool t.b, t.up, t.down, .bool u.b, u.up, u.down] 118)
  refine ⟨[t, u], rfl, ?_, Or.inr ⟨_, 0, 2, rfl, by simp, by simp, ?_⟩⟩
  · intro i a b ha hb
    match i with
    | 0 => simp at ha hb; subst ha hb; exact h1.alloc _
    | 1 => simp at ha hb; subst ha hb; exact h2.alloc _
    | i + 2 => simp at ha
  · intro i a ha
    match i with
    | 0 => simp at ha; subst ha; exact ⟨cell_of_row _ _ 0 _ _ _ t0, cell_of_row _ _ 1 _ _ _ t0, cell_of_row _ _ 2 _ _ _ t0⟩
    | 1 => simp at ha; subst ha; exact ⟨cell_of_row _ _ 3 _ _ _ t0, cell_of_row _ _ 4 _ _ _ t0, cell_of_row _ _ 5 _ _ _ t0⟩
    | i + 2 => simp at ha

/-- One number in a new row. -/
theorem nums_one (W0 : World) (t : Tri) (y : Int) (h1 : NumV W0 t.val y 1) : Nums (W0.alloc (.cells #[.bool t.b, t.up, t.down] 118)) (.slice (some ⟨W0.heap.size, 0, none⟩) 1 1) ([y].map fun z => (z, 1)) := by
  have t0 := World.alloc_heap_new W0 (.cells #[.bool t.b, t.up, t.down] 118)
  refine ⟨[t], rfl, ?_, Or.inr ⟨_, 0, 1, rfl, by simp, by simp, ?_⟩⟩
  · intro i a b ha hb
    match i with
    | 0 => simp at ha hb; subst ha hb; exact h1.alloc _
    | i + 1 => simp at ha
  · intro i a ha
    match i with
    | 0 => simp at ha; subst ha; exact ⟨cell_of_row _ _ 0 _ _ _ t0, cell_of_row _ _ 1 _ _ _ t0, cell_of_row _ _ 2 _ _ _ t0⟩
    | i + 1 => simp at ha

theorem condCells_get (cs : List CondV) (i j : Nat) (c : CondV) (h : cs[i]? = some c) (hj : j < 5) : (condCells cs)[i * 5 + j]? = c.cells[j]? := by
  induction cs generalizing i with
  | nil => simp at h
  | cons t ts ih =>
    rw [show condCells (t :: ts) = t.cells ++ condCells ts by simp [condCells]]
    cases i with
    | zero =>
      simp at h
      subst h
      rw [List.getElem?_append_left (by simp [CondV.cells]; omega), Nat.zero_mul, Nat.zero_add]
    | succ i =>
      rw [List.getElem?_append_right (by simp [CondV.cells]; omega), show (i + 1) * 5 + j - t.cells.length = i * 5 + j by simp [CondV.cells]; omega]
      exact ih i (by simpa using h)

/-- One of the conditions that lie in a row. -/
theorem OwnConds.at {B : Nat} {w : World} {v : Value} {rows : List (List Int × List UInt8 × Int)} (h : OwnConds B w v rows) (i : Nat) (r : List Int × List UInt8 × Int) (hr : rows[i]? = some r) :
    ∃ (g cap : Nat) (c : CondV), v = .slice (some ⟨g, 0, none⟩) rows.length cap ∧ w.cell? ⟨g, i * 5, none⟩ = some c.gv ∧ w.cell? ⟨g, i * 5 + 1, none⟩ = some (.string c.s) ∧ w.cell? ⟨g, i * 5 + 2, none⟩ = some (.bool c.r.b) ∧ w.cell? ⟨g, i * 5 + 3, none⟩ = some c.r.up ∧ w.cell? ⟨g, i * 5 + 4, none⟩ = some c.r.down ∧ CondIs B w v c r := by
  obtain ⟨cs, hl, ⟨_, ⟨_, h2⟩ | ⟨g, cap, cur, h1, _, hh, _, _, hcs, htk⟩⟩, hc⟩ := h
  · have := (List.getElem?_eq_some_iff.1 hr).1
    omega
  · have hi : i < cs.length := by have := (List.getElem?_eq_some_iff.1 hr).1; omega
    have hci : cs[i]? = some cs[i] := List.getElem?_eq_getElem hi
    have key : ∀ j, j < 5 → w.cell? ⟨g, i * 5 + j, none⟩ = (cs[i]).cells[j]? := by
      intro j hj
      have k1 := condCells_get cs i j _ hci hj
      rw [← htk, List.getElem?_take_of_lt (by omega)] at k1
      rw [← k1]
      simp [World.cell?, hh]
    exact ⟨g, cap, cs[i], by rw [h1, hl], key 0 (by omega), key 1 (by omega), key 2 (by omega), key 3 (by omega), key 4 (by omega), hc i _ r hci hr⟩

set_option maxHeartbeats 4000000 in
set_option maxRecDepth 100000 in
theorem refPlain_all (s : ByteArray) (w : World) :
    Calls Tryz.prog 64 #[.string s] w fun e w' => e = .returned (.tuple #[.string ⟨(plainS s.data.toList).1.toArray⟩, .int .i64 ((plainS s.data.toList).2.1 : Nat), .int .i64 ((plainS s.data.toList).2.2 : Nat)]) ∧ Below w.heap.size w w' := by
  by_cases hs : 2000 < s.size
  · have hp : plainS s.data.toList = ([], 4, 0) := by rw [plainS, if_pos (by rw [toList_len]; exact hs)]
    rw [hp]
    have HR := hide (fun W => parse_long s W hs)
    clear hs hp
    go_enter Tryz.func64, Tryz.ntmps64
    go_wp2_with fail
    refine (HR.out _).mono ?_
    rintro e w1 ⟨rfl, rfl⟩
    go_wp2
    go_ret3
    exact ⟨rfl, Below.refl _ _⟩
  · have HR := hide (fun W => parse_any s W (by omega))
    have HS := hide (plainS_parse s.data.toList)
    have HEr := hide (fun a b h => parseS_err (s := s.data.toList) (a := a) (b := b) h)
    have HOk := hide (fun p h => parseS_ok (s := s.data.toList) (p := p) h)
    obtain ⟨LN, hLN⟩ : ∃ LN, (lines s.data.toList).length = LN := ⟨_, rfl⟩
    rw [hLN] at HR HOk
    clear hs hLN
    generalize plainS s.data.toList = PS at *
    generalize parseS s.data.toList = PA at *
    go_enter Tryz.func64, Tryz.ntmps64
    go_wp2_with fail
    refine (HR.out _).mono ?_
    rintro e w1 ⟨hb1, ⟨a, b, hpa, rfl⟩ | ⟨p, W1, hpa, rfl, hd, hok⟩⟩
    · have HS2 := HS.out
      rw [hpa] at HS2
      simp only at HS2
      subst HS2
      have haI : ¬ (a : Int) = 0 := by have := HEr.out a b hpa; omega
      go_wp2
      go_ret3
      exact ⟨rfl, hb1⟩
    · have HS2 := HS.out
      rw [hpa] at HS2
      simp only at HS2
      subst HS2
      have hL := HOk.out p hpa
      clear HS HEr HOk hpa
      obtain ⟨hn0, hn4⟩ := hok.n (by omega)
      have hml := hok.m (by omega)
      have hgl : p.rg.length = p.n := by have := hok.g; omega
      have hr6 := hok.l
      obtain ⟨vM, vL, vH, vC, hQ⟩ := hd
      generalize hgp : w.heap.size = gp at *
      have HTM := hide (fun W (hW : Ext w1 W) => told_any W vM (p.mx.map fun z => (z, 1)) 11 (by omega) ((hQ.below hW).mx) (fun z hz => by
        obtain ⟨y, hy, rfl⟩ := List.mem_map.1 hz
        exact ⟨Nat.lt_trans (hok.bm y hy) (by decide), by show (1 : Nat) < _; decide⟩) (by rw [List.length_map]; omega))
      rw [toldL_one] at HTM
      have hszM := told_len p.mx hok.bm (by omega)
      have HHB := hide (headS_bytes p)
      have HIT := hide (fun W => Tryz.strconv_Itoa_small p.n (by omega) W)
      have hszD : (ByteArray.mk (Lib.decDigits p.n).toArray).size ≤ 100 := by
        have : (4 : Nat) < 10 ^ 40 := by decide
        have h2 := frac_len (p := (p.n : Int)) (q := 1) (K := 11) (by have : (4 : Nat) < 10000 ^ 11 := by decide
                                                                      omega) (by decide)
        rw [← itoa_frac, itoa_nat] at h2
        rw [size_mk]
        omega
      generalize ByteArray.mk (Lib.decDigits p.n).toArray = dB at *
      generalize ByteArray.mk (tellS p.mx).toArray = mB at *
      generalize hhd : ByteArray.mk (headS p).toArray = hB at *
      have HHD := hide hhd
      have hszH : hB.size ≤ 2000 := by
        rw [← HHB.out]
        simp only [ByteArray.size_append]
        have e1 : (ByteArray.mk #[118, 97, 114, 115, 32]).size = 5 := rfl
        have e2 : (ByteArray.mk #[10, 109, 97, 120]).size = 4 := rfl
        have e3 : (ByteArray.mk #[10]).size = 1 := rfl
        omega
      clear hhd
      obtain ⟨k0, k1, k2, k3, k4, e0, e1, e2, e3, e4⟩ := hQ.box
      have HCL := hide (fun W (hW : Ext w1 W) => And.intro (hW.cell k0) (hW.cell k1))
      have y0 := Ext.refl w1
      clear k2 k3 k4 e0 e1 e2 e3 e4
      have f1 : ¬ 9223372036854775807 < 5 + dB.size := by omega
      have f2 : ¬ 9223372036854775807 < 5 + dB.size + 4 := by omega
      have f2' : ¬ 9223372036854775803 < 5 + dB.size := by omega
      have f3 : ¬ 9223372036854775807 < 5 + dB.size + 4 + mB.size := by omega
      have f4 : ¬ 9223372036854775807 < 5 + dB.size + 4 + mB.size + 1 := by omega
      have f4' : ¬ 9223372036854775806 < 5 + dB.size + 4 + mB.size := by omega
      go_wp2_with fail
      go_cut [8] (fun sv wc => sv = .string hB ∧ Ext w1 wc)
      case first =>
        obtain ⟨s0, s1⟩ := HCL.out w1 y0
        go_region_held3 (fun w' => w'.cell? ⟨gp, 0, none⟩ = some (.int .i64 (p.n : Nat)) ∧ w'.cell? ⟨gp, 1, none⟩ = some vM) (first | (exact HCL.out _ (by with_reducible first | assumption | exact Ext.alloc (by assumption) _ | exact Ext.drew (by assumption))) | go_keep)
          (first | (go_at_call 108; refine (HTM.out _ (by first | exact y0.drew | exact y0)).mono ?_; rintro e wB ⟨rfl, hbB⟩; have xB : Ext w1 wB := (by first | exact y0.drew.trans hbB | exact y0.trans hbB); obtain ⟨q0, q1⟩ := HCL.out wB xB) | (go_at_call 42; refine (HIT.out _).mono ?_; rintro e wA ⟨rfl, rfl⟩))
        all_goals go_wp2_with fail
        all_goals go_meet
        all_goals exact ⟨by rw [← HHB.out], by first | exact xB | exact xB.drew⟩
      case rest =>
        obtain ⟨rfl, xc⟩ := hcut
        clear f1 f2 f2' f3 f4 f4' HTM HIT HHB hszM hszD k0 k1
        have HQE := hide (fun W (hW : Ext w1 W) => hQ.below hW)
        have hbg := hide hok.bg
        have hbr := hide hok.br
        have hcc := hide hok.c
        clear hok
        go_wp2_with fail
        go_loopw [8, 9] (fun sv iv wr => ∃ (i : Nat) (cur : ByteArray), i ≤ p.n ∧ sv = .string cur ∧ iv = .int .i64 (i : Nat) ∧ cur.size ≤ 2000 + i * 1000 ∧ Hid (cur = ⟨(headS p ++ (p.rg.take i).flatMap rangeS).toArray⟩) ∧ Ext w1 wr) (fun _ iv _ => p.n - (intOf iv).toNat)
        case atStart => exact ⟨0, _, by omega, rfl, rfl, by omega, by rw [Hid, List.take_zero, List.flatMap_nil, List.append_nil]; exact HHD.out.symm, xc⟩
        case round =>
          obtain ⟨i, cur, hi, rfl, rfl, hcz, HC, xr⟩ := hrel
          have HQJ := hide (HQE.out _ xr)
          obtain ⟨k0, k1, k2, k3, k4, e0, e1, e2, e3, e4⟩ := HQJ.out.box
          by_cases hin : i < p.n
          · have hjr : i < p.rg.length := by omega
            have hmem : p.rg.getD i (0, 0) ∈ p.rg := by rw [List.getD_eq_getElem?_getD, List.getElem?_eq_getElem hjr]; exact List.getElem_mem _
            obtain ⟨hz1, hz2⟩ := hbg.out _ hmem
            obtain ⟨gL, oL, cL, tL, hvL, hgL, l0, l1, l2, hNL⟩ := HQJ.out.lo.nums.at_map i p.rg.length (p.rg.getD i (0, 0)).1 (by simp) (by rw [List.getElem?_map, List.getD_eq_getElem?_getD, List.getElem?_eq_getElem hjr]; rfl)
            obtain ⟨gH, oH, cH, tH, hvH, hgH, m0, m1, m2, hNH⟩ := HQJ.out.hi.nums.at_map i p.rg.length (p.rg.getD i (0, 0)).2 (by simp) (by rw [List.getElem?_map, List.getD_eq_getElem?_getD, List.getElem?_eq_getElem hjr]; rfl)
            rw [hgl] at hvL hvH
            have HTK : Hid (cur ++ ⟨#[114, 97, 110, 103, 101]⟩ ++ ⟨(tellS [(p.rg.getD i (0, 0)).1, (p.rg.getD i (0, 0)).2]).toArray⟩ ++ ⟨#[10]⟩ = ⟨(headS p ++ (p.rg.take (i + 1)).flatMap rangeS).toArray⟩) := by
              rw [Hid, HC.out, range_bytes, List.take_succ_eq_append_getElem hjr, List.flatMap_append, List.flatMap_cons, List.flatMap_nil, List.append_nil, List.append_assoc, List.getD_eq_getElem?_getD, List.getElem?_eq_getElem hjr]
              rfl
            generalize (p.rg.getD i (0, 0)).1 = lo at *
            generalize (p.rg.getD i (0, 0)).2 = hi at *
            have hszT := told_len [lo, hi] (fun z hz => by
              rcases List.mem_cons.1 hz with rfl | hz
              · exact hz1
              · rw [List.mem_singleton.1 hz]; exact hz2) (by simp)
            have HTL := hide (fun W (hW : Ext wr W) => told_any (W.alloc (.cells #[.bool tL.b, tL.up, tL.down, .bool tH.b, tH.up, tH.down] 118)) (.slice (some ⟨W.heap.size, 0, none⟩) 2 2) ([lo, hi].map fun z => (z, 1)) 11 (by omega) (nums_two W tL tH lo hi (hNL.below hW) (hNH.below hW)) (fun z hz => by
              obtain ⟨y, hy, rfl⟩ := List.mem_map.1 hz
              refine ⟨Nat.lt_trans ?_ (by decide : 10 ^ 40 < 10000 ^ 11), by show (1 : Nat) < _; decide⟩
              rcases List.mem_cons.1 hy with rfl | hy
              · exact hz1
              · rw [List.mem_singleton.1 hy]; exact hz2) (by simp))
            rw [toldL_one] at HTL
            generalize ByteArray.mk (tellS [lo, hi]).toArray = tB at *
            rw [hvL] at k2
            rw [hvH] at k3
            obtain ⟨Lb, ⟨La, Ll, Lk⟩, ⟨Ma, Ml, Mk⟩⟩ := tL
            obtain ⟨Hb, ⟨Ha, Hl, Hk⟩, ⟨Ia, Il, Ik⟩⟩ := tH
            simp only [Tri.up, Tri.down] at l1 l2 m1 m2 HTL
            have HCL2 := hide (fun W (hW : Ext wr W) => And.intro (hW.cell k2) (And.intro (hW.cell k3) (And.intro (hW.cell l0) (And.intro (hW.cell l1) (And.intro (hW.cell l2) (And.intro (hW.cell m0) (And.intro (hW.cell m1) (hW.cell m2))))))))
            have z0 := Ext.refl wr
            have f1 : ¬ 9223372036854775807 < cur.size + 5 := by omega
            have f1' : ¬ 9223372036854775802 < cur.size := by omega
            have f3 : ¬ 9223372036854775807 < cur.size + 5 + tB.size := by omega
            have f4 : ¬ 9223372036854775807 < cur.size + 5 + tB.size + 1 := by omega
            have f4' : ¬ 9223372036854775806 < cur.size + 5 + tB.size := by omega
            clear hNL hNH hmem hz1 hz2 k1 k4 e0 e1 e2 e3 e4 HC
            go_wp2
            have hszN : (cur ++ ⟨#[114, 97, 110, 103, 101]⟩ ++ tB ++ ⟨#[10]⟩).size ≤ 2000 + (i + 1) * 1000 := by
              have e1 : (ByteArray.mk #[114, 97, 110, 103, 101]).size = 5 := rfl
              have e3 : (ByteArray.mk #[10]).size = 1 := rfl
              simp only [ByteArray.size_append]
              omega
            obtain ⟨s0, s1, s2, s3, s4, s5, s6, s7⟩ := HCL2.out wr z0
            go_region_held3 (fun w' => w'.cell? ⟨gp, 2, none⟩ = some (.slice (some ⟨gL, oL, none⟩) p.n cL) ∧ w'.cell? ⟨gp, 3, none⟩ = some (.slice (some ⟨gH, oH, none⟩) p.n cH) ∧ w'.cell? ⟨gL, oL + i * 3, none⟩ = some (.bool Lb) ∧ w'.cell? ⟨gL, oL + i * 3 + 1, none⟩ = some (.slice La Ll Lk) ∧ w'.cell? ⟨gL, oL + i * 3 + 2, none⟩ = some (.slice Ma Ml Mk) ∧ w'.cell? ⟨gH, oH + i * 3, none⟩ = some (.bool Hb) ∧ w'.cell? ⟨gH, oH + i * 3 + 1, none⟩ = some (.slice Ha Hl Hk) ∧ w'.cell? ⟨gH, oH + i * 3 + 2, none⟩ = some (.slice Ia Il Ik)) (first | (exact HCL2.out _ (by with_reducible first | assumption | exact Ext.alloc (by assumption) _ | exact Ext.drew (by assumption) | exact Ext.alloc (Ext.drew (by assumption)) _)) | go_keep)
              (first | (go_at_call 108; refine (HTL.out _ (by first | exact z0.drew | exact z0)).mono ?_; rintro e wB ⟨rfl, hbB⟩; have xB : Ext wr wB := (by first | exact (z0.drew.alloc _).trans hbB | exact (z0.alloc _).trans hbB); obtain ⟨q0, q1, q2, q3, q4, q5, q6, q7⟩ := HCL2.out wB xB) | fail)
            all_goals go_wp2
            all_goals go_roundw
            case rel => exact ⟨i + 1, _, by omega, rfl, by go_num, hszN, HTK, xr.trans (by first | exact xB | exact xB.drew)⟩
            case measure => simp [intOf]; omega
          · obtain rfl : i = p.n := by omega
            have HC2 : Hid (cur = ⟨(headS p ++ p.rg.flatMap rangeS).toArray⟩) := by
              rw [Hid, HC.out, List.take_of_length_le (by omega)]
            clear HC k1 k2 k3 e0 e1 e2 e3 e4 HQJ
            have hc0 : cur.size ≤ 6000 := by omega
            clear hcz
            obtain ⟨cs0, hcl0, ⟨_, _⟩, _⟩ := (HQE.out _ xr).cs
            go_wp2_with fail
            go_loopw [8, 10] (fun sv iv wr => ∃ (j : Nat) (cur : ByteArray), j ≤ p.rows.length ∧ sv = .string cur ∧ iv = .int .i64 (j : Nat) ∧ cur.size ≤ 6000 + j * 2000 ∧ Hid (cur = ⟨(headS p ++ p.rg.flatMap rangeS ++ (p.rows.take j).flatMap rowS).toArray⟩) ∧ Ext w1 wr) (fun _ iv _ => p.rows.length - (intOf iv).toNat)
            case atStart => exact ⟨0, _, by omega, rfl, rfl, by omega, by rw [Hid, List.take_zero, List.flatMap_nil, List.append_nil]; exact HC2.out, xr⟩
            case round =>
              clear HC2 hc0 k0 k4 xr
              obtain ⟨j, cur, hj, rfl, rfl, hcz, HC, xr⟩ := hrel
              have HQJ := hide (HQE.out _ xr)
              obtain ⟨k0, k1, k2, k3, k4, e0, e1, e2, e3, e4⟩ := HQJ.out.box
              clear k0 k1 k2 k3 e0 e1 e2 e3 e4
              obtain ⟨aC, kC, hvS⟩ : ∃ aC kC, vC = .slice aC p.rows.length kC := by
                obtain ⟨cs, hl, ⟨_, ⟨h1, h2⟩ | ⟨g, cap, _, h1, _⟩⟩, _⟩ := HQJ.out.cs
                · exact ⟨none, 0, by rw [h1, ← hl, h2]⟩
                · exact ⟨_, cap, by rw [h1, hl]⟩
              by_cases hjn : j < p.rows.length
              · obtain ⟨r, hr⟩ : ∃ r, p.rows[j]? = some r := ⟨_, List.getElem?_eq_getElem hjn⟩
                have hmr : r ∈ p.rows := List.mem_of_getElem? hr
                obtain ⟨gC, cC, ⟨⟨Ga, Gl, Gk⟩, sB, ⟨Rb, ⟨Ra, Rl, Rk⟩, ⟨Sa, Sl, Sk⟩⟩⟩, hvC, c0, c1, c2, c3, c4, hN1, _, hsB, hNR⟩ := HQJ.out.cs.at j r hr
                simp only [CondV.gv, Tri.up, Tri.down] at c0 c1 c2 c3 c4 hN1 hsB hNR
                rw [hvC] at k4
                have hg1 : r.1.length ≤ 4 := by have := (hcc.out r hmr).1; omega
                have hsz1 := told_len r.1 (hbr.out r hmr).1 hg1
                have hsz2 := told_len [r.2.2] (fun z hz => by rw [List.mem_singleton.1 hz]; exact (hbr.out r hmr).2) (by simp)
                have hsz3 : sB.size ≤ 2 := by rw [hsB, size_mk]; exact isSign_short (hcc.out r hmr).2
                have HTK : Hid (cur ++ ⟨#[114, 111, 119]⟩ ++ ⟨(tellS r.1).toArray⟩ ++ ⟨#[32]⟩ ++ sB ++ ⟨(tellS [r.2.2]).toArray⟩ ++ ⟨#[10]⟩ = ⟨(headS p ++ p.rg.flatMap rangeS ++ (p.rows.take (j + 1)).flatMap rowS).toArray⟩) := by
                  rw [Hid, HC.out, hsB, row_bytes, List.take_succ_eq_append_getElem hjn, List.flatMap_append, List.flatMap_cons, List.flatMap_nil, List.append_nil, List.append_assoc (headS p ++ p.rg.flatMap rangeS)]
                  rw [List.getElem?_eq_getElem hjn] at hr
                  rw [Option.some.inj hr]
                have x5 : Ext wr (wr.alloc (.cells #[.slice Ga Gl Gk, .string sB, .bool Rb, .slice Ra Rl Rk, .slice Sa Sl Sk] 206)) := (Ext.refl wr).alloc _
                have t0 := World.alloc_heap_new wr (.cells #[.slice Ga Gl Gk, .string sB, .bool Rb, .slice Ra Rl Rk, .slice Sa Sl Sk] 206)
                have b0 := cell_of_row _ _ 0 _ _ _ t0
                have b1 := cell_of_row _ _ 1 _ _ _ t0
                have b2 := cell_of_row _ _ 2 _ _ _ t0
                have b3 := cell_of_row _ _ 3 _ _ _ t0
                have b4 := cell_of_row _ _ 4 _ _ _ t0
                have HT1 := hide (fun W (hW : Ext wr W) => told_any W (.slice Ga Gl Gk) (r.1.map fun z => (z, 1)) 11 (by omega) (hN1.below hW) (fun z hz => by
                  obtain ⟨y, hy, rfl⟩ := List.mem_map.1 hz
                  exact ⟨Nat.lt_trans ((hbr.out r hmr).1 y hy) (by decide), by show (1 : Nat) < _; decide⟩) (by rw [List.length_map]; omega))
                rw [toldL_one] at HT1
                have HT2 := hide (fun W v (hW : Nums W v ([r.2.2].map fun z => (z, 1))) => told_any W v ([r.2.2].map fun z => (z, 1)) 11 (by omega) hW (fun z hz => by
                  obtain ⟨y, hy, rfl⟩ := List.mem_map.1 hz
                  rw [List.mem_singleton.1 hy]
                  exact ⟨Nat.lt_trans (hbr.out r hmr).2 (by decide), by show (1 : Nat) < _; decide⟩) (by simp))
                rw [toldL_one] at HT2
                have HNS := hide (fun W (hW : Ext wr W) => nums_one W ⟨Rb, ⟨Ra, Rl, Rk⟩, ⟨Sa, Sl, Sk⟩⟩ r.2.2 (hNR.below hW))
                simp only [Tri.up, Tri.down] at HNS
                generalize ByteArray.mk (tellS r.1).toArray = gB at *
                generalize ByteArray.mk (tellS [r.2.2]).toArray = rB at *
                have f1 : ¬ 9223372036854775807 < cur.size + 3 := by omega
                have f1' : ¬ 9223372036854775804 < cur.size := by omega
                have f2 : ¬ 9223372036854775807 < cur.size + 3 + gB.size := by omega
                have f3 : ¬ 9223372036854775807 < cur.size + 3 + gB.size + 1 := by omega
                have f3' : ¬ 9223372036854775806 < cur.size + 3 + gB.size := by omega
                have f4 : ¬ 9223372036854775807 < cur.size + 3 + gB.size + 1 + sB.size := by omega
                have f5 : ¬ 9223372036854775807 < cur.size + 3 + gB.size + 1 + sB.size + rB.size := by omega
                have f6 : ¬ 9223372036854775807 < cur.size + 3 + gB.size + 1 + sB.size + rB.size + 1 := by omega
                have f6' : ¬ 9223372036854775806 < cur.size + 3 + gB.size + 1 + sB.size + rB.size := by omega
                have hszN : (cur ++ ⟨#[114, 111, 119]⟩ ++ gB ++ ⟨#[32]⟩ ++ sB ++ rB ++ ⟨#[10]⟩).size ≤ 6000 + (j + 1) * 2000 := by
                  have e1 : (ByteArray.mk #[114, 111, 119]).size = 3 := rfl
                  have e2 : (ByteArray.mk #[32]).size = 1 := rfl
                  have e3 : (ByteArray.mk #[10]).size = 1 := rfl
                  simp only [ByteArray.size_append]
                  omega
                clear hN1 hNR hsB HC hmr hr t0
                go_wp2
                clear c0 c1 c2 c3 c4 k4
                generalize wr.alloc (.cells #[.slice Ga Gl Gk, .string sB, .bool Rb, .slice Ra Rl Rk, .slice Sa Sl Sk] 206) = w5 at *
                have HCB := hide (fun W (hW : Ext w5 W) => And.intro (hW.cell b0) (And.intro (hW.cell b1) (And.intro (hW.cell b2) (And.intro (hW.cell b3) (hW.cell b4)))))
                have y5 := Ext.refl w5
                clear HR HQE HQJ hbg hbr hcc HCL HHD hQ hml hgl hszH b0 b1 b2 b3 b4 hg1 hsz1 hsz2 hsz3 hvC
                obtain ⟨b0, b1, b2, b3, b4⟩ := HCB.out w5 y5
                go_region_held3 (fun w' => w'.cell? ⟨wr.heap.size, 0, none⟩ = some (.slice Ga Gl Gk) ∧ w'.cell? ⟨wr.heap.size, 1, none⟩ = some (.string sB) ∧ w'.cell? ⟨wr.heap.size, 2, none⟩ = some (.bool Rb) ∧ w'.cell? ⟨wr.heap.size, 3, none⟩ = some (.slice Ra Rl Rk) ∧ w'.cell? ⟨wr.heap.size, 4, none⟩ = some (.slice Sa Sl Sk)) (first | (exact HCB.out _ (by with_reducible first | assumption | exact Ext.alloc (by assumption) _ | exact Ext.drew (by assumption) | exact Ext.alloc (Ext.drew (by assumption)) _ | exact Ext.drew (Ext.alloc (by assumption) _))) | go_keep)
                  (first | (go_at_call 108; with_reducible refine (HT1.out _ (by with_reducible first | exact x5.drew | exact x5 | exact (x5.drew.alloc _) | exact (x5.alloc _).drew | exact x5.alloc _)).mono ?_; rintro e wA ⟨rfl, hbA0⟩; have hbA := Ext.of hbA0; have xA : Ext w5 wA := (by with_reducible first | exact y5.drew.trans hbA | exact y5.trans hbA | exact (y5.drew.alloc _).trans hbA | exact (y5.alloc _).drew.trans hbA | exact (y5.alloc _).trans hbA); have zA : Ext wr wA := x5.trans xA; obtain ⟨q0, q1, q2, q3, q4⟩ := HCB.out wA xA; (first | (with_reducible have hN2 := (HNS.out w5 x5).ext ((Ext.refl _).drew.trans hbA)) | (with_reducible have hN2 := (HNS.out w5 x5).ext hbA) | (with_reducible have hN2 := (HNS.out w5.drew x5.drew).ext hbA) | skip)) | (go_at_call 108; with_reducible refine (HT2.out _ _ (by with_reducible first | exact HNS.out _ zA | exact HNS.out _ zA.drew | exact (HNS.out _ zA).ext (Ext.refl _).drew | exact hN2 | exact hN2.ext (Ext.refl _).drew)).mono ?_; rintro e wB ⟨rfl, hbB0⟩; have hbB := Ext.of hbB0; have xB : Ext w5 wB := (by with_reducible first | exact xA.trans hbB | exact xA.drew.trans hbB | exact (xA.alloc _).trans hbB | exact (xA.drew.alloc _).trans hbB | exact (xA.alloc _).drew.trans hbB); obtain ⟨o0, o1, o2, o3, o4⟩ := HCB.out wB xB))
                all_goals go_wp2
                all_goals go_roundw
                all_goals first | exact ⟨j + 1, _, by omega, rfl, by go_num, hszN, HTK, xr.trans (x5.trans (by first | exact xB | exact xB.drew))⟩ | (simp [intOf]; omega)
              · obtain rfl : j = p.rows.length := by omega
                have HF : Hid (cur = ⟨(textS p).toArray⟩) := by
                  rw [Hid, HC.out, textS_head, List.take_length]
                clear HC
                rw [hvS] at k4
                go_wp2
                go_ret3
                exact ⟨by rw [← HF.out]; rfl, hb1.trans (xr.mono (by have := hb1.size; omega))⟩
end Go.Proofs.YtnhfdcfnojnofaaGreatDoor.T

/-
  What the law's Plains does (package planeslaw).
-/
namespace Go.Proofs.YtnhfdcfnojnofaaGreatDoor
open Go.RowKit

set_option maxHeartbeats 1000000 in
set_option maxRecDepth 100000 in
theorem looks_none (g : Nat) (w : World) (h : w.cell? ⟨g, 1, none⟩ = some (.slice none 0 0)) :
    Calls Tryz.prog 40 #[.pointer (some ⟨g, 1, none⟩)] w fun e w' => e = .returned (.bool true) ∧ w' = w := by
  go_enter Tryz.func40, Tryz.ntmps40
  go_wp2
  go_loop [3] (fun v => v = .int .i64 0) (fun v => (intOf v).toNat)
  case atStart => rfl
  case round =>
    subst hrel
    go_wp2
    go_ret
    exact ⟨rfl, rfl⟩

/-- The cells of a script's step. -/
def StepAt (w : World) (b off : Nat) : Prop :=
  ∃ (k a c : Int) (s t : ByteArray) (lo : Option Addr) (ll lc : Nat), s.size ≤ 9223372036854775807 ∧ t.size ≤ 9223372036854775807 ∧
    w.cell? ⟨b, off, none⟩ = some (.int .i64 k) ∧ w.cell? ⟨b, off + 1, none⟩ = some (.int .i64 a) ∧ w.cell? ⟨b, off + 2, none⟩ = some (.int .i64 c) ∧ w.cell? ⟨b, off + 3, none⟩ = some (.string s) ∧ w.cell? ⟨b, off + 4, none⟩ = some (.string t) ∧ w.cell? ⟨b, off + 5, none⟩ = some (.slice lo ll lc)

theorem StepAt.below {w w' : World} {b off B : Nat} (h : StepAt w b off) (hb : Below B w w') (hB : b < B) : StepAt w' b off := by
  obtain ⟨k, a, c, s, t, lo, ll, lc, h1, h2, c0, c1, c2, c3, c4, c5⟩ := h
  exact ⟨k, a, c, s, t, lo, ll, lc, h1, h2, (hb.cell (p := ⟨b, off, none⟩) hB).trans c0, (hb.cell (p := ⟨b, off + 1, none⟩) hB).trans c1, (hb.cell (p := ⟨b, off + 2, none⟩) hB).trans c2, (hb.cell (p := ⟨b, off + 3, none⟩) hB).trans c3, (hb.cell (p := ⟨b, off + 4, none⟩) hB).trans c4, (hb.cell (p := ⟨b, off + 5, none⟩) hB).trans c5⟩

set_option maxHeartbeats 1000000 in
set_option maxRecDepth 100000 in
theorem lawplain_any (s : ByteArray) (hs : s.size ≤ 9223372036854775807) (w : World) (hg : Gl w) :
    Calls Tryz.prog 51 #[.string s] w fun e w' => e = .returned (.bool true) ∧ Below w.heap.size w w' := by
  have HP := hide (fun W hW => planesPlain_all s.data.toList W hW)
  have HR := hide (fun W => T.refPlain_all s W)
  rw [show (⟨s.data.toList.toArray⟩ : ByteArray) = s by simp] at HP
  generalize plainS s.data.toList = r at *
  obtain ⟨r1, r2, r3⟩ := r
  simp only at HP HR
  generalize ByteArray.mk r1.toArray = rr at *
  go_enter Tryz.func51, Tryz.ntmps51
  go_wp2_with fail
  refine (HP.out _ hg).mono ?_
  rintro e w1 ⟨rfl, hb1⟩
  go_wp2_with fail
  refine (HR.out _).mono ?_
  rintro e w2 ⟨rfl, hb2⟩
  go_wp2
  go_ret
  exact ⟨rfl, hb1.trans (hb2.mono hb1.size)⟩

set_option maxHeartbeats 1000000 in
set_option maxRecDepth 100000 in
theorem step_two (p : Value) (a b : Int) (s t : ByteArray) (lo : Option Addr) (ll lc : Nat) (hs : s.size ≤ 9223372036854775807) (w : World) (hg : Gl w) :
    Calls Tryz.prog 39 #[p, .agg #[.int .i64 2, .int .i64 a, .int .i64 b, .string s, .string t, .slice lo ll lc]] w fun e w' => e = .returned (.bool true) ∧ Below w.heap.size w w' := by
  have hbW : Below w.heap.size w (w.alloc (.cells #[.int .i64 2, .int .i64 a, .int .i64 b, .string s, .string t, .slice lo ll lc] 75)) := (Below.refl _ _).alloc (Nat.le_refl _) _
  have hgW := hg.below hbW
  go_enter Tryz.func39, Tryz.ntmps39
  go_wp2_with fail
  refine (lawplain_any s hs _ hgW).mono ?_
  rintro e w1 ⟨rfl, hb1⟩
  go_wp2
  go_ret
  exact ⟨rfl, hbW.trans (hb1.mono hbW.size)⟩

set_option maxHeartbeats 2000000 in
set_option maxRecDepth 100000 in
theorem plays_two (ao : Option Addr) (n cap : Nat) (hn : n ≤ 9223372036854775807) (w : World) (hg : Gl w) (hsc : 0 < n → ∃ b off, ao = some ⟨b, off, none⟩ ∧ b < w.heap.size ∧ ∀ i, i < n → StepAt w b (off + i * 6)) :
    Calls Tryz.prog 15 #[.slice ao n cap, .int .i64 2, .int .i64 2] w fun e w' => e = .returned (.bool true) ∧ Below w.heap.size w w' := by
  have hbox : Box2 (w.alloc (.cells #[.string ⟨#[]⟩, .slice none 0 0] 73)) w.heap.size (.string ⟨#[]⟩) (.slice none 0 0) := Box2.new _ _ _ _
  have hbW : Below w.heap.size w (w.alloc (.cells #[.string ⟨#[]⟩, .slice none 0 0] 73)) := (Below.refl _ _).alloc (Nat.le_refl _) _
  go_enter Tryz.func15, Tryz.ntmps15
  go_wp2
  go_loopw [8] (fun iv wr => ∃ i : Nat, i ≤ n ∧ iv = .int .i64 (i : Nat) ∧ Box2 wr w.heap.size (.string ⟨#[]⟩) (.slice none 0 0) ∧ Below w.heap.size w wr) (fun iv _ => ((n : Int) - intOf iv).toNat)
  case atStart => exact ⟨0, by omega, rfl, hbox, hbW⟩
  case round =>
    obtain ⟨i, hi, rfl, hbx, hbel⟩ := hrel
    have hgr := hg.below hbel
    by_cases hin : i < n
    · obtain ⟨b, off, rfl, hb, hst⟩ := hsc (by omega)
      obtain ⟨k, a, c, s, t, lo, ll, lc, hs, ht, c0, c1, c2, c3, c4, c5⟩ := (hst i hin).below hbel hb
      have hbx' := hbx
      obtain ⟨d0, d1, d2, d3, d4⟩ := hbx'
      by_cases hk : k = 2
      · subst hk
        go_wp2_with fail
        refine (step_two _ a c s t lo ll lc hs _ hgr).mono ?_
        rintro e w1 ⟨rfl, hb1⟩
        have hbx1 := hbx.below hb1
        have hbel1 := hbel.trans (hb1.mono hbel.size)
        clear d0 d1 d2 d3 d4 hb1 c0 c1 c2 c3 c4 c5
        have hbx2 := hbx1
        obtain ⟨d0, d1, d2, d3, d4⟩ := hbx2
        go_wp2_with fail
        refine (looks_none w.heap.size w1 d1).mono ?_
        rintro e w2 ⟨rfl, rfl⟩
        go_wp2
        go_roundw
        case rel => exact ⟨i + 1, by omega, by go_num, hbx1, hbel1⟩
        case measure => simp [intOf]; omega
      · by_cases hk1 : k < 2
        · go_wp2
          go_roundw
          case rel => exact ⟨i + 1, by omega, by go_num, hbx, hbel⟩
          case measure => simp [intOf]; omega
        · have hk2 : 2 < k := by omega
          go_wp2
          go_roundw
          case rel => exact ⟨i + 1, by omega, by go_num, hbx, hbel⟩
          case measure => simp [intOf]; omega
    · go_wp2
      go_ret
      exact ⟨rfl, hbel⟩

set_option maxHeartbeats 400000 in
theorem plains_any (ao : Option Addr) (n cap : Nat) (hn : n ≤ 9223372036854775807) (w : World) (hg : Gl w) (hsc : 0 < n → ∃ b off, ao = some ⟨b, off, none⟩ ∧ b < w.heap.size ∧ ∀ i, i < n → StepAt w b (off + i * 6)) :
    Calls Tryz.prog 6 #[.slice ao n cap] w fun e w' => e = .returned (.bool true) ∧ Below w.heap.size w w' := by
  go_enter Tryz.func6, Tryz.ntmps6
  go_wp2_with fail
  refine (plays_two ao n cap hn w hg hsc).mono ?_
  rintro e w1 ⟨rfl, hb1⟩
  go_wp2
  go_ret
  exact ⟨rfl, hb1⟩
end Go.Proofs.YtnhfdcfnojnofaaGreatDoor
