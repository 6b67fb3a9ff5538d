/-
  Part 31 of the texts ahead of Pks1: Pln1, Kpl9.
-/
import Derived.Test.YtnhfdcfnojnofaaGreatDoorPks1Z26
import Derived.Test.YtnhfdcfnojnofaaGreatDoorPks1Z30
import Derived.Test.YtnhfdcfnojnofaaGreatDoorPks1Z8
import Derived.Test.YtnhfdcfnojnofaaGreatDoorPks1Z15
import Derived.Deep.RegionHeld3
set_option linter.unusedSimpArgs false
set_option linter.unusedVariables false
/-
  What the program's own Plain does (package planes).
-/
namespace Go.Proofs.YtnhfdcfnojnofaaGreatDoor
open Go.RowKit

theorem rowCells_get (rs : List RowV) (i j : Nat) (r : RowV) (h : rs[i]? = some r) (hj : j < 4) : (rowCells rs)[i * 4 + j]? = r.cells[j]? := by
  induction rs generalizing i with
  | nil => simp at h
  | cons t ts ih =>
    rw [show rowCells (t :: ts) = t.cells ++ rowCells ts by simp [rowCells]]
    cases i with
    | zero =>
      simp at h
      subst h
      rw [List.getElem?_append_left (by simp [RowV.cells]; omega), Nat.zero_mul, Nat.zero_add]
    | succ i =>
      rw [List.getElem?_append_right (by simp [RowV.cells]; omega), show (i + 1) * 4 + j - t.cells.length = i * 4 + j by simp [RowV.cells]; omega]
      exact ih i (by simpa using h)

theorem getD_mem {α : Type} {l : List α} {k : Nat} (d : α) (h : k < l.length) : l[k]? = some (l.getD k d) := by
  rw [List.getD_eq_getElem?_getD, List.getElem?_eq_getElem h]
  rfl

/-- The text of a problem that was read. -/
theorem string_DQ {L : Nat} (p : Prob) (gp : Nat) (vC vR : Value) (w : World) (htab : Tab w) (hd : DQ w gp p vC vR) (hp : PrOk L p) (hL : 2 + p.n ≤ L) :
    Calls Tryz.prog 60 #[.agg #[vC, vR]] w fun e w' => e = .returned (.string ⟨(textS p).toArray⟩) ∧ Below w.heap.size w w' := by
  obtain ⟨hn0, hn4⟩ := hp.n (by omega)
  have hml := hp.m (by omega)
  have hgl : p.rg.length = p.n := by have := hp.g; omega
  have hr6 := hp.l
  have hbr : ∀ r ∈ p.rows, r.1.length ≤ 4 ∧ r.2.1.length ≤ 2 ∧ (∀ z ∈ r.1, z.natAbs < 10 ^ 40) ∧ r.2.2.natAbs < 10 ^ 40 := fun r hr => ⟨by have := (hp.c r hr).1; omega, isSign_len (hp.c r hr).2, (hp.br r hr).1, (hp.br r hr).2⟩
  rcases hd.cols with ⟨h0, _⟩ | ⟨bc, zs, rfl, _, hzs, hco⟩
  · omega
  obtain ⟨x, hxc, hxs, hxw⟩ := cols_cells hzs hco.1
  obtain ⟨rs, hrl, hown, hri⟩ := hd.rows
  have hxw' : ∀ k, k < p.n → WholeV w (.agg #[x k 0, x k 1]) (p.mx.getD k 0) ∧ WholeV w (.agg #[x k 2, x k 3]) (p.rg.getD k (0, 0)).1 ∧ WholeV w (.agg #[x k 4, x k 5]) (p.rg.getD k (0, 0)).2 := by
    intro k hk
    have h0 : WholeV w (.agg #[x k 0, x k 1]) (zs.getD (3 * k) 0) := hxw k 0 hk (by omega)
    have h1 := hxw k 1 hk (by omega)
    have h2 := hxw k 2 hk (by omega)
    rw [hco.2.1 k (by omega)] at h0
    rw [(hco.2.2 k (by omega)).1] at h1
    rw [(hco.2.2 k (by omega)).2] at h2
    exact ⟨h0, h1, h2⟩
  obtain ⟨ap, kp, gR, y, hv, hap, hyc, hyw⟩ : ∃ (ap : Option Addr) (kp gR : Nat) (y : Nat → Nat → Value), vR = .slice ap p.rows.length kp ∧ (0 < p.rows.length → ap = some ⟨gR, 0, none⟩) ∧ (∀ i j, i < p.rows.length → j < 4 → w.cell? ⟨gR, i * 4 + j, none⟩ = some (y i j)) ∧
      (∀ k, k < p.rows.length → ∃ (T : Nat → Prop) (r : RowV), y k 0 = .string r.s ∧ y k 1 = .bool r.x ∧ y k 2 = .slice r.b.1 r.b.2.1 r.b.2.2 ∧ y k 3 = .slice (some ⟨r.f, 0, none⟩) r.n r.n ∧ RowIs w T r (p.rows.getD k ([], [], 0))) := by
    obtain ⟨_, ⟨k1, k2⟩ | ⟨g, cap, cur, k1, _, hh, _, _, hcs, htk⟩⟩ := hown
    · exact ⟨none, 0, 0, fun _ _ => .bool false, by rw [k1, ← hrl, k2], fun h => by omega, fun i _ hi => by omega, fun k hk => by omega⟩
    · refine ⟨_, cap, g, fun i j => ((rs.getD i ⟨⟨#[]⟩, false, (none, 0, 0), 0, 0⟩).cells).getD j (.bool false), by rw [k1, hrl], fun _ => rfl, ?_, ?_⟩
      · intro i j hi hj
        have h1 := rowCells_get rs i j _ (getD_mem ⟨⟨#[]⟩, false, (none, 0, 0), 0, 0⟩ (by omega : i < rs.length)) hj
        rw [← htk, List.getElem?_take_of_lt (by omega)] at h1
        have h2 : w.cell? ⟨g, i * 4 + j, none⟩ = cur.toList[i * 4 + j]? := by simp [World.cell?, hh]
        rw [h2, h1]
        exact getD_mem _ (by simp [RowV.cells]; omega)
      · intro k hk
        refine ⟨_, rs.getD k ⟨⟨#[]⟩, false, (none, 0, 0), 0, 0⟩, rfl, rfl, rfl, rfl, hri k _ _ (getD_mem _ (by omega)) (getD_mem _ hk)⟩
  subst hv
  exact string_any p (some ⟨bc, 0, none⟩) p.n ap kp bc gR x y w htab hn4 (fun _ => rfl) hap hml hgl hr6 hp.bm hp.bg hbr hxc hxs hxw' hyc hyw

set_option maxHeartbeats 1000000 in
set_option maxRecDepth 100000 in
theorem plain_any (s : List UInt8) (w : World) (hg : Gl w) :
    Calls Tryz.prog 44 #[.string ⟨s.toArray⟩] w fun e w' => e = .returned (.tuple #[.string ⟨(plainS s).1.toArray⟩, .int .i64 ((plainS s).2.1 : Nat), .int .i64 ((plainS s).2.2 : Nat)]) ∧ Below w.heap.size w w' := by
  by_cases hs : 2000 < s.length
  · have hp : plainS s = ([], 4, 0) := by rw [plainS, if_pos hs]
    rw [hp]
    have HR := hide (fun W => read_long s hs W)
    clear hs hp
    generalize (⟨s.toArray⟩ : ByteArray) = S at *
    go_enter Tryz.func44, Tryz.ntmps44
    go_wp2_with fail
    refine (HR.out _).mono ?_
    rintro e w1 ⟨rfl, hb1⟩
    go_wp2
    go_ret3
    exact ⟨rfl, hb1.alloc hb1.size _⟩
  · have HR := hide (fun W => read_any s (by omega) W)
    have HS := hide (plainS_parse s)
    obtain ⟨LN, hLN⟩ : ∃ LN, (lines s).length = LN := ⟨_, rfl⟩
    rw [hLN] at HR
    clear hs hLN
    generalize plainS s = PS at *
    generalize parseS s = PA at *
    generalize (⟨s.toArray⟩ : ByteArray) = S at *
    go_enter Tryz.func44, Tryz.ntmps44
    go_wp2_with fail
    refine (HR.out _).mono ?_
    rintro e w1 ⟨hb1, ⟨a, b, hpa, ha, rfl⟩ | ⟨p, gp, vC, vR, hpa, rfl, hd, hok, hL⟩⟩
    · have HS2 := HS.out
      rw [hpa] at HS2
      simp only at HS2
      subst HS2
      have haI : ¬ (a : Int) = 0 := by omega
      go_wp2
      go_ret3
      exact ⟨rfl, hb1.alloc hb1.size _⟩
    · have HS2 := HS.out
      rw [hpa] at HS2
      simp only at HS2
      subst HS2
      have HT := hide (fun W (hb : Below w1.heap.size w1 W) => string_DQ p gp vC vR W ((hg.1.below hb1).below hb) (hd.below hb) hok hL)
      obtain ⟨bc, zs, rfl, _, _⟩ := hd.colsAt (hok.n (by omega)).1
      obtain ⟨ap, kp, rfl⟩ := hd.shapeR
      clear hok hL hd
      go_wp2_with fail
      have xx : Below w1.heap.size w1 (w1.alloc (.cells #[.slice (some ⟨bc, 0, none⟩) p.n p.n, .slice ap p.rows.length kp] 109)) := (Below.refl _ _).alloc (Nat.le_refl _) _
      refine (HT.out _ xx).mono ?_
      rintro e w2 ⟨rfl, hb2⟩
      go_wp2
      go_ret3
      exact ⟨rfl, (hb1.trans (xx.mono hb1.size)).trans (hb2.mono (hb1.trans (xx.mono hb1.size)).size)⟩

set_option maxHeartbeats 1000000 in
set_option maxRecDepth 100000 in
theorem planesPlain_all (s : List UInt8) (w : World) (hg : Gl w) :
    Calls Tryz.prog 25 #[.string ⟨s.toArray⟩] w fun e w' => e = .returned (.tuple #[.string ⟨(plainS s).1.toArray⟩, .int .i64 ((plainS s).2.1 : Nat), .int .i64 ((plainS s).2.2 : Nat)]) ∧ Below w.heap.size w w' := by
  have HR := hide (fun W hW => plain_any s W hW)
  generalize plainS s = PS at *
  generalize (⟨s.toArray⟩ : ByteArray) = S at *
  go_enter Tryz.func25, Tryz.ntmps25
  go_wp2_with fail
  refine (HR.out w hg).mono ?_
  rintro e w1 ⟨rfl, hb1⟩
  go_wp2
  go_ret3
  exact ⟨rfl, hb1⟩
end Go.Proofs.YtnhfdcfnojnofaaGreatDoor

/-
  The keeper's Plain (package planeskeep).
-/
namespace Go.Proofs.YtnhfdcfnojnofaaGreatDoor
open Go.RowKit

/-- Plain of a text, as it is told. -/
theorem plainB (X : ByteArray) (r : List UInt8 × Nat × Nat) (h : plainS X.data.toList = r) (W : World) (hg : Gl W) : Calls Tryz.prog 25 #[.string X] W fun e w' => e = .returned (.tuple #[.string ⟨r.1.toArray⟩, .int .i64 (r.2.1 : Nat), .int .i64 (r.2.2 : Nat)]) ∧ Below W.heap.size W w' := by
  have := planesPlain_all X.data.toList W hg
  rw [h] at this
  exact this

/-- What the keeper's Plain asks of a text. -/
structure Kept5 (S : ByteArray) : Prop where
  n0 : 0 < S.size
  sz : S.size ≤ 300
  p1 : plainS S.data.toList = (S.data.toList, 0, 0)
  p2 : plainS (oddF 0 S.data.toList) = (S.data.toList, 0, 0)
  p3 : plainS (S.data.toList ++ [114, 111, 119, 10]) = ([], 5, S.data.toList.count 10 + 1)
  p4 : plainS (S.data.toList.take (S.data.toList.length - 1)) = ([], 5, S.data.toList.count 10)
  p5 : ∀ i, i < S.data.toList.length → plainS (S.data.toList.take i ++ 32 :: S.data.toList.drop i) = ([], 5, (S.data.toList.take i).count 10 + 1)

theorem kept5_of {mx lo hi : List Int} {gs : List (List Int)} {ss rs : List Int} (h : SmallP mx lo hi gs ss rs) : Kept5 ⟨(textS (probOf mx lo hi gs ss rs)).toArray⟩ := by
  have hf := small_fine h
  have hs := small_short h
  have ho := oddF_len (textS (probOf mx lo hi gs ss rs)) 0
  obtain ⟨h1, h2, h3⟩ := small_38 h
  refine ⟨?_, ?_, text_fine hf (by omega), text_odd hf h1 h2 h3 (by omega), text_more hf (by omega), text_less hf (by omega), fun i hi => text_blank hf (by omega) i hi⟩
  · rw [size_mk]
    simp [textS, wVars]
  · rw [size_mk]
    exact hs

theorem add_bytes (S : ByteArray) (a : Array UInt8) : (S ++ ⟨a⟩).data.toList = S.data.toList ++ a.toList := by
  rw [ByteArray.data_append, Array.toList_append]

theorem odd_next {S cur : ByteArray} {i : Nat} (h : i < S.size) (hc : cur.data.toList ++ oddF i (S.data.toList.drop i) = oddF 0 S.data.toList) :
    (cur ++ S.extract i (i + 1)).data.toList ++ ((if (S[i] = 45 ∨ (S[i] = 32 ∧ isDig ((S.data.toList.drop (i + 1)).headD 0) = true)) ∧ 8 < i then [48, 48] else []) ++ oddF (i + 1) (S.data.toList.drop (i + 1))) = oddF 0 S.data.toList := by
  have hl : i < S.data.toList.length := by rw [toList_len]; exact h
  have e : S.data.toList[i] = S[i] := rfl
  rw [← hc, oddF_step _ i hl, T.one_byte h, ByteArray.data_append, Array.toList_append, List.append_assoc, e]
  rfl

theorem odd_plain {S cur : ByteArray} {i : Nat} (h : i < S.size) (hc : cur.data.toList ++ oddF i (S.data.toList.drop i) = oddF 0 S.data.toList) (hn : ¬ ((S[i] = 45 ∨ (S[i] = 32 ∧ isDig ((S.data.toList.drop (i + 1)).headD 0) = true)) ∧ 8 < i)) :
    (cur ++ S.extract i (i + 1)).data.toList ++ oddF (i + 1) (S.data.toList.drop (i + 1)) = oddF 0 S.data.toList := by
  have := odd_next h hc
  rwa [if_neg hn, List.nil_append] at this

theorem odd_more {S cur : ByteArray} {i : Nat} (h : i < S.size) (hc : cur.data.toList ++ oddF i (S.data.toList.drop i) = oddF 0 S.data.toList) (hn : S[i] = 45 ∨ (S[i] = 32 ∧ isDig ((S.data.toList.drop (i + 1)).headD 0) = true)) (h8 : 8 < i) :
    (cur ++ S.extract i (i + 1) ++ ⟨#[48, 48]⟩).data.toList ++ oddF (i + 1) (S.data.toList.drop (i + 1)) = oddF 0 S.data.toList := by
  have := odd_next h hc
  rw [if_pos ⟨hn, h8⟩] at this
  rw [ByteArray.data_append, Array.toList_append, List.append_assoc]
  exact this

theorem next_head {S : ByteArray} {i : Nat} (h : i + 1 < S.size) : (S.data.toList.drop (i + 1)).headD 0 = S[i + 1] := by
  have hl : i + 1 < S.data.toList.length := by rw [toList_len]; exact h
  rw [List.drop_eq_getElem_cons hl]
  rfl

theorem next_none {S : ByteArray} {i : Nat} (h : ¬ i + 1 < S.size) : (S.data.toList.drop (i + 1)).headD 0 = 0 := by
  rw [List.drop_eq_nil_of_le (by rw [toList_len]; omega)]
  rfl

theorem count_step {S : ByteArray} {i : Nat} (h : i < S.size) : (S.data.toList.take (i + 1)).count 10 = (S.data.toList.take i).count 10 + (if S[i] = 10 then 1 else 0) := by
  have hl : i < S.data.toList.length := by rw [toList_len]; exact h
  have e : S.data.toList[i] = S[i] := rfl
  rw [T.take_snoc _ i hl, List.count_append, e, List.count_singleton]
  by_cases hc : S[i] = 10
  · rw [if_pos hc, if_pos (by rw [hc]; rfl)]
  · rw [if_neg hc, if_neg (by simpa using hc)]

theorem count_le (S : ByteArray) (i : Nat) : (S.data.toList.take i).count 10 ≤ S.size := by
  have h1 := List.count_le_length (a := (10 : UInt8)) (l := S.data.toList.take i)
  rw [List.length_take, toList_len] at h1
  omega

set_option maxHeartbeats 4000000 in
set_option maxRecDepth 100000 in
theorem keepPlain_any (raw : ByteArray) (at_ : Int) (w : World) (hs : raw.size ≤ 9223372036854775807) (h0 : -9223372036854775808 ≤ at_) (h1 : at_ ≤ 9223372036854775807) (hg : Gl w) :
    Calls Tryz.prog 7 #[.string raw, .int .i64 at_] w fun e w' => e = .returned (.bool true) ∧ Below w.heap.size w w' := by
  have HSM := hide (small_gives raw w hs)
  go_enter Tryz.func7, Tryz.ntmps7
  go_wp2_with fail
  refine HSM.out.mono ?_
  rintro e w1 ⟨vM, vL, vH, vG, vS, vR, mx, lo, hi, gs, ss, rs, rfl, hV, hP, hb1⟩
  have hK := kept5_of hP
  have HTX := hide (fun W hW ht => smallText_gives W vM vL vH vG vS vR mx lo hi gs ss rs hW hP ht)
  generalize (⟨(textS (probOf mx lo hi gs ss rs)).toArray⟩ : ByteArray) = S at *
  have hV2 := hV
  obtain ⟨aM, cM, rfl, _⟩ := hV2.m
  obtain ⟨aL, cL, rfl, _⟩ := hV2.l
  obtain ⟨aH, cH, rfl, _⟩ := hV2.h
  obtain ⟨aG, cG, rfl, _⟩ := hV2.g
  obtain ⟨aS, cS, rfl, _⟩ := hV2.s
  obtain ⟨aR, cR, rfl, _⟩ := hV2.r
  clear hV2
  go_wp2_with fail
  have x2 : Ext w1 (w1.alloc (.cells #[.slice aM mx.length cM, .slice aL lo.length cL, .slice aH hi.length cH, .slice aG gs.length cG, .slice aS ss.length cS, .slice aR rs.length cR] 38)) := (Ext.refl w1).alloc _
  refine (HTX.out _ (hV.ext x2) ((hg.1.below hb1).below x2)).mono ?_
  rintro e w3 ⟨rfl, hb3⟩
  have hbw : Below w.heap.size w w3 := hb1.trans ((x2.trans hb3).mono hb1.size)
  have g3 : Gl w3 := hg.below hbw
  generalize w1.alloc (.cells #[.slice aM mx.length cM, .slice aL lo.length cL, .slice aH hi.length cH, .slice aG gs.length cG, .slice aS ss.length cS, .slice aR rs.length cR] 38) = w2 at *
  clear HTX hV hP x2 hb3 hb1 HSM hs
  obtain ⟨n0, sz, p1, p2, p3, p4, p5⟩ := hK
  have hLs : Hid (S.data.toList.length = S.size) := toList_len S
  have HP1 : Hid (∀ W, Gl W → Calls Tryz.prog 25 #[.string S] W fun e w' => e = .returned (.tuple #[.string S, .int .i64 0, .int .i64 0]) ∧ Below W.heap.size W w') := fun W hW => plainB S (S.data.toList, 0, 0) p1 W hW
  have HP2 : Hid (∀ X : ByteArray, X.data.toList = oddF 0 S.data.toList → ∀ W, Gl W → Calls Tryz.prog 25 #[.string X] W fun e w' => e = .returned (.tuple #[.string S, .int .i64 0, .int .i64 0]) ∧ Below W.heap.size W w') := fun X hX W hW => plainB X (S.data.toList, 0, 0) (by rw [hX]; exact p2) W hW
  have HP3 : Hid (∀ W, Gl W → Calls Tryz.prog 25 #[.string (S ++ ⟨#[114, 111, 119, 10]⟩)] W fun e w' => e = .returned (.tuple #[.string ⟨#[]⟩, .int .i64 5, .int .i64 ((S.data.toList.count 10 + 1 : Nat) : Int)]) ∧ Below W.heap.size W w') := fun W hW => plainB _ ([], 5, S.data.toList.count 10 + 1) (by rw [add_bytes]; exact p3) W hW
  have HP4 : Hid (∀ W, Gl W → Calls Tryz.prog 25 #[.string (S.extract 0 (S.size - 1))] W fun e w' => e = .returned (.tuple #[.string ⟨#[]⟩, .int .i64 5, .int .i64 ((S.data.toList.count 10 : Nat) : Int)]) ∧ Below W.heap.size W w') := fun W hW => plainB _ ([], 5, S.data.toList.count 10) (by rw [Lib.extract_data, List.drop_zero, Nat.sub_zero, ← hLs.out]; exact p4) W hW
  have HP5 : Hid (∀ i, i < S.size → ∀ W, Gl W → Calls Tryz.prog 25 #[.string (S.extract 0 i ++ ⟨#[32]⟩ ++ S.extract i S.size)] W fun e w' => e = .returned (.tuple #[.string ⟨#[]⟩, .int .i64 5, .int .i64 (((S.data.toList.take i).count 10 + 1 : Nat) : Int)]) ∧ Below W.heap.size W w') := fun i hi W hW => plainB _ ([], 5, (S.data.toList.take i).count 10 + 1) (by
    rw [ByteArray.data_append, Array.toList_append, add_bytes, Lib.extract_data, Lib.extract_data, List.drop_zero, Nat.sub_zero, List.take_of_length_le (l := S.data.toList.drop i) (by rw [List.length_drop, hLs.out]; exact Nat.le_refl _), List.append_assoc]
    exact p5 i (by rw [hLs.out]; exact hi)) W hW
  clear p1 p2 p3 p4 p5
  go_wp2_with fail
  refine (HP1.out _ g3).mono ?_
  rintro e w4 ⟨rfl, hb4⟩
  have hbw4 : Below w.heap.size w w4 := hbw.trans (hb4.mono hbw.size)
  have g4 := hg.below hbw4
  clear HP1 hb4 g3
  go_wp2_with fail
  go_loopw [10, 11] (fun sv iv wr => ∃ (i : Nat) (cur : ByteArray), i ≤ S.size ∧ sv = .string cur ∧ iv = .int .i64 (i : Nat) ∧ cur.size ≤ 3 * i ∧ Hid (cur.data.toList ++ oddF i (S.data.toList.drop i) = oddF 0 S.data.toList) ∧ wr = w4) (fun _ iv _ => S.size - (intOf iv).toNat)
  case atStart => exact ⟨0, ⟨#[]⟩, by omega, rfl, rfl, Nat.le_refl 0, rfl, rfl⟩
  case round =>
    obtain ⟨i, cur, hil, rfl, rfl, hcz, HC, hwr⟩ := hrel
    subst hwr
    have hwr : wr = wr := rfl
    by_cases hin : i < S.size
    · have hini : (i : Int) < (S.size : Int) := by omega
      have HO := hide (T.one_byte hin)
      have hszo : (S.extract i (i + 1)).size = 1 := by rw [HO.out]; rfl
      have f1 : ¬ 9223372036854775807 < cur.size + 1 := by omega
      have f1' : ¬ 9223372036854775806 < cur.size := by omega
      have f2 : ¬ 9223372036854775807 < cur.size + 1 + 2 := by omega
      have f2' : ¬ 9223372036854775805 < cur.size + 1 := by omega
      have f3 : ¬ 9223372036854775807 < cur.size + 3 := by omega
      have f3' : ¬ 9223372036854775804 < cur.size := by omega
      by_cases hA : (S[i].toNat : Int) = 45
      · have hM : S[i] = 45 ∨ (S[i] = 32 ∧ isDig ((S.data.toList.drop (i + 1)).headD 0) = true) := Or.inl (UInt8.toNat.inj (show S[i].toNat = 45 by omega))
        by_cases h8 : 8 < i
        · have h8I : (8 : Int) < (i : Int) := by omega
          have HNX := hide (odd_more hin HC.out hM h8)
          have hsn : (cur ++ S.extract i (i + 1) ++ ⟨#[48, 48]⟩).size ≤ 3 * (i + 1) := by rw [ByteArray.size_append, ByteArray.size_append, hszo]; have e2 : (ByteArray.mk #[48, 48]).size = 2 := rfl; omega
          clear HC hM
          go_wp2_with fail
          go_roundw
          case rel => exact ⟨i + 1, _, by omega, rfl, by go_num, hsn, HNX, by first | exact hwr | trivial⟩
          case measure => simp [intOf]; omega
        · have h8I : ¬ (8 : Int) < (i : Int) := by omega
          have HNX := hide (odd_plain hin HC.out (fun e => absurd e.2 h8))
          have hsn : (cur ++ S.extract i (i + 1)).size ≤ 3 * (i + 1) := by rw [ByteArray.size_append, hszo]; omega
          clear HC hM
          go_wp2_with fail
          go_roundw
          case rel => exact ⟨i + 1, _, by omega, rfl, by go_num, hsn, HNX, by first | exact hwr | trivial⟩
          case measure => simp [intOf]; omega
      · have hnA : S[i] ≠ 45 := by intro e; rw [e] at hA; exact hA rfl
        by_cases hB : (S[i].toNat : Int) = 32
        · by_cases hi1 : i + 1 < S.size
          · have hi1I : (i : Int) + 1 < (S.size : Int) := by omega
            by_cases h48 : (48 : Int) ≤ (S[i + 1].toNat : Int)
            · by_cases h57 : (S[i + 1].toNat : Int) ≤ 57
              · have hM : S[i] = 45 ∨ (S[i] = 32 ∧ isDig ((S.data.toList.drop (i + 1)).headD 0) = true) := Or.inr ⟨UInt8.toNat.inj (show S[i].toNat = 32 by omega), by rw [next_head hi1, isDig, decide_eq_true (by omega), decide_eq_true (by omega)]; rfl⟩
                by_cases h8 : 8 < i
                · have h8I : (8 : Int) < (i : Int) := by omega
                  have HNX := hide (odd_more hin HC.out hM h8)
                  have hsn : (cur ++ S.extract i (i + 1) ++ ⟨#[48, 48]⟩).size ≤ 3 * (i + 1) := by rw [ByteArray.size_append, ByteArray.size_append, hszo]; have e2 : (ByteArray.mk #[48, 48]).size = 2 := rfl; omega
                  clear HC hM
                  go_wp2_with fail
                  go_roundw
                  case rel => exact ⟨i + 1, _, by omega, rfl, by go_num, hsn, HNX, by first | exact hwr | trivial⟩
                  case measure => simp [intOf]; omega
                · have h8I : ¬ (8 : Int) < (i : Int) := by omega
                  have HNX := hide (odd_plain hin HC.out (fun e => absurd e.2 h8))
                  have hsn : (cur ++ S.extract i (i + 1)).size ≤ 3 * (i + 1) := by rw [ByteArray.size_append, hszo]; omega
                  clear HC hM
                  go_wp2_with fail
                  go_roundw
                  case rel => exact ⟨i + 1, _, by omega, rfl, by go_num, hsn, HNX, by first | exact hwr | trivial⟩
                  case measure => simp [intOf]; omega
              · have hM : ¬ (S[i] = 45 ∨ (S[i] = 32 ∧ isDig ((S.data.toList.drop (i + 1)).headD 0) = true)) := by
                  rintro (e | ⟨_, e⟩)
                  · exact hnA e
                  · rw [next_head hi1, isDig, decide_eq_false (p := S[i + 1].toNat ≤ 57) (by omega), Bool.and_false] at e
                    cases e
                by_cases h8 : 8 < i
                · have h8I : (8 : Int) < (i : Int) := by omega
                  have HNX := hide (odd_plain hin HC.out (fun e => hM e.1))
                  have hsn : (cur ++ S.extract i (i + 1)).size ≤ 3 * (i + 1) := by rw [ByteArray.size_append, hszo]; omega
                  clear HC hM
                  go_wp2_with fail
                  go_roundw
                  case rel => exact ⟨i + 1, _, by omega, rfl, by go_num, hsn, HNX, by first | exact hwr | trivial⟩
                  case measure => simp [intOf]; omega
                · have h8I : ¬ (8 : Int) < (i : Int) := by omega
                  have HNX := hide (odd_plain hin HC.out (fun e => hM e.1))
                  have hsn : (cur ++ S.extract i (i + 1)).size ≤ 3 * (i + 1) := by rw [ByteArray.size_append, hszo]; omega
                  clear HC hM
                  go_wp2_with fail
                  go_roundw
                  case rel => exact ⟨i + 1, _, by omega, rfl, by go_num, hsn, HNX, by first | exact hwr | trivial⟩
                  case measure => simp [intOf]; omega
            · have hM : ¬ (S[i] = 45 ∨ (S[i] = 32 ∧ isDig ((S.data.toList.drop (i + 1)).headD 0) = true)) := by
                rintro (e | ⟨_, e⟩)
                · exact hnA e
                · rw [next_head hi1, isDig, decide_eq_false (p := 48 ≤ S[i + 1].toNat) (by omega), Bool.false_and] at e
                  cases e
              by_cases h8 : 8 < i
              · have h8I : (8 : Int) < (i : Int) := by omega
                have HNX := hide (odd_plain hin HC.out (fun e => hM e.1))
                have hsn : (cur ++ S.extract i (i + 1)).size ≤ 3 * (i + 1) := by rw [ByteArray.size_append, hszo]; omega
                clear HC hM
                go_wp2_with fail
                go_roundw
                case rel => exact ⟨i + 1, _, by omega, rfl, by go_num, hsn, HNX, by first | exact hwr | trivial⟩
                case measure => simp [intOf]; omega
              · have h8I : ¬ (8 : Int) < (i : Int) := by omega
                have HNX := hide (odd_plain hin HC.out (fun e => hM e.1))
                have hsn : (cur ++ S.extract i (i + 1)).size ≤ 3 * (i + 1) := by rw [ByteArray.size_append, hszo]; omega
                clear HC hM
                go_wp2_with fail
                go_roundw
                case rel => exact ⟨i + 1, _, by omega, rfl, by go_num, hsn, HNX, by first | exact hwr | trivial⟩
                case measure => simp [intOf]; omega
          · have hi1I : ¬ (i : Int) + 1 < (S.size : Int) := by omega
            have hM : ¬ (S[i] = 45 ∨ (S[i] = 32 ∧ isDig ((S.data.toList.drop (i + 1)).headD 0) = true)) := by
              rintro (e | ⟨_, e⟩)
              · exact hnA e
              · rw [next_none hi1] at e
                cases e
            by_cases h8 : 8 < i
            · have h8I : (8 : Int) < (i : Int) := by omega
              have HNX := hide (odd_plain hin HC.out (fun e => hM e.1))
              have hsn : (cur ++ S.extract i (i + 1)).size ≤ 3 * (i + 1) := by rw [ByteArray.size_append, hszo]; omega
              clear HC hM
              go_wp2_with fail
              go_roundw
              case rel => exact ⟨i + 1, _, by omega, rfl, by go_num, hsn, HNX, by first | exact hwr | trivial⟩
              case measure => simp [intOf]; omega
            · have h8I : ¬ (8 : Int) < (i : Int) := by omega
              have HNX := hide (odd_plain hin HC.out (fun e => hM e.1))
              have hsn : (cur ++ S.extract i (i + 1)).size ≤ 3 * (i + 1) := by rw [ByteArray.size_append, hszo]; omega
              clear HC hM
              go_wp2_with fail
              go_roundw
              case rel => exact ⟨i + 1, _, by omega, rfl, by go_num, hsn, HNX, by first | exact hwr | trivial⟩
              case measure => simp [intOf]; omega
        · have hM : ¬ (S[i] = 45 ∨ (S[i] = 32 ∧ isDig ((S.data.toList.drop (i + 1)).headD 0) = true)) := by
            rintro (e | ⟨e, _⟩)
            · exact hnA e
            · rw [e] at hB
              exact hB rfl
          by_cases h8 : 8 < i
          · have h8I : (8 : Int) < (i : Int) := by omega
            have HNX := hide (odd_plain hin HC.out (fun e => hM e.1))
            have hsn : (cur ++ S.extract i (i + 1)).size ≤ 3 * (i + 1) := by rw [ByteArray.size_append, hszo]; omega
            clear HC hM
            go_wp2_with fail
            go_roundw
            case rel => exact ⟨i + 1, _, by omega, rfl, by go_num, hsn, HNX, by first | exact hwr | trivial⟩
            case measure => simp [intOf]; omega
          · have h8I : ¬ (8 : Int) < (i : Int) := by omega
            have HNX := hide (odd_plain hin HC.out (fun e => hM e.1))
            have hsn : (cur ++ S.extract i (i + 1)).size ≤ 3 * (i + 1) := by rw [ByteArray.size_append, hszo]; omega
            clear HC hM
            go_wp2_with fail
            go_roundw
            case rel => exact ⟨i + 1, _, by omega, rfl, by go_num, hsn, HNX, by first | exact hwr | trivial⟩
            case measure => simp [intOf]; omega
    · obtain rfl : i = S.size := by omega
      have HX : Hid (cur.data.toList = oddF 0 S.data.toList) := by
        have := HC.out
        rw [List.drop_eq_nil_of_le (by rw [toList_len]; omega), oddF, List.append_nil] at this
        exact this
      clear HC
      go_wp2_with fail
      refine (HP2.out cur HX.out _ g4).mono ?_
      rintro e w5 ⟨rfl, hb5⟩
      have hbw5 : Below w.heap.size w w5 := hbw4.trans (hb5.mono hbw4.size)
      have g5 := hg.below hbw5
      clear HP2 hb5 HX
      go_wp2_with fail
      clear hcz hil hin
      go_loopw [13, 14] (fun nv iv wr => ∃ (i : Nat), i ≤ S.size ∧ nv = .int .i64 ((S.data.toList.take i).count 10 : Nat) ∧ iv = .int .i64 (i : Nat) ∧ wr = w5) (fun _ iv _ => S.size - (intOf iv).toNat)
      case atStart => exact ⟨0, by omega, rfl, rfl, rfl⟩
      case round =>
        obtain ⟨i, hil, rfl, rfl, hwr⟩ := hrel
        subst hwr
        have hwr : wr = wr := rfl
        by_cases hin : i < S.size
        · have hini : (i : Int) < (S.size : Int) := by omega
          have hcl := count_le S i
          have HCS := hide (count_step hin)
          by_cases hA : (S[i].toNat : Int) = 10
          · have HE : Hid ((S.data.toList.take (i + 1)).count 10 = (S.data.toList.take i).count 10 + 1) := by rw [Hid, HCS.out, if_pos (UInt8.toNat.inj (show S[i].toNat = 10 by omega))]
            generalize (S.data.toList.take i).count 10 = c at *
            go_wp2_with fail
            go_roundw
            case rel => exact ⟨i + 1, by omega, by rw [HE.out]; go_num, by go_num, by first | exact hwr | trivial⟩
            case measure => simp [intOf]; omega
          · have HE : Hid ((S.data.toList.take (i + 1)).count 10 = (S.data.toList.take i).count 10) := by rw [Hid, HCS.out, if_neg (by intro e; rw [e] at hA; exact hA rfl)]; rfl
            generalize (S.data.toList.take i).count 10 = c at *
            go_wp2_with fail
            go_roundw
            case rel => exact ⟨i + 1, by omega, by rw [HE.out], by go_num, by first | exact hwr | trivial⟩
            case measure => simp [intOf]; omega
        · obtain rfl : i = S.size := by omega
          have hcn := count_le S S.size
          have HTA : Hid (S.data.toList.take S.size = S.data.toList) := by rw [Hid, List.take_of_length_le (by rw [toList_len]; omega)]
          rw [HTA.out] at hcn ⊢
          generalize S.data.toList.count 10 = n at *
          have hPK := pickZ_bd at_ (n := (S.size : Int)) (by omega)
          have HPI := hide (fun W => pick_any at_ (S.size : Int) h0 h1 (by omega) (by omega) W)
          have f4 : ¬ 9223372036854775807 < S.size + 4 := by omega
          have f4' : ¬ 9223372036854775803 < S.size := by omega
          have hm1 : IntKind.i64.wrap ((S.size : Int) - 1) = ((S.size - 1 : Nat) : Int) := by rw [wrap_small _ (by omega) (by omega)]; omega
          go_wp2_with fail
          refine (HP3.out _ g5).mono ?_
          rintro e w6 ⟨rfl, hb6⟩
          have hbw6 : Below w.heap.size w w6 := hbw5.trans (hb6.mono hbw5.size)
          have g6 := hg.below hbw6
          clear HP3 hb6
          go_wp2_with fail
          refine (HP4.out _ g6).mono ?_
          rintro e w7 ⟨rfl, hb7⟩
          have hbw7 : Below w.heap.size w w7 := hbw6.trans (hb7.mono hbw6.size)
          have g7 := hg.below hbw7
          clear HP4 hb7
          go_wp2_with fail
          refine (HPI.out _).mono ?_
          rintro e w8 ⟨rfl, rfl⟩
          clear HPI
          obtain ⟨j, hj⟩ : ∃ j : Nat, pickZ at_ (S.size : Int) = (j : Int) := ⟨(pickZ at_ (S.size : Int)).toNat, by omega⟩
          rw [hj] at hPK ⊢
          have hjs : j < S.size := by omega
          have hjI : (j : Int) < (S.size : Int) := by omega
          have HPB := hide (fun W hW => HP5.out j hjs W hW)
          clear HP5 hj hm1 f4 f4' g5 g6 g4 hbw6
          go_wp2_with fail
          go_loopw [22, 23] (fun nv iv wr => ∃ (i : Nat), i ≤ j ∧ nv = .int .i64 (((S.data.toList.take i).count 10 + 1 : Nat) : Int) ∧ iv = .int .i64 (i : Nat) ∧ wr = w8) (fun _ iv _ => j - (intOf iv).toNat)
          case atStart => exact ⟨0, by omega, rfl, rfl, rfl⟩
          case round =>
            obtain ⟨i, hil, rfl, rfl, hwr⟩ := hrel
            subst hwr
            have hwr : wr = wr := rfl
            by_cases hin : i < j
            · have hini : (i : Int) < (j : Int) := by omega
              have hinS : i < S.size := by omega
              have hinSI : (i : Int) < (S.size : Int) := by omega
              have hcl := count_le S i
              have HCS := hide (count_step hinS)
              by_cases hA : (S[i].toNat : Int) = 10
              · have HE : Hid ((S.data.toList.take (i + 1)).count 10 = (S.data.toList.take i).count 10 + 1) := by rw [Hid, HCS.out, if_pos (UInt8.toNat.inj (show S[i].toNat = 10 by omega))]
                generalize (S.data.toList.take i).count 10 = c at *
                go_wp2_with fail
                go_roundw
                case rel => exact ⟨i + 1, by omega, by rw [HE.out]; go_num, by go_num, by first | exact hwr | trivial⟩
                case measure => simp [intOf]; omega
              · have HE : Hid ((S.data.toList.take (i + 1)).count 10 = (S.data.toList.take i).count 10) := by rw [Hid, HCS.out, if_neg (by intro e; rw [e] at hA; exact hA rfl)]; rfl
                generalize (S.data.toList.take i).count 10 = c at *
                go_wp2_with fail
                go_roundw
                case rel => exact ⟨i + 1, by omega, by rw [HE.out], by go_num, by first | exact hwr | trivial⟩
                case measure => simp [intOf]; omega
            · obtain rfl : i = j := by omega
              have hcj := count_le S i
              generalize (S.data.toList.take i).count 10 = c at *
              have hz1 : (S.extract 0 i).size = i := by rw [ByteArray.size_extract]; omega
              have hz2 : (S.extract i S.size).size = S.size - i := by rw [ByteArray.size_extract]; omega
              have k1 : ¬ 9223372036854775807 < i + 1 := by omega
              have k1' : ¬ 9223372036854775806 < i := by omega
              have k2 : ¬ 9223372036854775807 < i + 1 + (S.size - i) := by omega
              have hiI : (i : Int) ≤ (S.size : Int) := by omega
              have hi0 : (0 : Int) ≤ (i : Int) := by omega
              go_wp2_with fail
              go_region_held3 (fun _ => True) (trivial) (first | (go_at_call 25; refine (HPB.out _ (by first | exact g7 | exact hg.below hbw7.drew)).mono ?_; rintro e w9 ⟨rfl, hb9⟩))
              all_goals
                have hbw9 : Below w.heap.size w w9 := hbw7.drew.trans (hb9.mono hbw7.size)
                clear hb9 HPB hz1 hz2
                go_wp2_with fail
                go_ret
                exact ⟨by first | rfl | (apply ret_bool; simp), hbw9⟩
end Go.Proofs.YtnhfdcfnojnofaaGreatDoor
