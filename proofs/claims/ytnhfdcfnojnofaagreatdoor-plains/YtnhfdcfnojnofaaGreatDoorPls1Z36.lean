/-
  Part 36 of the texts ahead of Pls1: Ts14, Ts15, Tr18.
-/
import Derived.Test.YtnhfdcfnojnofaaGreatDoorPls1Z34
import Derived.Test.YtnhfdcfnojnofaaGreatDoorPls1Z35
import Derived.Test.YtnhfdcfnojnofaaGreatDoorPls1Z20
import Derived.Test.YtnhfdcfnojnofaaGreatDoorPls1Z15
set_option linter.unusedSimpArgs false
set_option linter.unusedVariables false
/-
  What the document's own take does (package planesref), whatever the line.
-/
namespace Go.Proofs.YtnhfdcfnojnofaaGreatDoor.T
open Go.RowKit

theorem okD_digits {l : List UInt8} {k : Nat} (h : okD l k = true) : ∀ c ∈ l, c ≠ 47 := by
  intro c hc e
  subst e
  unfold okD at h
  simp only [Bool.and_eq_true, decide_eq_true_eq] at h
  have h2 := h.2.2
  unfold allDig at h2
  rw [List.all_eq_true] at h2
  have := h2 47 hc
  revert this
  decide

theorem mem_trim {l : List UInt8} {c : UInt8} (hc : c ∈ l) (h45 : c ≠ 45) : c ∈ Lib.trimPrefix l [45] := by
  unfold Lib.trimPrefix
  split
  · rename_i hp
    cases l with
    | nil => simp at hc
    | cons x r =>
      have hx : x = 45 := by
        simp [Lib.hasPrefix, List.isPrefixOf] at hp
        first | exact hp.symm | exact hp
      rcases List.mem_cons.1 hc with h | h
      · exact absurd (h.trans hx) h45
      · simpa using h
  · exact hc

/-- What the document's own reader takes for a whole number's text is what the developers' does. -/
theorem wOk_dOk (l : List UInt8) : wOk l = dOk l := by
  unfold dOk
  by_cases h : ∀ c ∈ l, c ≠ 47
  · unfold wOk
    rw [(w_parts h).2.2.2, decide_eq_true h, Bool.true_and]
  · have h1 : wOk l = false := by unfold wOk; rw [decide_eq_false h, Bool.false_and]
    rw [h1]
    cases hd : okD (Lib.trimPrefix l [45]) 40 with
    | false => rfl
    | true =>
      exfalso
      apply h
      intro c hc e
      exact okD_digits hd c (mem_trim hc (by rw [e]; decide)) e

theorem getD_map (ls : List ByteArray) (i : Nat) : (ls.map fun l => l.data.toList).getD i [] = (ls.getD i ⟨#[]⟩).data.toList := by
  simp only [List.getD_eq_getElem?_getD, List.getElem?_map]
  cases ls[i]? <;> rfl

theorem all_map (ls : List ByteArray) : (ls.map fun l => l.data.toList).all dOk = ls.all fun l => wOk l.data.toList := by
  induction ls with
  | nil => rfl
  | cons x r ih => simp only [List.map_cons, List.all_cons, ih, wOk_dOk]

/-- The three lists of a problem as it lies in memory. -/
def RPr (W1 w : World) (gp : Nat) (p : Prob) : Prop := ∃ vM vL vH vC, RQ W1 w gp p.n p.mx (p.rg.map Prod.fst) (p.rg.map Prod.snd) p.rows vM vL vH vC

theorem RPr.wr {W1 w : World} {gp : Nat} {p : Prob} (h : RPr W1 w gp p) : Wr (fun k => k = gp) W1 w := by
  obtain ⟨vM, vL, vH, vC, h⟩ := h
  exact h.wr

theorem take_any (W1 w : World) (gp i : Nat) (p : Prob) (v : Value) (ls : List ByteArray) (h : RPr W1 w gp p) (hv : Sv w v ls) (hvg : ∀ k, v.ownBlock = some k → k ≠ gp) (hl0 : 0 < ls.length) (hn : ls.length ≤ 100000) (hsz : ∀ l ∈ ls, l.size ≤ 1000000000) (hi9 : i ≤ 100000)
    (hst : i = 0 → p = Prob.none) (hn4 : 0 < i → 0 < p.n ∧ p.n ≤ 4) (hrow : i ≤ 1 + p.n → p.rows = []) (hrl : p.rows.length ≤ 6) (hrg : p.rg.length ≤ 100) :
    Calls Tryz.prog 112 #[.pointer (some ⟨gp, 0, none⟩), .int .i64 (i : Nat), v] w fun e w' => Wr (fun k => k = gp) W1 w' ∧
      ((takeS i p (ls.map fun l => l.data.toList) = none ∧ e = .returned (.bool false)) ∨ ∃ q, takeS i p (ls.map fun l => l.data.toList) = some q ∧ e = .returned (.bool true) ∧ RPr W1 w' gp q) := by
  obtain ⟨vM, vL, vH, vC, h⟩ := h
  by_cases hi0 : i = 0
  · subst hi0
    obtain rfl := hst rfl
    refine (take_vars W1 w gp v ls vM vL vH vC h hv (by omega) hsz).mono ?_
    rintro e w' ⟨rfl, hq⟩
    refine ⟨hq.wr, ?_⟩
    by_cases h0 : varsN (ls.map fun l => l.data.toList) = 0
    · left
      refine ⟨by simp [takeS, h0], by rw [h0]; rfl⟩
    · right
      refine ⟨⟨varsN (ls.map fun l => l.data.toList), [], [], []⟩, by simp [takeS, h0], by simp; omega, ⟨vM, vL, vH, vC, hq⟩⟩
  · by_cases hi1 : i = 1
    · subst hi1
      have h4 := hn4 (by omega)
      refine (take_max W1 w gp p.n v ls _ _ _ _ vM vL vH vC h hv hvg hl0 (by omega) hsz h4).mono ?_
      rintro e w' ⟨rfl, hw, hq⟩
      refine ⟨hw, ?_⟩
      have ht : takeS 1 p (ls.map fun l => l.data.toList) = if ls.length = p.n + 1 ∧ (ls.getD 0 ⟨#[]⟩).data.toList = wMax ∧ (ls.drop 1).all (fun l => wOk l.data.toList) = true then some { p with mx := (ls.drop 1).map fun l => wZ l.data.toList } else none := by
        unfold takeS
        rw [if_neg (by omega), if_pos rfl, getD_map, List.length_map, ← List.map_drop, all_map, List.map_map]
        rfl
      rw [ht]
      by_cases hc : ls.length = p.n + 1 ∧ (ls.getD 0 ⟨#[]⟩).data.toList = wMax ∧ (ls.drop 1).all (fun l => wOk l.data.toList) = true
      · right
        obtain ⟨v', hq'⟩ := hq hc.2.2
        exact ⟨_, if_pos hc, by rw [decide_eq_true hc], ⟨v', vL, vH, vC, hq'⟩⟩
      · left
        exact ⟨if_neg hc, by rw [decide_eq_false hc]⟩
    · have h4 := hn4 (by omega)
      by_cases hir : i ≤ 1 + p.n
      · have hr0 := hrow hir
        have ht : takeS i p (ls.map fun l => l.data.toList) = if ls.length = 3 ∧ (ls.getD 0 ⟨#[]⟩).data.toList = wRange ∧ (ls.drop 1).all (fun l => wOk l.data.toList) = true then some { p with rg := p.rg ++ [(wZ (ls.getD 1 ⟨#[]⟩).data.toList, wZ (ls.getD 2 ⟨#[]⟩).data.toList)] } else none := by
          unfold takeS
          rw [if_neg hi0, if_neg hi1, if_pos hir, getD_map, getD_map, getD_map, List.length_map, ← List.map_drop, all_map]
        rw [ht]
        by_cases hc : ls.length = 3 ∧ (ls.getD 0 ⟨#[]⟩).data.toList = wRange ∧ (ls.drop 1).all (fun l => wOk l.data.toList) = true
        · obtain ⟨hc1, hc2, hc3⟩ := hc
          obtain ⟨a, b, c, rfl⟩ : ∃ a b c, ls = [a, b, c] := by
            match ls, hc1 with
            | [a, b, c], _ => exact ⟨a, b, c, rfl⟩
          rw [hr0] at h
          have ha : wOk b.data.toList = true ∧ wOk c.data.toList = true := by simpa using hc3
          refine (take_range_ok W1 w gp p.n i a b c v _ _ _ vM vL vH vC h hv hvg ⟨hsz b (by simp), hsz c (by simp)⟩ h4 (by omega) hir (by rw [ByteArray.toList_eq]; exact hc2) ha.1 ha.2 (by simp; omega) (by simp; omega)).mono ?_
          rintro e w' ⟨rfl, vL', vH', hq⟩
          refine ⟨hq.wr, Or.inr ⟨_, if_pos ⟨hc1, hc2, hc3⟩, rfl, vM, vL', vH', vC, ?_⟩⟩
          simp only [List.map_append, List.map_cons, List.map_nil]
          rw [hr0]
          exact hq
        · refine (take_range_no W1 w gp p.n i v ls _ _ _ _ vM vL vH vC h hv hl0 (by omega) hsz h4 (by omega) hir (by rw [ByteArray.toList_eq]; exact hc)).mono ?_
          rintro e w' ⟨rfl, hw⟩
          exact ⟨hw, Or.inl ⟨if_neg hc, rfl⟩⟩
      · have ht : takeS i p (ls.map fun l => l.data.toList) = if p.rows.length < 6 ∧ ls.length = p.n + 3 ∧ (ls.getD 0 ⟨#[]⟩).data.toList = wRow ∧ ((ls.drop 1).take p.n).all (fun l => wOk l.data.toList) = true ∧ isSign (ls.getD (p.n + 1) ⟨#[]⟩).data.toList = true ∧ wOk (ls.getD (p.n + 2) ⟨#[]⟩).data.toList = true then some { p with rows := p.rows ++ [(((ls.drop 1).take p.n).map fun l => wZ l.data.toList, (ls.getD (p.n + 1) ⟨#[]⟩).data.toList, wZ (ls.getD (p.n + 2) ⟨#[]⟩).data.toList)] } else none := by
          unfold takeS
          rw [if_neg hi0, if_neg hi1, if_neg hir, getD_map, getD_map, getD_map, List.length_map, ← List.map_drop, ← List.map_take, all_map, List.map_map, wOk_dOk]
          rfl
        rw [ht]
        by_cases hfew : ls.length < 3
        · refine (take_row_few W1 w gp p.n i v ls _ _ _ _ vM vL vH vC h hv hfew h4 (by omega) (by omega)).mono ?_
          rintro e w' ⟨rfl, hw⟩
          exact ⟨hw, Or.inl ⟨if_neg (fun e => by omega), rfl⟩⟩
        · obtain ⟨k, hk⟩ : ∃ k, ls.length = k + 3 := ⟨ls.length - 3, by omega⟩
          have hsg : ∀ s : ByteArray, isSign s.data.toList = true ↔ (s.toList = [60, 61] ∨ s.toList = [62, 61] ∨ s.toList = [61]) := by
            intro s
            rw [ByteArray.toList_eq]
            simp [isSign]
          by_cases hc : k = p.n ∧ (ls.getD 0 ⟨#[]⟩).toList = [114, 111, 119] ∧ ((ls.drop 1).take k).all (fun l => wOk l.data.toList) = true ∧ ((ls.getD (k + 1) ⟨#[]⟩).toList = [60, 61] ∨ (ls.getD (k + 1) ⟨#[]⟩).toList = [62, 61] ∨ (ls.getD (k + 1) ⟨#[]⟩).toList = [61]) ∧ wOk (ls.getD (k + 2) ⟨#[]⟩).data.toList = true
          · obtain ⟨rfl, c2, c3, c4, c5⟩ := hc
            refine (take_row_ok W1 w gp p.n i ls _ _ _ v _ _ _ _ vM vL vH vC h hv hvg hk hsz h4 (by omega) (by omega) rfl rfl rfl c2 c3 c4 c5 hrl).mono ?_
            rintro e w' ⟨rfl, vC', hq⟩
            refine ⟨hq.wr, ?_⟩
            have c2' : (ls.getD 0 ⟨#[]⟩).data.toList = wRow := by rw [ByteArray.toList_eq] at c2; exact c2
            by_cases h6 : p.rows.length < 6
            · right
              exact ⟨_, if_pos ⟨h6, hk, c2', c3, (hsg _).2 c4, c5⟩, by rw [decide_eq_true h6], ⟨vM, vL, vH, vC', hq⟩⟩
            · left
              exact ⟨if_neg (fun e => h6 e.1), by rw [decide_eq_false h6]⟩
          · refine (take_row_no W1 w gp p.n k i ls _ _ _ v _ _ _ _ vM vL vH vC h hv hk (by omega) hsz h4 (by omega) (by omega) rfl rfl rfl hc).mono ?_
            rintro e w' ⟨rfl, hw⟩
            refine ⟨hw, Or.inl ⟨if_neg (fun e => hc ?_), rfl⟩⟩
            obtain ⟨_, e2, e3, e4, e5, e6⟩ := e
            obtain rfl : k = p.n := by omega
            exact ⟨rfl, by rw [ByteArray.toList_eq]; exact e3, e4, (hsg _).1 e5, e6⟩
end Go.Proofs.YtnhfdcfnojnofaaGreatDoor.T

/-
  Lines and words: as the document's own Lines and Words part them, and by cutting.
-/
namespace Go.Proofs.YtnhfdcfnojnofaaGreatDoor.T
open Go.RowKit

theorem lines_list (l : List UInt8) : (if (part 10 l).2 = [] then (part 10 l).1 else (part 10 l).1 ++ [⟨(part 10 l).2.toArray⟩]) = (lines l).map fun x => (⟨x.1.toArray⟩ : ByteArray) := by
  have h := congrArg (List.map Prod.fst) (lines_part l)
  rw [List.map_map] at h
  have e : (Prod.fst ∘ fun x : List UInt8 × Bool => ((⟨x.1.toArray⟩ : ByteArray), x.2)) = fun x => (⟨x.1.toArray⟩ : ByteArray) := rfl
  rw [e] at h
  rw [h]
  have e2 : ((part 10 l).1.map fun x => (x, true)).map Prod.fst = (part 10 l).1 := by
    rw [List.map_map]
    have : ((Prod.fst : ByteArray × Bool → ByteArray) ∘ fun x => (x, true)) = id := rfl
    rw [this, List.map_id]
  rw [List.map_append, e2]
  by_cases hp : (part 10 l).2 = []
  · simp [hp]
  · simp [hp]

theorem lines_end (l : List UInt8) (i : Nat) (x : List UInt8 × Bool) (hx : (lines l)[i]? = some x) : x.2 = !decide (i + 1 = (lines l).length ∧ (part 10 l).2 ≠ []) := by
  have h := congrArg (List.map Prod.snd) (lines_part l)
  rw [List.map_map] at h
  have e : (Prod.snd ∘ fun x : List UInt8 × Bool => ((⟨x.1.toArray⟩ : ByteArray), x.2)) = fun x => x.2 := rfl
  rw [e] at h
  have hi := congrArg (fun m => m[i]?) h
  simp only [List.getElem?_map, hx, Option.map_some] at hi
  have hlen := congrArg List.length h
  simp only [List.length_map, List.map_append, List.length_append] at hlen
  by_cases hp : (part 10 l).2 = []
  · simp only [hp, if_true, List.map_nil, List.append_nil, List.map_map] at hi
    have hlt : i < (part 10 l).1.length := by
      have := (List.getElem?_eq_some_iff.1 hx).1
      simp [hp] at hlen
      omega
    rw [List.getElem?_map, List.getElem?_eq_getElem hlt] at hi
    simp at hi
    simp [hp, hi]
  · simp only [hp, if_false, List.map_append, List.map_cons, List.map_nil, List.map_map] at hi
    simp [hp] at hlen
    by_cases hlt : i < (part 10 l).1.length
    · rw [List.getElem?_append_left (by simpa using hlt), List.getElem?_map, List.getElem?_eq_getElem hlt] at hi
      simp at hi
      rw [hi]
      simp
      omega
    · have hie : i = (part 10 l).1.length := by
        have := (List.getElem?_eq_some_iff.1 hx).1
        omega
      rw [List.getElem?_append_right (by simp; omega)] at hi
      simp [hie] at hi
      rw [hi]
      simp [hp]
      omega

theorem words_list (l : List UInt8) : ((part 32 l).1 ++ [(⟨(part 32 l).2.toArray⟩ : ByteArray)]).map (fun b : ByteArray => b.data.toList) = words l := by
  rw [← words_part, List.map_map]
  have e : ((fun b : ByteArray => b.data.toList) ∘ fun x : List UInt8 => (⟨x.toArray⟩ : ByteArray)) = id := by funext x; simp
  rw [e, List.map_id]

theorem words_pos (l : List UInt8) : 0 < (words l).length := by
  unfold words wordsF
  simp
end Go.Proofs.YtnhfdcfnojnofaaGreatDoor.T

/-
  What the document's own Of does with small numbers (package planesref).
-/
namespace Go.Proofs.YtnhfdcfnojnofaaGreatDoor.T
open Go.RowKit

set_option maxHeartbeats 1000000 in
set_option maxRecDepth 100000 in
theorem of_small (n : Nat) (h1 : 0 < n) (h2 : n < 10000) (w : World) : Calls Tryz.prog 69 #[.int .i64 (n : Int)] w fun e w' => ∃ t, e = .returned t ∧ NumV w' t (n : Int) 1 ∧ Below w.heap.size w w' := by
  obtain ⟨i0, hi, hz0, hz1, hz2⟩ := info_parts Tryz.infoInt
  have hboxR : Box3 (w.alloc (.cells #[.bool false, .slice none 0 0, .slice none 0 0] 118)) w.heap.size (.bool false) (.slice none 0 0) (.slice none 0 0) := Box3.new _ _ _ _ _
  have hbW : Below w.heap.size w (w.alloc (.cells #[.bool false, .slice none 0 0, .slice none 0 0] 118)) := (Below.refl _ _).alloc (Nat.le_refl _) _
  have hm1 : (n : Int).tmod 10000 = (n : Int) := Int.tmod_eq_of_lt (by omega) (by omega)
  have hm2 : (n : Int).tdiv 10000 = 0 := Int.tdiv_eq_zero_of_lt (by omega) (by omega)
  generalize hwA : w.alloc (.cells #[.bool false, .slice none 0 0, .slice none 0 0] 118) = wA at *
  go_enter Tryz.func69, Tryz.ntmps69
  go_wp2
  clear hwA
  go_loopw [0, 3] (fun nv lv wr => (nv = .int .i64 (n : Int) ∧ lv = .slice none 0 0 ∧ wA = wr) ∨ ∃ ao l cap, nv = .int .i64 0 ∧ lv = .slice ao l cap ∧ NV wr (.slice ao l cap) n ∧ Below wA.heap.size wA wr) (fun nv _ _ => (intOf nv).toNat)
  case atStart => exact Or.inl ⟨rfl, rfl, rfl⟩
  case round =>
    rcases hrel with ⟨rfl, rfl, rfl⟩ | ⟨ao, l, cap, rfl, rfl, hN, hbel⟩
    · go_wp2_with (at_builtin; refine wpList_append_own _ rfl _ _ 35 rfl wA.heap.size 3 i0 (.int .i64 0) 1 8 Tryz.underlying35 hi hz0 hz1 hz2 rfl (by decide) (.slice none 0 0) 0 [] rfl (World.ownsRow_nil _ _ _ _) ⟨wA.heap.size, 0, none⟩ 1 1 [.int .i64 (n : Int)] rfl rfl (cell_one_new _ _ _) ?c2 (by unfold maxLen; omega) (by omega) (by simp) ?_)
      case c2 => first | rfl | (intro u hu; simp at hu; subst hu; rfl)
      intro v3 w3 hown3 hgrow hnn
      obtain ⟨g3, cap3, hvv, _⟩ := owns_parts (ds := [n]) hown3 hnn
      subst hvv
      have hb3 : Below wA.heap.size wA w3 := ((Below.refl _ _).alloc (Nat.le_refl _) _).grown hgrow (by simp) (fun k h => by simp [Value.ownBlock] at h)
      have hsl : Sl w3 (.slice (some ⟨g3, 0, none⟩) 1 cap3) [n] := sl_of_owns (os := [n]) hown3
      have hN3 : NV w3 (.slice (some ⟨g3, 0, none⟩) 1 cap3) n := ⟨[n], hsl, dig_one (by omega), top_one (by omega), val_one n⟩
      clear hgrow hnn hown3
      go_wp2
      go_roundw
      case rel => exact Or.inr ⟨_, _, _, rfl, rfl, hN3, hb3⟩
      case measure => simp [intOf]; try omega
    · have hR := hboxR.below hbel
      have hbl := hbW.trans (hbel.mono hbW.size)
      have hR' := hR
      obtain ⟨f0, f1, f2, f3, f4, f5, f6⟩ := hR'
      have hS := (Box3.stored (b := false) (a := ao) (l := l) (k := cap) (a2 := some ⟨wr.heap.size, 0, none⟩) (l2 := 1) (k2 := 1) hR).alloc (.cells #[.int .i64 1] 3)
      obtain ⟨c0, c1, c2, c3, c4, c5, c6⟩ := hS
      have hp0 : Hid (false = decide ((n : Int) < 0)) := by
        rw [Hid]; simp
      go_wp2
      exact bodyPost_ret (v := .agg #[.bool false, .slice ao l cap, .slice (some ⟨wr.heap.size, 0, none⟩) 1 1]) (by simp [results, Tryz.results69, go_sem, c0, c1, c2]) rfl ⟨_, rfl, numV_over1 (p := (n : Int)) (by simpa using hN) hp0 hR,
        (below_stored hbl (Nat.le_refl _) _ _ _).alloc (by have := hbl.size; simp; omega) _⟩
end Go.Proofs.YtnhfdcfnojnofaaGreatDoor.T
