/-
  Part 10 of the texts ahead of Pks1: Rt2, Rt3, Rt4, Rt5.
-/
import Derived.Test.YtnhfdcfnojnofaaGreatDoorPks1Z9
set_option linter.unusedSimpArgs false
set_option linter.unusedVariables false
/-
  Texts of problems, put together and read again: readS of the lines of a fine problem.
-/
namespace Go.Proofs.YtnhfdcfnojnofaaGreatDoor

/-- A problem whose text can be read. -/
structure Fine (p : Prob) : Prop where
  n1 : 0 < p.n
  n4 : p.n ≤ 4
  m : p.mx.length = p.n
  g : p.rg.length = p.n
  l : p.rows.length ≤ 6
  c : ∀ x ∈ p.rows, x.1.length = p.n ∧ isSign x.2.1 = true
  bm : ∀ z ∈ p.mx, z.natAbs < 10 ^ 40
  bg : ∀ r ∈ p.rg, r.1.natAbs < 10 ^ 40 ∧ r.2.natAbs < 10 ^ 40
  br : ∀ x ∈ p.rows, (∀ z ∈ x.1, z.natAbs < 10 ^ 40) ∧ x.2.2.natAbs < 10 ^ 40
  w : ∀ r ∈ p.rg, r.2 - r.1 ≤ 7

/-- A number's text, as a word: how it is written is left open. -/
def NumT (z : Int) (t : List UInt8) : Prop := dOk t = true ∧ T.wZ t = z ∧ ∀ c ∈ t, c ≠ 32 ∧ c ≠ 10

theorem NumT.itoa (z : Int) (h : z.natAbs < 10 ^ 40) : NumT z (Lib.itoa z) := ⟨dOk_itoa z h, wZ_itoa z, itoa_chars z⟩

/-- Words behind a word, a blank ahead of each. -/
def joinT (ts : List (List UInt8)) : List UInt8 := ts.flatMap fun t => 32 :: t

theorem joinT_tell (zs : List Int) : joinT (zs.map Lib.itoa) = tellS zs := by
  unfold joinT tellS
  rw [List.flatMap_map]

theorem words_join (w : List UInt8) (ts : List (List UInt8)) (h : ∀ x ∈ w, x ≠ 32) (ht : ∀ t ∈ ts, ∀ c ∈ t, c ≠ 32) : words (w ++ joinT ts) = w :: ts := by
  induction ts generalizing w with
  | nil => simp only [joinT, List.flatMap_nil, List.append_nil]; exact words_one w h
  | cons t ts ih =>
    have e : w ++ joinT (t :: ts) = w ++ 32 :: (t ++ joinT ts) := by simp [joinT]
    rw [e, words_cons w _ h, ih t (ht t (by simp)) (fun u hu => ht u (by simp [hu]))]

theorem join_chars {ts : List (List UInt8)} (ht : ∀ t ∈ ts, ∀ c ∈ t, c ≠ 10) : ∀ c ∈ joinT ts, c ≠ 10 := by
  intro c hc
  obtain ⟨t, h1, h2⟩ := List.mem_flatMap.1 hc
  rcases List.mem_cons.1 h2 with rfl | h2
  · decide
  · exact ht t h1 c h2

/-- Texts that say these numbers. -/
def NumTs (zs : List Int) (ts : List (List UInt8)) : Prop := ts.length = zs.length ∧ (∀ t ∈ ts, dOk t = true ∧ ∀ c ∈ t, c ≠ 32 ∧ c ≠ 10) ∧ ts.map T.wZ = zs

theorem NumTs.nil : NumTs [] [] := ⟨rfl, fun t h => by simp at h, rfl⟩

theorem NumTs.cons {z : Int} {t : List UInt8} {zs : List Int} {ts : List (List UInt8)} (h : NumT z t) (k : NumTs zs ts) : NumTs (z :: zs) (t :: ts) := by
  refine ⟨by simp [k.1], ?_, by rw [List.map_cons, h.2.1, k.2.2]⟩
  intro u hu
  rcases List.mem_cons.1 hu with rfl | hu
  · exact ⟨h.1, h.2.2⟩
  · exact k.2.1 u hu

theorem NumTs.itoa (zs : List Int) (h : ∀ z ∈ zs, z.natAbs < 10 ^ 40) : NumTs zs (zs.map Lib.itoa) := by
  induction zs with
  | nil => exact NumTs.nil
  | cons z zs ih => exact NumTs.cons (NumT.itoa z (h z (by simp))) (ih fun y hy => h y (by simp [hy]))

theorem NumTs.all {zs : List Int} {ts : List (List UInt8)} (h : NumTs zs ts) : ts.all dOk = true := List.all_eq_true.2 fun t ht => (h.2.1 t ht).1

/-- The first line. -/
theorem take_vars (n : Nat) (h1 : 0 < n) (h4 : n ≤ 4) : takeS 0 Prob.none (words (wVars ++ 32 :: Lib.itoa (n : Int))) = some ⟨n, [], [], []⟩ := by
  rw [words_cons _ _ (by decide), words_one _ (fun x hx => (itoa_chars _ x hx).1)]
  have e : T.varsN [wVars, Lib.itoa (n : Int)] = n := by
    have : n = 1 ∨ n = 2 ∨ n = 3 ∨ n = 4 := by omega
    rcases this with rfl | rfl | rfl | rfl <;> decide +kernel
  unfold takeS
  rw [if_pos rfl, e, if_neg (by omega)]

theorem take_max (p : Prob) (zs : List Int) (ts : List (List UInt8)) (h : NumTs zs ts) (hl : zs.length = p.n) : takeS 1 p (words (wMax ++ joinT ts)) = some { p with mx := zs } := by
  rw [words_join _ _ (by decide) (fun t ht c hc => ((h.2.1 t ht).2 c hc).1)]
  unfold takeS
  rw [if_neg (by omega), if_pos rfl, if_pos ⟨by rw [List.length_cons, h.1, hl], rfl, by simpa using h.all⟩]
  simp [h.2.2]

theorem take_range (i : Nat) (p : Prob) (r : Int × Int) (ts : List (List UInt8)) (h : NumTs [r.1, r.2] ts) (h2 : 2 ≤ i) (hi : i ≤ 1 + p.n) : takeS i p (words (wRange ++ joinT ts)) = some { p with rg := p.rg ++ [r] } := by
  rw [words_join _ _ (by decide) (fun t ht c hc => ((h.2.1 t ht).2 c hc).1)]
  unfold takeS
  obtain ⟨hl, h3, h4⟩ := h
  match ts, hl, h3, h4 with
  | [a, b], _, h3, h4 =>
    simp only [List.map_cons, List.map_nil, List.cons.injEq, and_true] at h4
    rw [if_neg (by omega), if_neg (by omega), if_pos hi, if_pos ⟨rfl, rfl, by simp [(h3 a (by simp)).1, (h3 b (by simp)).1]⟩]
    simp [h4.1, h4.2]

theorem take_row (i : Nat) (p : Prob) (r : List Int × List UInt8 × Int) (ts : List (List UInt8)) (t : List UInt8) (h : NumTs r.1 ts) (ht : NumT r.2.2 t) (hs : isSign r.2.1 = true) (hsc : ∀ c ∈ r.2.1, c ≠ 32) (hl : r.1.length = p.n) (h6 : p.rows.length < 6) (h2 : 2 ≤ i) (hi : 1 + p.n < i) :
    takeS i p (words (wRow ++ joinT (ts ++ [r.2.1, t]))) = some { p with rows := p.rows ++ [r] } := by
  have hch : ∀ u ∈ ts ++ [r.2.1, t], ∀ c ∈ u, c ≠ 32 := by
    intro u hu c hc
    rcases List.mem_append.1 hu with hu | hu
    · exact ((h.2.1 u hu).2 c hc).1
    · rcases List.mem_cons.1 hu with rfl | hu
      · exact hsc c hc
      · rw [List.mem_singleton.1 hu] at hc
        exact (ht.2.2 c hc).1
  rw [words_join _ _ (by decide) hch]
  have hn : ts.length = p.n := by rw [h.1, hl]
  have e1 : (wRow :: (ts ++ [r.2.1, t])).drop 1 = ts ++ [r.2.1, t] := rfl
  have e2 : (ts ++ [r.2.1, t]).take p.n = ts := by rw [← hn]; simp
  have e3 : (wRow :: (ts ++ [r.2.1, t])).getD (p.n + 1) [] = r.2.1 := by rw [← hn]; simp [List.getD_eq_getElem?_getD]
  have e4 : (wRow :: (ts ++ [r.2.1, t])).getD (p.n + 2) [] = t := by
    rw [← hn, List.getD_eq_getElem?_getD, List.getElem?_cons_succ, List.getElem?_append_right (by omega)]
    simp
  unfold takeS
  rw [e1, e2, e3, e4]
  rw [if_neg (by omega), if_neg (by omega), if_neg (by omega), if_pos ⟨h6, by simp [hn], rfl, h.all, hs, ht.1⟩, h.2.2, ht.2.1]
end Go.Proofs.YtnhfdcfnojnofaaGreatDoor

/-
  Texts of problems: what is read of a fine problem's text, of the same with a line more, with its last sign less, with a blank more.
-/
namespace Go.Proofs.YtnhfdcfnojnofaaGreatDoor

/-- Lines put together. -/
def glue (ls : List (List UInt8)) : List UInt8 := ls.flatMap fun l => l ++ [10]

theorem glue_cons (l : List UInt8) (ls : List (List UInt8)) : glue (l :: ls) = l ++ 10 :: glue ls := by simp [glue]

theorem glue_append (a b : List (List UInt8)) : glue (a ++ b) = glue a ++ glue b := by simp [glue]

theorem lines_glue (ls : List (List UInt8)) (r : List UInt8) (h : ∀ l ∈ ls, ∀ c ∈ l, c ≠ 10) : lines (glue ls ++ r) = ls.map (fun l => (l, true)) ++ lines r := by
  induction ls with
  | nil => simp [glue]
  | cons l ls ih => rw [glue_cons, List.append_assoc, List.cons_append, lines_cons _ _ (h l (by simp)), ih (fun k hk => h k (by simp [hk]))]; rfl

/-- A problem as lines: the texts of its numbers are left open. -/
structure LinesOf (p : Prob) (ls : List (List UInt8)) : Prop where
  ex : ∃ (tm : List (List UInt8)) (tg : List (List (List UInt8))) (tr : List (List (List UInt8) × List UInt8)),
    ls = (wVars ++ 32 :: Lib.itoa (p.n : Int)) :: (wMax ++ joinT tm) :: (tg.map (fun ts => wRange ++ joinT ts) ++ (p.rows.zip tr).map (fun x => wRow ++ joinT (x.2.1 ++ [x.1.2.1, x.2.2]))) ∧
    NumTs p.mx tm ∧ tg.length = p.rg.length ∧ tr.length = p.rows.length ∧ (∀ (i : Nat) (r : Int × Int) (ts : List (List UInt8)), p.rg[i]? = some r → tg[i]? = some ts → NumTs [r.1, r.2] ts) ∧
    (∀ (i : Nat) (r : List Int × List UInt8 × Int) (t : List (List UInt8) × List UInt8), p.rows[i]? = some r → tr[i]? = some t → NumTs r.1 t.1 ∧ NumT r.2.2 t.2)

theorem sign_chars {l : List UInt8} (h : isSign l = true) : ∀ c ∈ l, c ≠ 32 ∧ c ≠ 10 := by
  unfold isSign at h
  simp at h
  rcases h with h | h | h <;> rw [h] <;> decide

theorem read_ranges (n : Nat) (mx : List Int) : ∀ (todo : List (Int × Int)) (tg : List (List (List UInt8))) (done : List (Int × Int)) (rest : List (List UInt8 × Bool)), tg.length = todo.length →
    (∀ (i : Nat) (r : Int × Int) (ts : List (List UInt8)), todo[i]? = some r → tg[i]? = some ts → NumTs [r.1, r.2] ts) → done.length + todo.length ≤ n →
    readS (2 + done.length) ⟨n, mx, done, []⟩ ((tg.map (fun ts => wRange ++ joinT ts)).map (fun l => (l, true)) ++ rest) = readS (2 + (done.length + todo.length)) ⟨n, mx, done ++ todo, []⟩ rest
  | [], tg, done, rest, hl, _, _ => by
    have : tg = [] := List.length_eq_zero_iff.1 hl
    subst this
    simp
  | r :: todo, [], done, rest, hl, _, _ => by simp at hl
  | r :: todo, ts :: tg, done, rest, hl, hn, hd => by
    simp only [List.map_cons, List.cons_append]
    rw [readS]
    simp only [Bool.true_eq_false, if_false]
    rw [List.length_cons] at hd
    rw [take_range (2 + done.length) ⟨n, mx, done, []⟩ r ts (hn 0 r ts rfl rfl) (by omega) (by show 2 + done.length ≤ 1 + n; omega)]
    have h := read_ranges n mx todo tg (done ++ [r]) rest (by simpa using hl) (fun i a b ha hb => hn (i + 1) a b (by simpa using ha) (by simpa using hb)) (by simp; omega)
    simp only [List.length_append, List.length_cons, List.length_nil, List.append_assoc, List.cons_append, List.nil_append] at h ⊢
    rw [show 2 + done.length + 1 = 2 + (done.length + (0 + 1)) by omega, h]
    congr 1
    omega

theorem read_rows (n : Nat) (mx : List Int) (rg : List (Int × Int)) : ∀ (todo : List (List Int × List UInt8 × Int)) (tr : List (List (List UInt8) × List UInt8)) (done : List (List Int × List UInt8 × Int)) (i : Nat) (rest : List (List UInt8 × Bool)), tr.length = todo.length →
    (∀ (i : Nat) (r : List Int × List UInt8 × Int) (t : List (List UInt8) × List UInt8), todo[i]? = some r → tr[i]? = some t → NumTs r.1 t.1 ∧ NumT r.2.2 t.2) → (∀ r ∈ todo, r.1.length = n ∧ isSign r.2.1 = true) → done.length + todo.length ≤ 6 → 2 ≤ i → 1 + n < i →
    readS i ⟨n, mx, rg, done⟩ (((todo.zip tr).map (fun x => wRow ++ joinT (x.2.1 ++ [x.1.2.1, x.2.2]))).map (fun l => (l, true)) ++ rest) = readS (i + todo.length) ⟨n, mx, rg, done ++ todo⟩ rest
  | [], tr, done, i, rest, hl, _, _, _, _, _ => by
    have : tr = [] := List.length_eq_zero_iff.1 hl
    subst this
    simp
  | r :: todo, [], done, i, rest, hl, _, _, _, _, _ => by simp at hl
  | r :: todo, t :: tr, done, i, rest, hl, hn, hc, hd, h2, hi => by
    simp only [List.zip_cons_cons, List.map_cons, List.cons_append]
    rw [readS]
    simp only [Bool.true_eq_false, if_false]
    rw [List.length_cons] at hd
    have h0 := hn 0 r t rfl rfl
    have hcr := hc r (by simp)
    rw [take_row i ⟨n, mx, rg, done⟩ r t.1 t.2 h0.1 h0.2 hcr.2 (fun c hx => (sign_chars hcr.2 c hx).1) hcr.1 (by show done.length < 6; omega) h2 hi]
    have h := read_rows n mx rg todo tr (done ++ [r]) (i + 1) rest (by simpa using hl) (fun j a b ha hb => hn (j + 1) a b (by simpa using ha) (by simpa using hb)) (fun x hx => hc x (by simp [hx])) (by simp; omega) (by omega) (by omega)
    simp only [List.append_assoc, List.cons_append, List.nil_append] at h ⊢
    rw [h, List.length_cons]
    congr 1
    omega

/-- All lines of a fine problem are read, and make that problem. -/
theorem read_fine {p : Prob} {ls : List (List UInt8)} (hp : Fine p) (h : LinesOf p ls) (rest : List (List UInt8 × Bool)) : readS 0 Prob.none (ls.map (fun l => (l, true)) ++ rest) = readS (2 + p.n + p.rows.length) p rest := by
  obtain ⟨tm, tg, tr, rfl, hm, hg, hr, hgn, hrn⟩ := h.ex
  simp only [List.map_cons, List.map_append, List.cons_append, List.append_assoc]
  rw [readS]
  simp only [Bool.true_eq_false, if_false]
  rw [take_vars p.n hp.n1 hp.n4]
  simp only
  rw [readS]
  simp only [Bool.true_eq_false, if_false]
  rw [take_max ⟨p.n, [], [], []⟩ p.mx tm hm hp.m]
  simp only
  have h1 := read_ranges p.n p.mx p.rg tg [] (((p.rows.zip tr).map (fun x => wRow ++ joinT (x.2.1 ++ [x.1.2.1, x.2.2]))).map (fun l => (l, true)) ++ rest) hg hgn (by rw [hp.g]; simp)
  simp only [List.length_nil, Nat.add_zero, List.nil_append, Nat.zero_add, hp.g] at h1
  rw [show (0 + 1 + 1 : Nat) = 2 from rfl, h1]
  have h2 := read_rows p.n p.mx p.rg p.rows tr [] (2 + p.n) rest hr hrn hp.c (by simp; exact hp.l) (by omega) (by omega)
  simp only [List.nil_append] at h2
  rw [h2]
end Go.Proofs.YtnhfdcfnojnofaaGreatDoor

/-
  Texts of problems: what Plain answers at a fine problem's text, at the same with a line more, with its last sign less, with a blank more.
-/
namespace Go.Proofs.YtnhfdcfnojnofaaGreatDoor

theorem lines_nil : lines [] = [] := rfl

theorem LinesOf.len {p : Prob} {ls : List (List UInt8)} (hp : Fine p) (h : LinesOf p ls) : ls.length = 2 + p.n + p.rows.length := by
  obtain ⟨tm, tg, tr, rfl, hm, hg, hr, _⟩ := h.ex
  simp only [List.length_cons, List.length_append, List.length_map, List.length_zip, hg, hr, hp.g]
  omega

theorem LinesOf.chars {p : Prob} {ls : List (List UInt8)} (hp : Fine p) (h : LinesOf p ls) : ∀ l ∈ ls, ∀ c ∈ l, c ≠ 10 := by
  obtain ⟨tm, tg, tr, rfl, hm, hg, hr, hgn, hrn⟩ := h.ex
  intro l hl c hc
  rcases List.mem_cons.1 hl with rfl | hl
  · rcases List.mem_append.1 hc with hc | hc
    · exact (by decide : ∀ c ∈ wVars, c ≠ 10) c hc
    · rcases List.mem_cons.1 hc with rfl | hc
      · decide
      · exact (itoa_chars _ c hc).2
  · rcases List.mem_cons.1 hl with rfl | hl
    · rcases List.mem_append.1 hc with hc | hc
      · exact (by decide : ∀ c ∈ wMax, c ≠ 10) c hc
      · exact join_chars (fun t ht c hc => ((hm.2.1 t ht).2 c hc).2) c hc
    · rcases List.mem_append.1 hl with hl | hl
      · obtain ⟨ts, hts, rfl⟩ := List.mem_map.1 hl
        rcases List.mem_append.1 hc with hc | hc
        · exact (by decide : ∀ c ∈ wRange, c ≠ 10) c hc
        · obtain ⟨i, hi⟩ := List.mem_iff_getElem?.1 hts
          have hi2 : i < p.rg.length := by have := (List.getElem?_eq_some_iff.1 hi).1; omega
          have k := hgn i _ ts (List.getElem?_eq_getElem hi2) hi
          exact join_chars (fun t ht c hc => ((k.2.1 t ht).2 c hc).2) c hc
      · obtain ⟨x, hx, rfl⟩ := List.mem_map.1 hl
        rcases List.mem_append.1 hc with hc | hc
        · exact (by decide : ∀ c ∈ wRow, c ≠ 10) c hc
        · obtain ⟨i, hi⟩ := List.mem_iff_getElem?.1 hx
          rw [List.getElem?_zip_eq_some] at hi
          have k := hrn i _ _ hi.1 hi.2
          have ks := hp.c _ (List.mem_of_getElem? hi.1)
          refine join_chars (fun t ht c hc => ?_) c hc
          rcases List.mem_append.1 ht with ht | ht
          · exact ((k.1.2.1 t ht).2 c hc).2
          · rcases List.mem_cons.1 ht with rfl | ht
            · exact (sign_chars ks.2 c hc).2
            · rw [List.mem_singleton.1 ht] at hc
              exact (k.2.2.2 c hc).2

theorem wide_none {rg : List (Int × Int)} (h : ∀ r ∈ rg, r.2 - r.1 ≤ 7) (i : Nat) : wideS i rg = none := by
  induction rg generalizing i with
  | nil => rfl
  | cons r rg ih =>
    rw [wideS, if_neg (by have := h r (by simp); omega)]
    exact ih (fun x hx => h x (by simp [hx])) _

theorem parse_fine {p : Prob} {ls : List (List UInt8)} (hp : Fine p) (h : LinesOf p ls) (hs : (glue ls).length ≤ 2000) : parseS (glue ls) = .ok p := by
  have hl : lines (glue ls) = ls.map fun l => (l, true) := by
    have := lines_glue ls [] (h.chars hp)
    rwa [List.append_nil, lines_nil, List.append_nil] at this
  have hr := read_fine hp h []
  rw [List.append_nil] at hr
  unfold parseS
  rw [if_neg (by omega), hl, hr]
  simp only [readS]
  rw [if_neg (by rw [List.length_map, h.len hp]; omega), wide_none hp.w]

theorem plain_fine {p : Prob} {ls : List (List UInt8)} (hp : Fine p) (h : LinesOf p ls) (hs : (glue ls).length ≤ 2000) : plainS (glue ls) = (textS p, 0, 0) := by
  rw [plainS_parse, parse_fine hp h hs]

theorem plain_of_err {s : List UInt8} {k : Nat} (hs : s.length ≤ 2000) (h : readS 0 Prob.none (lines s) = .error k) : plainS s = ([], 5, k) := by
  unfold plainS
  rw [if_neg (by omega), h]

/-- With a line more that says no condition. -/
theorem plain_more {p : Prob} {ls : List (List UInt8)} (hp : Fine p) (h : LinesOf p ls) (hs : (glue ls).length ≤ 1996) : plainS (glue ls ++ (wRow ++ [10])) = ([], 5, ls.length + 1) := by
  refine plain_of_err (by simp [wRow]; omega) ?_
  have hw : lines (wRow ++ [10]) = [(wRow, true)] := by
    rw [show wRow ++ [10] = wRow ++ 10 :: [] from rfl, lines_cons _ _ (by decide), lines_nil]
  rw [lines_glue ls _ (h.chars hp), hw, read_fine hp h, readS]
  simp only [Bool.true_eq_false, if_false]
  have hn := hp.n1
  have ht : takeS (2 + p.n + p.rows.length) p (words wRow) = none := by
    rw [words_one _ (by decide)]
    unfold takeS
    rw [if_neg (by omega), if_neg (by omega), if_neg (by omega), if_neg]
    rintro ⟨_, h2, _⟩
    simp at h2
  rw [ht, h.len hp]

/-- Lines that can be read can be read up to any of them. -/
theorem read_part : ∀ (xs : List (List UInt8 × Bool)) (i : Nat) (p q : Prob) (k : Nat), readS i p xs = .ok q → k ≤ xs.length → ∃ r, (∀ rest, readS i p (xs.take k ++ rest) = readS (i + k) r rest) ∧ (∀ x, xs[k]? = some x → ∃ r', takeS (i + k) r (words x.1) = some r')
  | xs, i, p, q, 0, h, _ => by
    refine ⟨p, fun rest => by simp, fun x hx => ?_⟩
    cases xs with
    | nil => simp at hx
    | cons y ys =>
      simp at hx
      subst hx
      rw [readS] at h
      split at h
      · cases h
      · split at h
        · cases h
        · rename_i r' ht
          exact ⟨r', ht⟩
  | [], i, p, q, k + 1, h, hk => by simp at hk
  | x :: xs, i, p, q, k + 1, h, hk => by
    rw [readS] at h
    split at h
    · cases h
    · rename_i hx
      split at h
      · cases h
      · rename_i p' hp'
        obtain ⟨r, h1, h2⟩ := read_part xs (i + 1) p' q k h (by simpa using hk)
        refine ⟨r, fun rest => ?_, fun y hy => ?_⟩
        · rw [List.take_succ_cons, List.cons_append, readS, if_neg hx, hp']
          simp only
          rw [h1 rest]
          congr 1
          omega
        · have := h2 y (by simpa using hy)
          rwa [show i + 1 + k = i + (k + 1) by omega] at this

theorem take_len {i : Nat} {p q : Prob} {ws : List (List UInt8)} (h : takeS i p ws = some q) : ws.length = if i = 0 then 2 else if i = 1 then p.n + 1 else if i ≤ 1 + p.n then 3 else p.n + 3 := by
  unfold takeS at h
  split at h
  · split at h
    · cases h
    · rename_i h0 h1
      rw [if_pos h0]
      unfold T.varsN at h1
      split at h1
      · rename_i h2; exact h2.1
      · simp at h1
  · rename_i h0
    rw [if_neg h0]
    split at h
    · rename_i h1
      rw [if_pos h1]
      split at h
      · rename_i h2; exact h2.1
      · cases h
    · rename_i h1
      rw [if_neg h1]
      split at h
      · rename_i h2
        rw [if_pos h2]
        split at h
        · rename_i h3; exact h3.1
        · cases h
      · rename_i h2
        rw [if_neg h2]
        split at h
        · rename_i h3; exact h3.2.1
        · cases h

theorem words_count (f : Nat) : ∀ l : List UInt8, l.length < f → (wordsF f l).length = l.count 32 + 1 := by
  induction f with
  | zero => intro l h; omega
  | succ f ih =>
    intro l h
    rw [wordsF]
    have hl := cutB_len 32 l
    by_cases hc : (Lib.cut l [32]).2.2 = true
    · rw [if_pos hc] at hl
      rw [if_pos hc, List.length_cons, ih _ (by omega)]
      have key : ∀ l : List UInt8, (Lib.cut l [32]).2.2 = true → l.count 32 = (Lib.cut l [32]).2.1.count 32 + 1 := by
        intro l
        induction l with
        | nil => intro h; rw [cutB_nil] at h; cases h
        | cons x l ih =>
          intro h
          by_cases hx : x = 32
          · subst hx; rw [cutB_hit, List.count_cons_self]
          · rw [cutB_miss hx] at h ⊢
            rw [List.count_cons_of_ne hx]
            exact ih h
      rw [key l hc]
    · rw [if_neg hc]
      have h1 := cutB_no (by simpa using hc)
      have h2 := cutB_noc 32 l
      rw [h1] at h2 ⊢
      rw [List.count_eq_zero.2 (fun hm => h2 32 hm rfl)]
      rfl

theorem words_len (l : List UInt8) : (words l).length = l.count 32 + 1 := words_count _ l (by omega)

/-- A line of it with a blank more. -/
theorem plain_blank {p : Prob} {ls : List (List UInt8)} (hp : Fine p) (h : LinesOf p ls) (k : Nat) (a b : List UInt8) (hk : ls[k]? = some (a ++ b)) (hs : (glue ls).length ≤ 1999) :
    plainS (glue (ls.take k) ++ ((a ++ 32 :: b) ++ 10 :: glue (ls.drop (k + 1)))) = ([], 5, k + 1) := by
  have hch := h.chars hp
  have hkl : k < ls.length := (List.getElem?_eq_some_iff.1 hk).1
  have hab := hch _ (List.mem_of_getElem? hk)
  have hsz : (glue (ls.take k) ++ ((a ++ 32 :: b) ++ 10 :: glue (ls.drop (k + 1)))).length = (glue ls).length + 1 := by
    have e : ls = ls.take k ++ (a ++ b) :: ls.drop (k + 1) := by
      have := List.take_append_drop k ls
      rw [List.drop_eq_getElem_cons hkl] at this
      rw [List.getElem?_eq_getElem hkl] at hk
      rw [Option.some.inj hk] at this
      exact this.symm
    rw [congrArg (fun l => (glue l).length) e, glue_append, glue_cons]
    simp only [List.length_append, List.length_cons]
    omega
  refine plain_of_err (by omega) ?_
  have hr := read_fine hp h []
  rw [List.append_nil] at hr
  simp only [readS] at hr
  obtain ⟨r, h1, h2⟩ := read_part _ 0 _ _ k hr (by rw [List.length_map]; omega)
  obtain ⟨r', hr'⟩ := h2 (a ++ b, true) (by rw [List.getElem?_map, hk]; rfl)
  rw [lines_glue _ _ (fun l hl => hch l (List.mem_of_mem_take hl)), lines_cons _ _ (fun c hc => by
    rcases List.mem_append.1 hc with hc | hc
    · exact hab c (by simp [hc])
    · rcases List.mem_cons.1 hc with rfl | hc
      · decide
      · exact hab c (by simp [hc])), List.map_take, h1, readS]
  simp only [Bool.true_eq_false, if_false]
  have hno : takeS (0 + k) r (words (a ++ 32 :: b)) = none := by
    cases ht : takeS (0 + k) r (words (a ++ 32 :: b)) with
    | none => rfl
    | some q =>
      have e1 := take_len ht
      have e2 := take_len hr'
      rw [← e2, words_len, words_len] at e1
      simp at e1
  rw [hno, Nat.zero_add]

/-- Its last sign is gone. -/
theorem plain_less {p : Prob} {ls : List (List UInt8)} (hp : Fine p) (h : LinesOf p ls) (l : List UInt8) (k : Nat) (hk : ls.length = k + 1) (hl : ls[k]? = some l) (h0 : l ≠ []) (hs : (glue ls).length ≤ 2000) :
    plainS (glue (ls.take k) ++ l) = ([], 5, k + 1) := by
  have hch := h.chars hp
  have hkl : k < ls.length := by omega
  have hsz : (glue (ls.take k) ++ l).length ≤ (glue ls).length := by
    have e : ls = ls.take k ++ [l] := by
      have := List.take_append_drop k ls
      rw [List.drop_eq_getElem_cons hkl, List.drop_eq_nil_of_le (by omega)] at this
      rw [List.getElem?_eq_getElem hkl] at hl
      rw [Option.some.inj hl] at this
      exact this.symm
    rw [congrArg (fun l => (glue l).length) e, glue_append, glue_cons]
    simp only [List.length_append, List.length_cons]
    omega
  refine plain_of_err (by omega) ?_
  have hr := read_fine hp h []
  rw [List.append_nil] at hr
  simp only [readS] at hr
  obtain ⟨r, h1, _⟩ := read_part _ 0 _ _ k hr (by rw [List.length_map]; omega)
  rw [lines_glue _ _ (fun l hl => hch l (List.mem_of_mem_take hl)), lines_last l (hch l (List.mem_of_getElem? hl)) h0, List.map_take, h1, readS, if_pos rfl, Nat.zero_add]

/-- The plain form's own lines. -/
def linesI (p : Prob) : List (List UInt8) :=
  (wVars ++ 32 :: Lib.itoa (p.n : Int)) :: (wMax ++ tellS p.mx) :: (p.rg.map (fun r => wRange ++ tellS [r.1, r.2]) ++ p.rows.map (fun r => wRow ++ tellS r.1 ++ 32 :: r.2.1 ++ tellS [r.2.2]))

theorem glue_linesI (p : Prob) : glue (linesI p) = textS p := by
  unfold linesI textS
  rw [glue_cons, glue_cons, glue_append]
  simp only [glue, List.flatMap_map]
  have e1 : rangeS = fun r => wRange ++ tellS [r.1, r.2] ++ [10] := rfl
  have e2 : rowS = fun r => wRow ++ tellS r.1 ++ 32 :: r.2.1 ++ tellS [r.2.2] ++ [10] := rfl
  rw [e1, e2]
  simp

theorem zip_self {α β : Type} (f : α → β) (l : List α) : l.zip (l.map f) = l.map fun x => (x, f x) := by
  induction l with
  | nil => rfl
  | cons x l ih => rw [List.map_cons, List.zip_cons_cons, ih, List.map_cons]

theorem linesI_of {p : Prob} (hp : Fine p) : LinesOf p (linesI p) := by
  refine ⟨p.mx.map Lib.itoa, p.rg.map (fun r => [r.1, r.2].map Lib.itoa), p.rows.map (fun r => (r.1.map Lib.itoa, Lib.itoa r.2.2)), ?_, NumTs.itoa _ hp.bm, by simp, by simp, ?_, ?_⟩
  · unfold linesI
    rw [joinT_tell, List.map_map]
    rw [zip_self, List.map_map]
    refine congrArg (fun l => _ :: _ :: l) (congr (congrArg HAppend.hAppend ?_) ?_)
    · apply List.map_congr_left
      intro r _
      show wRange ++ tellS [r.1, r.2] = wRange ++ joinT ([r.1, r.2].map Lib.itoa)
      rw [joinT_tell]
    · apply List.map_congr_left
      intro r _
      show wRow ++ tellS r.1 ++ 32 :: r.2.1 ++ tellS [r.2.2] = wRow ++ joinT (r.1.map Lib.itoa ++ [r.2.1, Lib.itoa r.2.2])
      rw [← joinT_tell, ← joinT_tell]
      simp [joinT]
  · intro i r ts h1 h2
    rw [List.getElem?_map, h1] at h2
    have : ts = [r.1, r.2].map Lib.itoa := (Option.some.inj h2).symm
    rw [this]
    refine NumTs.itoa _ fun z hz => ?_
    have hb := hp.bg r (List.mem_of_getElem? h1)
    rcases List.mem_cons.1 hz with rfl | hz
    · exact hb.1
    · rw [List.mem_singleton.1 hz]; exact hb.2
  · intro i r t h1 h2
    rw [List.getElem?_map, h1] at h2
    have : t = (r.1.map Lib.itoa, Lib.itoa r.2.2) := (Option.some.inj h2).symm
    rw [this]
    have hb := hp.br r (List.mem_of_getElem? h1)
    exact ⟨NumTs.itoa _ hb.1, NumT.itoa _ hb.2⟩
end Go.Proofs.YtnhfdcfnojnofaaGreatDoor

/-
  Texts of problems with noughts more: each number's text has two noughts more ahead of its digits.
-/
namespace Go.Proofs.YtnhfdcfnojnofaaGreatDoor

/-- A text, from place i on, with two noughts more behind each minus, and behind each blank that a digit follows; the first nine signs stay. -/
def oddF : Nat → List UInt8 → List UInt8
  | _, [] => []
  | i, c :: r => c :: ((if (c = 45 ∨ (c = 32 ∧ isDig (r.headD 0) = true)) ∧ 8 < i then [48, 48] else []) ++ oddF (i + 1) r)

theorem oddF_same : ∀ (l : List UInt8) (i j : Nat), 8 < i → 8 < j → oddF i l = oddF j l
  | [], _, _, _, _ => rfl
  | c :: r, i, j, hi, hj => by
    rw [oddF, oddF, oddF_same r (i + 1) (j + 1) (by omega) (by omega)]
    simp only [hi, hj, and_true]

theorem oddF_low : ∀ (a b : List UInt8) (i : Nat), i + a.length ≤ 9 → oddF i (a ++ b) = a ++ oddF (i + a.length) b
  | [], b, i, _ => by simp
  | c :: a, b, i, h => by
    rw [List.length_cons] at h
    rw [List.cons_append, oddF, if_neg (by omega), List.nil_append, oddF_low a b (i + 1) (by omega), List.length_cons]
    rw [show i + 1 + a.length = i + (a.length + 1) by omega]
    rfl

def oddG (l : List UInt8) : List UInt8 := oddF 9 l

theorem oddG_nil : oddG [] = [] := rfl

theorem oddG_cons (c : UInt8) (r : List UInt8) : oddG (c :: r) = c :: ((if c = 45 ∨ (c = 32 ∧ isDig (r.headD 0) = true) then [48, 48] else []) ++ oddG r) := by
  unfold oddG
  rw [oddF, oddF_same r (9 + 1) 9 (by omega) (by omega)]
  simp

theorem oddG_plain : ∀ (w b : List UInt8), (∀ c ∈ w, c ≠ 45 ∧ c ≠ 32) → oddG (w ++ b) = w ++ oddG b
  | [], b, _ => rfl
  | c :: w, b, h => by
    have hc := h c (by simp)
    rw [List.cons_append, oddG_cons, if_neg (fun e => e.elim hc.1 (fun x => hc.2 x.1)), List.nil_append, oddG_plain w b (fun d hd => h d (by simp [hd]))]
    rfl

theorem dec_chars (n : Nat) : ∀ c ∈ Lib.decDigits n, c ≠ 45 ∧ c ≠ 32 := by
  intro c hc
  have h1 := isDig_bd (List.all_eq_true.1 (dec_all n) c hc)
  constructor <;> (rintro rfl; simp at h1)

/-- A number's text with noughts more. -/
def oddT (z : Int) : List UInt8 := if z < 0 then 45 :: 48 :: 48 :: Lib.decDigits z.natAbs else 48 :: 48 :: Lib.decDigits z.toNat

theorem oddG_num (z : Int) (b : List UInt8) : oddG (32 :: (Lib.itoa z ++ b)) = 32 :: (oddT z ++ oddG b) := by
  unfold Lib.itoa oddT
  by_cases h : z < 0
  · rw [if_pos h, if_pos h, oddG_cons, if_neg, List.nil_append, List.cons_append, oddG_cons, if_pos (Or.inl rfl), oddG_plain _ _ (dec_chars _)]
    · rfl
    · rintro (e | ⟨_, e⟩)
      · exact absurd e (by decide)
      · simp only [List.cons_append, List.headD_cons] at e
        exact absurd e (by decide)
  · rw [if_neg h, if_neg h, oddG_cons, if_pos, oddG_plain _ _ (dec_chars _)]
    · rfl
    · refine Or.inr ⟨rfl, ?_⟩
      have h1 := dec_all z.toNat
      have h2 := dec_pos z.toNat
      cases hd : Lib.decDigits z.toNat with
      | nil => rw [hd] at h2; simp at h2
      | cons c r =>
        rw [hd] at h1
        exact List.all_eq_true.1 h1 c (by simp)

theorem oddG_tell : ∀ (zs : List Int) (b : List UInt8), oddG (tellS zs ++ b) = joinT (zs.map oddT) ++ oddG b
  | [], b => rfl
  | z :: zs, b => by
    have e : tellS (z :: zs) ++ b = 32 :: (Lib.itoa z ++ (tellS zs ++ b)) := by simp [tellS]
    rw [e, oddG_num, oddG_tell zs b]
    simp [joinT]

theorem decVal_nought (l : List UInt8) : decVal (48 :: l) = decVal l := by
  simp [decVal]

theorem NumT.odd (z : Int) (h : z.natAbs < 10 ^ 38) : NumT z (oddT z) := by
  have h1 := dec_len_le 38 _ h (by omega)
  have hd := dec_all z.natAbs
  have key : Lib.trimPrefix (oddT z) [45] = 48 :: 48 :: Lib.decDigits z.natAbs ∧ Lib.hasPrefix (oddT z) [45] = decide (z < 0) := by
    unfold oddT
    by_cases h0 : z < 0
    · rw [if_pos h0]
      simp [Lib.trimPrefix, Lib.hasPrefix, h0]
    · rw [if_neg h0, show z.toNat = z.natAbs by omega]
      have e : [45].isPrefixOf (48 :: 48 :: Lib.decDigits z.natAbs) = false := rfl
      simp [Lib.trimPrefix, Lib.hasPrefix, h0, e]
  have had : allDig (48 :: 48 :: Lib.decDigits z.natAbs) = true := by
    have : allDig ([48, 48] ++ Lib.decDigits z.natAbs) = true := by rw [allDig_append, hd]; decide
    exact this
  refine ⟨?_, ?_, ?_⟩
  · unfold dOk T.okD
    rw [key.1, had]
    simp only [Bool.and_true, Bool.and_eq_true, decide_eq_true_eq]
    exact ⟨by simp, by simp only [List.length_cons]; omega⟩
  · unfold T.wZ
    rw [key.1, key.2, decVal_nought, decVal_nought, dec_val, sg_self]
  · intro c hc
    unfold oddT at hc
    split at hc
    · rcases List.mem_cons.1 hc with rfl | hc
      · decide
      · exact dig_chars had c hc
    · rw [show z.toNat = z.natAbs by omega] at hc
      exact dig_chars had c hc

theorem NumTs.odd (zs : List Int) (h : ∀ z ∈ zs, z.natAbs < 10 ^ 38) : NumTs zs (zs.map oddT) := by
  induction zs with
  | nil => exact NumTs.nil
  | cons z zs ih => exact NumTs.cons (NumT.odd z (h z (by simp))) (ih fun y hy => h y (by simp [hy]))

/-- The lines with noughts more. -/
def linesO (p : Prob) : List (List UInt8) :=
  (wVars ++ 32 :: Lib.itoa (p.n : Int)) :: (wMax ++ joinT (p.mx.map oddT)) :: (p.rg.map (fun r => wRange ++ joinT ([r.1, r.2].map oddT)) ++ p.rows.map (fun r => wRow ++ joinT (r.1.map oddT ++ [r.2.1, oddT r.2.2])))

theorem linesO_of {p : Prob} (hm : ∀ z ∈ p.mx, z.natAbs < 10 ^ 38) (hg : ∀ r ∈ p.rg, r.1.natAbs < 10 ^ 38 ∧ r.2.natAbs < 10 ^ 38) (hr : ∀ x ∈ p.rows, (∀ z ∈ x.1, z.natAbs < 10 ^ 38) ∧ x.2.2.natAbs < 10 ^ 38) : LinesOf p (linesO p) := by
  refine ⟨p.mx.map oddT, p.rg.map (fun r => [r.1, r.2].map oddT), p.rows.map (fun r => (r.1.map oddT, oddT r.2.2)), ?_, NumTs.odd _ hm, by simp, by simp, ?_, ?_⟩
  · unfold linesO
    rw [List.map_map, zip_self, List.map_map]
    rfl
  · intro i r ts h1 h2
    rw [List.getElem?_map, h1] at h2
    have : ts = [r.1, r.2].map oddT := (Option.some.inj h2).symm
    rw [this]
    refine NumTs.odd _ fun z hz => ?_
    have hb := hg r (List.mem_of_getElem? h1)
    rcases List.mem_cons.1 hz with rfl | hz
    · exact hb.1
    · rw [List.mem_singleton.1 hz]; exact hb.2
  · intro i r t h1 h2
    rw [List.getElem?_map, h1] at h2
    have : t = (r.1.map oddT, oddT r.2.2) := (Option.some.inj h2).symm
    rw [this]
    have hb := hr r (List.mem_of_getElem? h1)
    exact ⟨NumTs.odd _ hb.1, NumT.odd _ hb.2⟩

theorem oddG_ranges : ∀ (rg : List (Int × Int)) (b : List UInt8), oddG (rg.flatMap rangeS ++ b) = glue (rg.map (fun r => wRange ++ joinT ([r.1, r.2].map oddT))) ++ oddG b
  | [], b => rfl
  | r :: rg, b => by
    have e : (r :: rg).flatMap rangeS ++ b = wRange ++ (tellS [r.1, r.2] ++ ([10] ++ (rg.flatMap rangeS ++ b))) := by simp [rangeS]
    rw [e, oddG_plain wRange _ (by decide), oddG_tell, oddG_plain [10] _ (by decide), oddG_ranges rg b]
    simp [glue]

theorem sign_plain {l : List UInt8} (h : isSign l = true) : (∀ c ∈ l, c ≠ 45 ∧ c ≠ 32) ∧ isDig (l.headD 0) = false ∧ l ≠ [] := by
  unfold isSign at h
  simp at h
  rcases h with h | h | h <;> rw [h] <;> decide

theorem oddG_rows : ∀ (rows : List (List Int × List UInt8 × Int)) (b : List UInt8), (∀ r ∈ rows, isSign r.2.1 = true) → oddG (rows.flatMap rowS ++ b) = glue (rows.map (fun r => wRow ++ joinT (r.1.map oddT ++ [r.2.1, oddT r.2.2]))) ++ oddG b
  | [], b, _ => rfl
  | r :: rows, b, h => by
    obtain ⟨h1, h2, h3⟩ := sign_plain (h r (by simp))
    have e : (r :: rows).flatMap rowS ++ b = wRow ++ (tellS r.1 ++ (32 :: (r.2.1 ++ (tellS [r.2.2] ++ ([10] ++ (rows.flatMap rowS ++ b)))))) := by simp [rowS]
    rw [e, oddG_plain wRow _ (by decide), oddG_tell, oddG_cons, if_neg, List.nil_append, oddG_plain r.2.1 _ h1, oddG_tell, oddG_plain [10] _ (by decide), oddG_rows rows b (fun x hx => h x (by simp [hx]))]
    · simp [joinT, glue]
    · rintro (e | ⟨_, e⟩)
      · exact absurd e (by decide)
      · cases hl : r.2.1 with
        | nil => exact h3 hl
        | cons c l =>
          rw [hl] at h2 e
          simp only [List.cons_append, List.headD_cons] at h2 e
          rw [h2] at e
          cases e

/-- The whole text with noughts more. -/
theorem oddF_text {p : Prob} (hp : Fine p) : oddF 0 (textS p) = glue (linesO p) := by
  have hn : (Lib.itoa (p.n : Int)).length = 1 := by
    have h1 := hp.n1
    have h4 := hp.n4
    have : p.n = 1 ∨ p.n = 2 ∨ p.n = 3 ∨ p.n = 4 := by omega
    rcases this with h | h | h | h <;> rw [h] <;> decide +kernel
  have e : textS p = (wVars ++ 32 :: Lib.itoa (p.n : Int) ++ [10] ++ [109, 97]) ++ ([120] ++ (tellS p.mx ++ ([10] ++ (p.rg.flatMap rangeS ++ (p.rows.flatMap rowS ++ []))))) := by simp [textS, wMax]
  rw [e, oddF_low _ _ 0 (by simp [hn, wVars])]
  have e9 : 0 + (wVars ++ 32 :: Lib.itoa (p.n : Int) ++ [10] ++ [109, 97]).length = 9 := by simp [hn, wVars]
  rw [e9]
  show _ ++ oddG _ = _
  rw [oddG_plain [120] _ (by decide), oddG_tell, oddG_plain [10] _ (by decide), oddG_ranges, oddG_rows _ _ (fun r hr => (hp.c r hr).2), oddG_nil]
  unfold linesO
  rw [glue_cons, glue_cons, glue_append]
  simp [wMax]
end Go.Proofs.YtnhfdcfnojnofaaGreatDoor
