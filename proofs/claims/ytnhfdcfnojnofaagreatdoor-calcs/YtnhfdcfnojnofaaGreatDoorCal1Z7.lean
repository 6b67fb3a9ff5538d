/-
  Part 7 of the texts ahead of Cal1: Txt8, Txt4, Pla1, Pla2.
-/
import Derived.Test.YtnhfdcfnojnofaaGreatDoorCal1Z3
import Derived.Test.YtnhfdcfnojnofaaGreatDoorCal1Z6
import Derived.WalkSmall
import Derived.Test.YtnhfdcfnojnofaaGreatDoorCal1Z2
import Derived.Laws.EntriesVeiled
set_option linter.unusedSimpArgs false
set_option linter.unusedVariables false
/-
  Numbers written: String of a natural of one piece, of a whole, of a fraction.
-/
namespace Go.Proofs.YtnhfdcfnojnofaaGreatDoor
open Go.RowKit

/-- The table of powers of ten lies as the library laid it. -/
def Tab (w : World) : Prop := Lib.TabIs Tryz.prog w "internal/strconv.uint64pow10" .u64 Lib.pow10Tab

theorem Tab.below {w w' : World} (h : Tab w) (hb : Below w.heap.size w w') : Tab w' := by
  unfold Tab Lib.TabIs World.var? at *
  cases hg : Tryz.prog.globalNamed "internal/strconv.uint64pow10" with
  | none => rw [hg] at h; simp at h
  | some g =>
    rw [hg] at h
    simp only [Option.bind_some] at h ⊢
    have hlt : g < w.heap.size := by
      rcases Nat.lt_or_ge g w.heap.size with h1 | h1
      · exact h1
      · rw [Array.getElem?_eq_none h1] at h; simp at h
    rw [hb.block g hlt]
    exact h

theorem lt_of_some {w : World} {g : Nat} {o : Obj} (h : w.heap[g]? = some o) : g < w.heap.size := by
  rcases Nat.lt_or_ge g w.heap.size with h1 | h1
  · exact h1
  · rw [Array.getElem?_eq_none h1] at h; simp at h

theorem builderAtF_below {T e B b : Nat} {p : Value} {bs : List Value} {w w' : World} (h : Lib.BuilderAtF T e B b p bs w) (hb : Below w.heap.size w w') : Lib.BuilderAtF T e B b p bs w' := by
  obtain ⟨h1, v, h2, ⟨h3, h4⟩, h5⟩ := h
  refine ⟨h1, v, (hb.block b (lt_of_some h2)).trans h2, ⟨h3, ?_⟩, h5⟩
  rcases h4 with h4 | ⟨g, cap, cur, fz, hv, hg, hh, hr⟩
  · exact Or.inl h4
  · exact Or.inr ⟨g, cap, cur, fz, hv, hg, (hb.block g (lt_of_some hh)).trans hh, hr⟩

theorem isBuilderF_below {T e B b : Nat} {bs : List Value} {w w' : World} (h : Lib.IsBuilderF T e B b bs w) (hb : Below w.heap.size w w') : Lib.IsBuilderF T e B b bs w' := by
  rcases h with h | h
  · exact Or.inl (builderAtF_below h hb)
  · exact Or.inr (builderAtF_below h hb)

theorem size_mkB (l : List UInt8) : (ByteArray.mk l.toArray).size = l.length := by simp [ByteArray.size]

theorem ba_append (a b : List UInt8) : (ByteArray.mk a.toArray) ++ (ByteArray.mk b.toArray) = ByteArray.mk (a ++ b).toArray := by
  apply ByteArray.ext
  simp

/-- A bound above all numbers that a call has to write. -/
def Cap : Nat := 4294967296 ^ 10

theorem cap_small {n : Nat} (h : n < 1000000000) : n < Cap := Nat.lt_of_lt_of_le h (by unfold Cap; decide)
theorem cap_ten : Cap < 10 ^ 97 := by unfold Cap; decide
theorem ten_cap : 10 ^ 96 < Cap := by unfold Cap; decide

theorem dec_len_le (k : Nat) : ∀ n, n < 10 ^ k → 0 < k → (Lib.decDigits n).length ≤ k := by
  induction k with
  | zero => intro n _ h; omega
  | succ k ih =>
    intro n hn _
    by_cases h : n < 10
    · rw [Lib.decDigits, dif_pos h]; simp
    · have hk : 0 < k := by
        rcases Nat.eq_zero_or_pos k with h0 | h0
        · subst h0; simp at hn; omega
        · exact h0
      have h1 := ih (n / 10) (by rw [Nat.pow_succ] at hn; omega) hk
      rw [Lib.decDigits, dif_neg h]
      simp
      omega

theorem dec_pos (n : Nat) : 0 < (Lib.decDigits n).length := by
  rw [Lib.decDigits]; split <;> simp

theorem dec_cap {n : Nat} (h : n < Cap) : (Lib.decDigits n).length ≤ 97 := dec_len_le 97 n (Nat.lt_trans h cap_ten) (by omega)

theorem decDigits_len {n : Nat} (hn : n < 18446744073709551616) : 1 ≤ (Lib.decDigits n).length ∧ (Lib.decDigits n).length ≤ 20 :=
  ⟨dec_pos n, dec_len_le 20 n (Nat.lt_trans hn (by decide)) (by omega)⟩

theorem itoa_cap {z : Int} (hz : z.natAbs < Cap) : (Lib.itoa z).length ≤ 98 := by
  unfold Lib.itoa
  split
  · have := dec_cap hz; simp; omega
  · have e : z.toNat = z.natAbs := by omega
    rw [e]
    have := dec_cap hz; omega

theorem itoa_len {z : Int} (hz : z.natAbs < 1000000000) : (Lib.itoa z).length ≤ 21 := by
  unfold Lib.itoa
  split
  · have := (decDigits_len (n := z.natAbs) (by omega)).2; simp; omega
  · have := (decDigits_len (n := z.toNat) (by omega)).2; omega

/-- The last k digits of r. -/
def padL : Nat → Nat → List UInt8
  | 0, _ => []
  | k + 1, r => padL k (r / 10) ++ [UInt8.ofNat (48 + r % 10)]

theorem dec_pad (q : Nat) (hq : q ≠ 0) (k : Nat) : ∀ r, r < 10 ^ k → Lib.decDigits (q * 10 ^ k + r) = Lib.decDigits q ++ padL k r := by
  induction k with
  | zero => intro r hr; have h0 : r = 0 := by simpa using hr
            subst h0; simp [padL]
  | succ k ih =>
    intro r hr
    have hr2 : r / 10 < 10 ^ k := by rw [Nat.pow_succ] at hr; omega
    have ih2 := ih (r / 10) hr2
    clear ih
    have hp : 0 < 10 ^ k := Nat.pow_pos (by omega)
    have hq1 : 10 ^ k ≤ q * 10 ^ k := Nat.le_mul_of_pos_left _ (Nat.pos_of_ne_zero hq)
    have e : q * 10 ^ (k + 1) = q * 10 ^ k * 10 := by rw [Nat.pow_succ, Nat.mul_assoc]
    rw [e]
    generalize q * 10 ^ k = X at *
    generalize 10 ^ k = Y at *
    rw [Lib.decDigits, dif_neg (by omega), show (X * 10 + r) / 10 = X + r / 10 by omega, show (X * 10 + r) % 10 = r % 10 by omega, ih2, padL, List.append_assoc]

theorem padL_zero (k : Nat) : padL k 0 = List.replicate k 48 := by
  induction k with
  | zero => rfl
  | succ k ih => rw [padL, Nat.zero_div, ih, List.replicate_succ']; rfl

theorem padL_eq (k : Nat) : ∀ r, 0 < k → r < 10 ^ k → padL k r = List.replicate (k - (Lib.decDigits r).length) 48 ++ Lib.decDigits r := by
  induction k with
  | zero => intro r h; omega
  | succ k ih =>
    intro r _ hr
    by_cases h : r < 10
    · rw [Lib.decDigits, dif_pos h, padL, show r / 10 = 0 by omega, padL_zero, show r % 10 = r by omega]
      simp
    · have hk : 0 < k := by
        rcases Nat.eq_zero_or_pos k with h0 | h0
        · subst h0; simp at hr; omega
        · exact h0
      have hr2 : r / 10 < 10 ^ k := by rw [Nat.pow_succ] at hr; omega
      rw [padL, ih (r / 10) hk hr2, Lib.decDigits.eq_1 r, dif_neg h, List.append_assoc, List.length_append]
      have e : k + 1 - ((Lib.decDigits (r / 10)).length + [UInt8.ofNat (48 + r % 10)].length) = k - (Lib.decDigits (r / 10)).length := by simp
      rw [e]

/-- What is written of the pieces of nine digits, the least first. -/
def dtext (l : List Nat) : List UInt8 := if l = [] then [] else Lib.decDigits (pval l)

theorem dtext_one (d : Nat) : dtext [d] = Lib.decDigits d := by simp [dtext, pval]

theorem dtext_cons (d : Nat) (l : List Nat) (hd : d < 1000000000) (hl : l ≠ []) (hp : pval l ≠ 0) : dtext (d :: l) = dtext l ++ (List.replicate (9 - (Lib.decDigits d).length) 48 ++ Lib.decDigits d) := by
  have h1 := dec_pad (pval l) hp 9 d (by omega)
  have h2 := padL_eq 9 d (by omega) (by omega)
  rw [dtext, if_neg (by simp), dtext, if_neg hl, ← h2, ← h1, pval, Nat.add_comm, Nat.mul_comm]

theorem pval_pos : ∀ (l : List Nat) (k : Nat), l.length = k + 1 → l.getD k 0 ≠ 0 → pval l ≠ 0 := by
  intro l
  induction l with
  | nil => intro k hk; simp at hk
  | cons c l ih =>
    intro k hk h0
    cases k with
    | zero => simp at h0; simp [pval]; omega
    | succ k => have := ih k (by simpa using hk) (by simpa using h0); simp only [pval]; omega

theorem pval_drop {ps : List Nat} (hl : ∀ k, ps.length = k + 1 → ps.getD k 0 ≠ 0) (k : Nat) (hk : k < ps.length) : pval (ps.drop k) ≠ 0 := by
  obtain ⟨m, hm⟩ : ∃ m, ps.length = m + 1 := ⟨ps.length - 1, by omega⟩
  refine pval_pos (ps.drop k) (m - k) (by simp; omega) ?_
  have := hl m hm
  rw [List.getD_eq_getElem?_getD] at this ⊢
  rw [List.getElem?_drop, show k + (m - k) = m by omega]
  exact this

theorem drop_getD {ps : List Nat} {k : Nat} (hk : k < ps.length) : ps.drop k = ps.getD k 0 :: ps.drop (k + 1) := by
  rw [List.drop_eq_getElem_cons hk]
  simp [hk]

theorem dtext_drop {ps : List Nat} (hps : ∀ p ∈ ps, p < 1000000000) (hl : ∀ k, ps.length = k + 1 → ps.getD k 0 ≠ 0) (k : Nat) (hk : k + 1 < ps.length) :
    dtext (ps.drop k) = dtext (ps.drop (k + 1)) ++ (List.replicate (9 - (Lib.decDigits (ps.getD k 0)).length) 48 ++ Lib.decDigits (ps.getD k 0)) := by
  have hm : ps.getD k 0 < 1000000000 := by
    rw [List.getD_eq_getElem?_getD, List.getElem?_eq_getElem (by omega)]
    exact hps _ (List.getElem_mem _)
  rw [drop_getD (by omega)]
  exact dtext_cons _ _ hm (by intro e; have := congrArg List.length e; simp at this; omega) (pval_drop hl _ hk)

theorem dtext_last {ps : List Nat} (k : Nat) (hk : k + 1 = ps.length) : dtext (ps.drop k) = Lib.decDigits (ps.getD k 0) ∧ dtext (ps.drop (k + 1)) = [] := by
  rw [drop_getD (by omega), List.drop_of_length_le (by omega)]
  exact ⟨dtext_one _, rfl⟩

theorem getD_lt9 {ps : List Nat} (hps : ∀ p ∈ ps, p < 1000000000) (k : Nat) (hk : k < ps.length) : ps.getD k 0 < 1000000000 := by
  rw [List.getD_eq_getElem?_getD, List.getElem?_eq_getElem hk]
  exact hps _ (List.getElem_mem _)

theorem repeat_nought (c : Nat) : Lib.repeatL [48] c = List.replicate c 48 := by
  induction c with
  | zero => rfl
  | succ c ih => rw [Lib.repeatL, ih, List.replicate_succ]; rfl

theorem byteCells_str (a b : List UInt8) : Lib.byteCells a ++ Lib.strCells ⟨b.toArray⟩ = Lib.byteCells (a ++ b) := by simp [Lib.byteCells, Lib.strCells]

theorem dtext_len {ps : List Nat} (hps : ∀ p ∈ ps, p < 1000000000) (hl : ∀ k, ps.length = k + 1 → ps.getD k 0 ≠ 0) (n : Nat) : ∀ k, ps.length = n + k → (dtext (ps.drop n)).length ≤ 9 * k := by
  intro k
  induction k generalizing n with
  | zero => intro h; rw [List.drop_of_length_le (by omega)]; simp [dtext]
  | succ k ih =>
    intro h
    have hd := dec_len_le 9 _ (getD_lt9 hps n (by omega)) (by omega)
    by_cases hk : k = 0
    · subst hk; rw [(dtext_last n (by omega)).1]; omega
    · rw [dtext_drop hps hl n (by omega)]
      have := ih (n + 1) (by omega)
      rw [List.length_append, List.length_append, List.length_replicate]
      omega

set_option maxHeartbeats 2000000 in
set_option maxRecDepth 100000 in
theorem natString_one (w : World) (v : Value) (n : Nat) (hv : NatV w v n) (hn0 : n ≠ 0) (hn : n < Cap) (htab : Tab w) :
    Calls Tryz.prog 81 #[v] w fun e w' => e = .returned (.string ⟨(Lib.decDigits n).toArray⟩) ∧ Below w.heap.size w w' := by
  go_enter Tryz.func81, Tryz.ntmps81
  go_wp2_with fail
  refine (isZero_no _ _ _ hv hn0).mono ?_
  rintro e w0 ⟨rfl, rfl⟩
  go_wp2_with fail
  refine (pieces_any _ _ n 10 hv hn0 hn (by omega)).mono ?_
  rintro e w1 ⟨x, ps, rfl, hx, hps, hpv, hlast, hpl, hb1⟩
  obtain ⟨ao, cap, rfl, hc, hr⟩ := hx
  have hpne : ps ≠ [] := by rintro rfl; exact hn0 hpv.symm
  obtain ⟨g, off, rfl, hg, hrow⟩ := hr hpne
  have hp0 : 0 < ps.length := List.length_pos_iff.2 hpne
  have HE : Hid (dtext ps = Lib.decDigits n) := by rw [Hid, dtext, if_neg hpne, hpv]
  have HP := hide hps
  have HL := hide hlast
  have htab1 := htab.below hb1
  clear hr hpv hc hps hlast hn htab
  have hbld : Lib.IsBuilderF 140 5 w1.heap.size w1.heap.size (Lib.byteCells []) (w1.alloc (.cells #[.pointer none, .slice none 0 0] 140)) := by
    refine Or.inl ⟨Nat.le_refl _, .slice none 0 0, heap_alloc_new _ _, ?_, by simp [Value.ownBlock]⟩
    exact World.ownsRowF_of (World.ownsRow_nil _ _ _ _)
  have hbW : Below w1.heap.size w1 (w1.alloc (.cells #[.pointer none, .slice none 0 0] 140)) := (Below.refl _ _).alloc (Nat.le_refl _) _
  go_wp2
  go_loopw [5] (fun iv wr => ∃ k : Nat, k ≤ ps.length ∧ iv = .int .i64 ((k : Int) - 1) ∧ Lib.IsBuilderF 140 5 w1.heap.size w1.heap.size (Lib.byteCells (dtext (ps.drop k))) wr ∧ Below w1.heap.size w1 wr) (fun iv _ => (intOf iv + 1).toNat)
  case atStart => exact ⟨ps.length, Nat.le_refl _, rfl, by rw [List.drop_of_length_le (Nat.le_refl _)]; exact hbld, hbW⟩
  case round =>
    obtain ⟨k, hk, rfl, hb, hbel⟩ := hrel
    cases k with
    | zero =>
      rw [List.drop_zero, HE.out] at hb
      have hbs := hbel.size
      go_wp2_with fail
      refine (Tryz.Builder_String_any_k w1.heap.size w1.heap.size _ _ hb hbs).mono ?_
      rintro e w2 ⟨rfl, _, hb2, _⟩
      go_wp2
      go_ret
      exact ⟨rfl, hb1.trans ((hbel.trans hb2).mono hb1.size)⟩
    | succ k =>
      have h0' : wr.cell? ⟨g, off + k, none⟩ = some (.int .u32 (ps.getD k 0 : Nat)) := (hbel.cell (p := ⟨g, off + k, none⟩) hg).trans (hrow k (by omega))
      have htab2 := htab1.below hbel
      have hd9 := getD_lt9 HP.out k (by omega)
      have HTL := hide (dtext_len HP.out HL.out (k + 1) (ps.length - (k + 1)) (by omega))
      have HST : Hid (if k + 1 = ps.length then dtext (ps.drop k) = Lib.decDigits (ps.getD k 0) ∧ dtext (ps.drop (k + 1)) = [] else dtext (ps.drop k) = dtext (ps.drop (k + 1)) ++ (List.replicate (9 - (Lib.decDigits (ps.getD k 0)).length) 48 ++ Lib.decDigits (ps.getD k 0))) := by
        rw [Hid]
        split
        · exact dtext_last k (by omega)
        · exact dtext_drop HP.out HL.out k (by omega)
      generalize ps.getD k 0 = d at *
      have hdl := dec_len_le 9 d hd9 (by omega)
      go_wp2_with fail
      refine (formatUint_any d (by omega) _ htab2).mono ?_
      rintro e w2 ⟨rfl, hb2⟩
      have hbB := isBuilderF_below hb hb2
      have hbel2 : Below w1.heap.size w1 w2 := hbel.trans (hb2.mono hbel.size)
      have hsz2 := size_mkB (Lib.decDigits d)
      have hbs2 := hbel2.size
      clear hb hb2
      by_cases hlastk : k + 1 = ps.length
      · have hst := HST.out
        rw [if_pos hlastk] at hst
        rw [hst.2] at hbB
        have HA := hide hst.1
        have HSZ := hide hsz2
        clear hst hsz2
        go_wp2_with fail
        refine (writeString_k w1.heap.size w1.heap.size (Lib.byteCells []) _ _ hbB (by rw [HSZ.out]; simp [Lib.byteCells]; omega) hbs2).mono ?_
        rintro e w3 ⟨rfl, hb3, hbel3, _⟩
        have hb3' : Lib.IsBuilderF 140 5 w1.heap.size w1.heap.size (Lib.byteCells (dtext (ps.drop k))) w3 := by
          right
          rw [byteCells_str, List.nil_append, ← HA.out] at hb3
          exact hb3
        clear hb3 hbB
        go_wp2
        go_roundw
        case rel => exact ⟨k, by omega, by go_num, hb3', hbel2.trans hbel3⟩
        case measure => simp [intOf]; omega
      · have hst := HST.out
        rw [if_neg hlastk] at hst
        have HA := hide hst
        clear hst
        generalize hB : ByteArray.mk (Lib.decDigits d).toArray = sB at *
        generalize hL : (Lib.decDigits d).length = L at *
        have HB := hide hB
        clear hB
        go_wp2_with fail
        have eN : (9 : Int) - (L : Int) = ((9 - L : Nat) : Int) := by omega
        rw [eN]
        refine (Tryz.strings_Repeat ⟨#[48]⟩ (9 - L) w2 (by omega) (by rw [show (ByteArray.mk #[48]).size = 1 from rfl]; omega)).mono ?_
        rintro e w3 ⟨rfl, hb3⟩
        have hbC := isBuilderF_below hbB hb3
        have hbel3 : Below w1.heap.size w1 w3 := hbel2.trans (hb3.mono hbel2.size)
        have hbs3 := hbel3.size
        have hsz3 : (ByteArray.mk (Lib.repeatL (ByteArray.mk #[48]).data.toList (9 - L)).toArray).size = 9 - L := by
          rw [size_mkB, show (ByteArray.mk #[48]).data.toList = [48] from rfl, repeat_nought, List.length_replicate]
        have HSZ3 := hide hsz3
        clear hsz3 hbB hb3
        go_wp2_with fail
        refine (writeString_k w1.heap.size w1.heap.size (Lib.byteCells (dtext (ps.drop (k + 1)))) _ _ hbC (by rw [HSZ3.out]; have := HTL.out; simp [Lib.byteCells]; omega) hbs3).mono ?_
        rintro e w4 ⟨rfl, hb4, hbel4, _⟩
        rw [byteCells_str, repeat_nought] at hb4
        have hb4' : Lib.IsBuilderF 140 5 w1.heap.size w1.heap.size (Lib.byteCells (dtext (ps.drop (k + 1)) ++ List.replicate (9 - L) 48)) w4 := Or.inr hb4
        have hbel4' := hbel3.trans hbel4
        have hbs4 := hbel4'.size
        clear hb4 hbel4 hbel3 hbC hbel2
        go_wp2_with fail
        refine (writeString_k w1.heap.size w1.heap.size _ sB _ hb4' (by have := HTL.out; simp [Lib.byteCells]; omega) hbs4).mono ?_
        rintro e w5 ⟨rfl, hb5, hbel5, _⟩
        have hb5' : Lib.IsBuilderF 140 5 w1.heap.size w1.heap.size (Lib.byteCells (dtext (ps.drop k))) w5 := by
          right
          rw [← HB.out, byteCells_str, List.append_assoc, ← HA.out] at hb5
          exact hb5
        clear hb5 hb4'
        go_wp2
        go_roundw
        case rel => exact ⟨k, by omega, by go_num, hb5', hbel4'.trans hbel5⟩
        case measure => simp [intOf]

set_option maxHeartbeats 400000 in
set_option maxRecDepth 100000 in
theorem natString_zero (w : World) (v : Value) (hv : NatV w v 0) :
    Calls Tryz.prog 81 #[v] w fun e w' => e = .returned (.string ⟨(Lib.decDigits 0).toArray⟩) ∧ Below w.heap.size w w' := by
  go_enter Tryz.func81, Tryz.ntmps81
  go_wp2_with fail
  refine (isZero_yes _ _ hv).mono ?_
  rintro e w0 ⟨rfl, rfl⟩
  go_wp2
  go_ret
  refine ⟨?_, Below.refl _ _⟩
  rw [Lib.decDigits_one (by omega)]
  rfl

theorem natString_any (w : World) (v : Value) (n : Nat) (hv : NatV w v n) (hn : n < Cap) (htab : Tab w) :
    Calls Tryz.prog 81 #[v] w fun e w' => e = .returned (.string ⟨(Lib.decDigits n).toArray⟩) ∧ Below w.heap.size w w' := by
  by_cases h0 : n = 0
  · subst h0; exact natString_zero w v hv
  · exact natString_one w v n hv h0 hn htab

set_option maxHeartbeats 1000000 in
set_option maxRecDepth 100000 in
theorem wholeString_any (w : World) (x : Value) (z : Int) (hx : WholeV w x z) (hz : z.natAbs < Cap) (htab : Tab w) :
    Calls Tryz.prog 80 #[x] w fun e w' => e = .returned (.string ⟨(Lib.itoa z).toArray⟩) ∧ Below w.heap.size w w' := by
  obtain ⟨b, ao, l, cap, rfl, hv, hb⟩ := hx.parts
  have hbW : Below w.heap.size w (w.alloc (.cells #[.bool b, .slice ao l cap] 101)) := (Below.refl _ _).alloc (Nat.le_refl _) _
  cases b with
  | true =>
    have hz0 : z < 0 := by have := hb.out; simp at this; omega
    have hdl := dec_cap hz
    have HI : Hid (ByteArray.mk #[45] ++ ByteArray.mk (Lib.decDigits z.natAbs).toArray = ByteArray.mk (Lib.itoa z).toArray) := by
      rw [Hid, Lib.itoa, if_pos hz0]
      exact ba_append [45] _
    clear hz0
    go_enter Tryz.func80, Tryz.ntmps80
    go_wp2_with fail
    refine (natString_any _ _ _ (hv.alloc _) hz (htab.below hbW)).mono ?_
    rintro e w1 ⟨rfl, hb1⟩
    generalize Lib.decDigits z.natAbs = dd at *
    go_wp2
    go_ret
    exact ⟨by rw [← HI.out]; rfl, hbW.trans (hb1.mono hbW.size)⟩
  | false =>
    have hz0 : ¬ z < 0 := by have := hb.out; simp at this; omega
    have HI : Hid (Lib.itoa z = Lib.decDigits z.natAbs) := by
      rw [Hid, Lib.itoa, if_neg hz0]
      congr 1
      omega
    go_enter Tryz.func80, Tryz.ntmps80
    go_wp2_with fail
    refine (natString_any _ _ _ (hv.alloc _) hz (htab.below hbW)).mono ?_
    rintro e w1 ⟨rfl, hb1⟩
    go_wp2
    go_ret
    exact ⟨by rw [HI.out]; rfl, hbW.trans (hb1.mono hbW.size)⟩

/-- How a fraction p / q in lowest terms is written. -/
def fracText (p : Int) (q : Nat) : List UInt8 := if q = 1 then Lib.itoa p else Lib.itoa p ++ ([47] ++ Lib.decDigits q)

set_option maxHeartbeats 1000000 in
set_option maxRecDepth 100000 in
theorem fracString_any (w : World) (x : Value) (p : Int) (q : Nat) (hx : FracV w x p q) (hp : p.natAbs < Cap) (hqk : q < Cap) (htab : Tab w) :
    Calls Tryz.prog 57 #[x] w fun e w' => e = .returned (.string ⟨(fracText p q).toArray⟩) ∧ Below w.heap.size w w' := by
  have h0 := hx
  obtain ⟨b, ao, l, cap, ao', l', cap', rfl, hv, hb, hu, hq, hg⟩ := hx.parts
  have hboxP : Box3 (w.alloc (.cells #[.bool b, .slice ao l cap, .slice ao' l' cap'] 103)) w.heap.size (.bool b) (.slice ao l cap) (.slice ao' l' cap') := Box3.new _ _ _ _ _
  have hbW : Below w.heap.size w (w.alloc (.cells #[.bool b, .slice ao l cap, .slice ao' l' cap'] 103)) := (Below.refl _ _).alloc (Nat.le_refl _) _
  have hx1 : WholeV w (.agg #[.bool b, .slice ao l cap]) p := ⟨b, _, rfl, hv, hb⟩
  by_cases h1 : q = 1
  · subst h1
    have HT : Hid (fracText p 1 = Lib.itoa p) := by rw [Hid, fracText, if_pos rfl]
    go_enter Tryz.func57, Tryz.ntmps57
    go_wp2_with fail
    refine (isWhole_yes _ _ p (h0.alloc _)).mono ?_
    rintro e w1 ⟨rfl, hb1⟩
    have hx2 := (hx1.alloc (.cells #[.bool b, .slice ao l cap, .slice ao' l' cap'] 103)).below hb1
    have hboxP1 := hboxP.below hb1
    obtain ⟨p0, p1, p2, p3, p4, p5, p6⟩ := hboxP1
    have hbA : Below w.heap.size w w1 := hbW.trans (hb1.mono hbW.size)
    clear hb1 hboxP
    go_wp2_with fail
    refine (wholeString_any _ _ p hx2 hp (htab.below hbA)).mono ?_
    rintro e w2 ⟨rfl, hb2⟩
    go_wp2
    go_ret
    exact ⟨by rw [HT.out]; rfl, hbA.trans (hb2.mono hbA.size)⟩
  · rw [(lowN_ne hq h1).1] at hu
    have hl1 := itoa_cap hp
    have hl2 := dec_cap hqk
    have HT : Hid (ByteArray.mk (Lib.itoa p).toArray ++ ByteArray.mk #[47] ++ ByteArray.mk (Lib.decDigits q).toArray = ByteArray.mk (fracText p q).toArray) := by
      rw [Hid, fracText, if_neg h1]
      have e1 : ByteArray.mk (Lib.itoa p).toArray ++ ByteArray.mk #[47] = ByteArray.mk (Lib.itoa p ++ [47]).toArray := ba_append _ [47]
      rw [e1, ba_append, List.append_assoc]
    go_enter Tryz.func57, Tryz.ntmps57
    go_wp2_with fail
    refine (isWhole_no _ _ p q (h0.alloc _) h1).mono ?_
    rintro e w1 ⟨rfl, hb1⟩
    have hx2 := (hx1.alloc (.cells #[.bool b, .slice ao l cap, .slice ao' l' cap'] 103)).below hb1
    have hu2 := (hu.alloc (.cells #[.bool b, .slice ao l cap, .slice ao' l' cap'] 103)).below hb1
    have hboxP1 := hboxP.below hb1
    have hboxP2 := hboxP1
    obtain ⟨p0, p1, p2, p3, p4, p5, p6⟩ := hboxP2
    have hbA : Below w.heap.size w w1 := hbW.trans (hb1.mono hbW.size)
    have htab1 := htab.below hbA
    have htab1' : Tab w1.drew := htab1
    clear hb1 hboxP
    go_wp2
    go_region_held (fun w' => w'.cell? ⟨w.heap.size, 0, none⟩ = some (.bool b) ∧ w'.cell? ⟨w.heap.size, 1, none⟩ = some (.slice ao l cap) ∧ w'.cell? ⟨w.heap.size, 2, none⟩ = some (.slice ao' l' cap')) (go_keep) (first | (go_at_call 81; refine (natString_any _ _ q ((hu2.drew).below hbB) hqk (htab1'.below hbB)).mono ?_; rintro e wC ⟨rfl, hbC⟩; have hP3 := (hboxP1.drew.below hbB).below hbC; obtain ⟨s0, s1, s2, s3, s4, s5, s6⟩ := hP3) | (go_at_call 80; refine (wholeString_any _ _ p (by exact hx2.drewN 1) hp (by exact htab1')).mono ?_; rintro e wB ⟨rfl, hbB⟩; have hP2 := hboxP1.drew.below hbB; obtain ⟨r0, r1, r2, r3, r4, r5, r6⟩ := hP2))
    all_goals go_wp2
    all_goals go_ret
    all_goals
      have hbB' : Below w.heap.size w wB := hbA.trans ((below_drew hbB).mono hbA.size)
      exact ⟨by rw [← HT.out]; rfl, hbB'.trans (hbC.mono hbB'.size)⟩
end Go.Proofs.YtnhfdcfnojnofaaGreatDoor

/-
  Numbers read: whole.Parse and fraction.Parse where the text is a number's.
-/
namespace Go.Proofs.YtnhfdcfnojnofaaGreatDoor
open Go.RowKit

theorem size_mk (l : List UInt8) : (ByteArray.mk l.toArray).size = l.length := by simp [ByteArray.size]

set_option maxRecDepth 100000 in
set_option maxHeartbeats 1000000 in
theorem wholeParse_yes (s : ByteArray) (m : Nat) (w : World) (hm : m ≤ 1000000000) (h0 : 0 < (Lib.trimPrefix s.data.toList [45]).length) (h1 : (Lib.trimPrefix s.data.toList [45]).length ≤ m) (h2 : allDig (Lib.trimPrefix s.data.toList [45]) = true) :
    Calls Tryz.prog 74 #[.string s, .int .i64 (m : Nat)] w fun e w' => ∃ x, e = .returned (.tuple #[x, .bool true]) ∧ WholeV w' x (sg (Lib.hasPrefix s.data.toList [45]) (decVal (Lib.trimPrefix s.data.toList [45]))) ∧ Below w.heap.size w w' := by
  have hbox : Box2 (w.alloc (.cells #[.bool false, .slice none 0 0] 101)) w.heap.size (.bool false) (.slice none 0 0) := Box2.new _ _ _ _
  have hbW : Below w.heap.size w (w.alloc (.cells #[.bool false, .slice none 0 0] 101)) := (Below.refl _ _).alloc (Nat.le_refl _) _
  have hcp := Tryz.strings_CutPrefix s ⟨#[45]⟩ (w.alloc (.cells #[.bool false, .slice none 0 0] 101))
  have e45 : (ByteArray.mk #[45]).data.toList = [45] := rfl
  rw [e45] at hcp
  generalize Lib.trimPrefix s.data.toList [45] = d at *
  generalize Lib.hasPrefix s.data.toList [45] = neg at *
  have HCP := hide hcp
  have hsz := size_mk d
  have HSZ := hide hsz
  clear hcp e45 hsz
  go_enter Tryz.func74, Tryz.ntmps74
  go_wp2_with fail
  refine HCP.out.mono ?_
  rintro e w1 ⟨rfl, rfl⟩
  go_wp2_with fail
  refine (natParse_yes ⟨d.toArray⟩ m _ hm (by rw [HSZ.out]; exact h0) (by rw [HSZ.out]; exact h1) (by simpa using h2)).mono ?_
  rintro e w2 ⟨v, rfl, hv, hbv⟩
  have hv' : NatV w2 v (decVal d) := by simpa using hv
  have hboxA := hbox.below hbv
  have hbA : Below w.heap.size w w2 := hbW.trans (hbv.mono hbW.size)
  clear hv hbv
  go_wp2_with fail
  refine (signed_any _ _ _ _ hv').mono ?_
  rintro e w3 ⟨x, rfl, hx, hbx⟩
  obtain ⟨b2, a2, l2, k2, rfl, hv2, hb2⟩ := hx.parts
  have hboxB := hboxA.below hbx
  have hbB : Below w.heap.size w w3 := hbA.trans (hbx.mono hbA.size)
  obtain ⟨c0, c1, f0, f1, g0⟩ := hboxB
  clear hboxA hbx hbox
  go_wp2
  exact bodyPost_ret (v := .tuple #[.agg #[.bool b2, .slice a2 l2 k2], .bool true]) (by simp [results, Tryz.results74, go_sem, c0, c1]) rfl ⟨_, rfl, wholeV_boxed hv2 hb2 c0 c1,
    (hbB.setCell (by simp) _).setCell (by simp) _⟩

set_option maxRecDepth 100000 in
set_option maxHeartbeats 2000000 in
theorem fracParse_frac (K : Nat) (hK : K ≤ 1073741822) (hO : OverOK K) (s : ByteArray) (m : Nat) (w : World) (mx : Int) (hmx : w.cell? ⟨1, 0, none⟩ = some (.int .i64 mx)) (h1w : 1 < w.heap.size) (hm : m ≤ 1000000000) (hs : s.size < 4294967281) (a b : List UInt8) (hcut : Lib.cut s.data.toList [47] = (a, b, true))
    (ha0 : 0 < (Lib.trimPrefix a [45]).length) (ha1 : (Lib.trimPrefix a [45]).length ≤ m) (ha2 : allDig (Lib.trimPrefix a [45]) = true) (hb0 : 0 < b.length) (hb1 : b.length ≤ m) (hb2 : allDig b = true) (hbn : decVal b ≠ 0)
    (hz : decVal (Lib.trimPrefix a [45]) < 4294967296 ^ K) (hn : decVal b < 4294967296 ^ K) :
    Calls Tryz.prog 56 #[.string s, .int .i64 (m : Nat)] w fun e w' => ∃ x z, z = sg (Lib.hasPrefix a [45]) (decVal (Lib.trimPrefix a [45])) ∧ e = .returned (.tuple #[x, .bool true]) ∧ FracV w' x (z / (Nat.gcd z.natAbs (decVal b) : Int)) (decVal b / Nat.gcd z.natAbs (decVal b)) ∧ Below w.heap.size w w' := by
  have hbox : Box3 (w.alloc (.cells #[.bool false, .slice none 0 0, .slice none 0 0] 103)) w.heap.size (.bool false) (.slice none 0 0) (.slice none 0 0) := Box3.new _ _ _ _ _
  have hbW : Below w.heap.size w (w.alloc (.cells #[.bool false, .slice none 0 0, .slice none 0 0] 103)) := (Below.refl _ _).alloc (Nat.le_refl _) _
  have hmx2 : (w.alloc (.cells #[.bool false, .slice none 0 0, .slice none 0 0] 103)).cell? ⟨1, 0, none⟩ = some (.int .i64 mx) := (hbW.cell (p := ⟨1, 0, none⟩) h1w).trans hmx
  have hcp := Tryz.strings_Cut s ⟨#[47]⟩ mx (w.alloc (.cells #[.bool false, .slice none 0 0, .slice none 0 0] 103)) hs hmx2
  have e47 : (ByteArray.mk #[47]).data.toList = [47] := rfl
  rw [e47, hcut] at hcp
  have HCP := hide hcp
  have hp := fun W => wholeParse_yes ⟨a.toArray⟩ m W hm (by simpa using ha0) (by simpa using ha1) (by simpa using ha2)
  have ea : (ByteArray.mk a.toArray).data.toList = a := by simp
  rw [ea] at hp
  have HP := hide hp
  have hq := fun W => natParse_yes ⟨b.toArray⟩ m W hm (by rw [size_mk]; exact hb0) (by rw [size_mk]; exact hb1) (by simpa using hb2)
  have eb : (ByteArray.mk b.toArray).data.toList = b := by simp
  rw [eb] at hq
  have HQ := hide hq
  have hzz : (sg (Lib.hasPrefix a [45]) (decVal (Lib.trimPrefix a [45]))).natAbs < 4294967296 ^ K := by rw [sg_abs]; exact hz
  generalize sg (Lib.hasPrefix a [45]) (decVal (Lib.trimPrefix a [45])) = z at *
  generalize decVal b = n at *
  clear hcp hp hq ea eb e47 hcut ha0 ha1 ha2 hb0 hb1 hb2 hz hmx hmx2 hs
  go_enter Tryz.func56, Tryz.ntmps56
  go_wp2_with fail
  refine HCP.out.mono ?_
  rintro e w1 ⟨rfl, q1, rfl⟩
  go_wp2_with fail
  refine (HP.out _).mono ?_
  rintro e w2 ⟨x, rfl, hx, hbx⟩
  obtain ⟨b2, a2, l2, k2, rfl, hv2, hbb2⟩ := hx.parts
  have hboxA := (hbox.drewN q1).below hbx
  have hbA : Below w.heap.size w w2 := hbW.trans ((below_ofDrewN hbx).mono hbW.size)
  have hboxB := hboxA.alloc (.cells #[.bool b2, .slice a2 l2 k2] 101)
  have hxB := hx.alloc (.cells #[.bool b2, .slice a2 l2 k2] 101)
  have hbB : Below w.heap.size w (w2.alloc (.cells #[.bool b2, .slice a2 l2 k2] 101)) := hbA.alloc hbA.size _
  have hbox5 : Box2 (w2.alloc (.cells #[.bool b2, .slice a2 l2 k2] 101)) w2.heap.size (.bool b2) (.slice a2 l2 k2) := Box2.new _ _ _ _
  clear hbx hboxA hbox hx hv2 hbW
  go_wp2_with fail
  refine (HQ.out _).mono ?_
  rintro e w3 ⟨v, rfl, hv, hbv⟩
  have hboxC := hboxB.below hbv
  have hxC := hxB.below hbv
  have hbox6 := hbox5.below hbv
  have hbC : Below w.heap.size w w3 := hbB.trans (hbv.mono hbB.size)
  clear hbv hboxB hxB hbox5 hbB
  obtain ⟨i0, i1, i2, i3, i4⟩ := hbox6
  go_wp2_with fail
  refine (isZero_no _ _ _ hv hbn).mono ?_
  rintro e w4 ⟨rfl, rfl⟩
  go_wp2_with fail
  refine (reduced_any K hK hO _ _ _ z n hxC hv hbn hzz hn).mono ?_
  rintro e w5 ⟨y, rfl, hy, hby⟩
  obtain ⟨b3, a5, l5, k5, a6, l6, k6, rfl, hr1, hr2, hr3, hr4, hr5⟩ := hy.parts
  have hboxD := hboxC.below hby
  have hbD : Below w.heap.size w w5 := hbC.trans (hby.mono hbC.size)
  obtain ⟨c0, c1, c2, f0, f1, f2, g0⟩ := hboxD
  clear hby hboxC hxC i0 i1 i2 i3 i4 hy
  go_wp2
  exact bodyPost_ret (v := .tuple #[.agg #[.bool b3, .slice a5 l5 k5, .slice a6 l6 k6], .bool true]) (by simp [results, Tryz.results56, go_sem, c0, c1, c2]) rfl ⟨_, z, rfl, rfl, fracV_boxed hr1 hr2 hr3 hr4 hr5 c0 c1 c2,
    ((hbD.setCell (by simp) _).setCell (by simp) _).setCell (by simp) _⟩
end Go.Proofs.YtnhfdcfnojnofaaGreatDoor

/-
  What package planes does: the table of operations.
-/
namespace Go.Proofs.YtnhfdcfnojnofaaGreatDoor
open Go.RowKit

def fnV (n : Nat) : Value := .func (.func n) #[] #[]

set_option maxHeartbeats 1000000 in
set_option maxRecDepth 100000 in
theorem find_1 (w : World) :
    Calls Tryz.prog 55 #[.int .i64 1] w fun e w' => e = .returned (.tuple #[.agg #[.int .i64 1, .func (.func 119) #[] #[], .func (.func 120) #[] #[]], .bool true]) ∧ Below w.heap.size w w' := by
  go_enter Tryz.func55, Tryz.ntmps55
  go_wp2
  refine wp_loop_rounds 1 ?_
  rw [rounds_succ]
  go_wp2
  exact bodyPost_ret (v := .tuple #[.agg #[.int .i64 1, .func (.func 119) #[] #[], .func (.func 120) #[] #[]], .bool true]) (by simp [results, Tryz.results55, go_sem]) rfl ⟨rfl, ((((Below.refl w.heap.size w).alloc (Nat.le_refl _) _).alloc (by simp) _).alloc (by simp; omega) _)⟩

set_option maxHeartbeats 1000000 in
set_option maxRecDepth 100000 in
theorem find_2 (w : World) :
    Calls Tryz.prog 55 #[.int .i64 2] w fun e w' => e = .returned (.tuple #[.agg #[.int .i64 2, .func (.func 119) #[] #[], .func (.func 121) #[] #[]], .bool true]) ∧ Below w.heap.size w w' := by
  go_enter Tryz.func55, Tryz.ntmps55
  go_wp2
  refine wp_loop_rounds 2 ?_
  rw [rounds_succ]
  go_wp2
  rw [rounds_succ]
  go_wp2
  exact bodyPost_ret (v := .tuple #[.agg #[.int .i64 2, .func (.func 119) #[] #[], .func (.func 121) #[] #[]], .bool true]) (by simp [results, Tryz.results55, go_sem]) rfl ⟨rfl, (((((Below.refl w.heap.size w).alloc (Nat.le_refl _) _).alloc (by simp) _).alloc (by simp; omega) _).alloc (by simp; omega) _)⟩

set_option maxHeartbeats 1000000 in
set_option maxRecDepth 100000 in
theorem find_3 (w : World) :
    Calls Tryz.prog 55 #[.int .i64 3] w fun e w' => e = .returned (.tuple #[.agg #[.int .i64 3, .func (.func 119) #[] #[], .func (.func 122) #[] #[]], .bool true]) ∧ Below w.heap.size w w' := by
  go_enter Tryz.func55, Tryz.ntmps55
  go_wp2
  refine wp_loop_rounds 3 ?_
  rw [rounds_succ]
  go_wp2
  rw [rounds_succ]
  go_wp2
  rw [rounds_succ]
  go_wp2
  exact bodyPost_ret (v := .tuple #[.agg #[.int .i64 3, .func (.func 119) #[] #[], .func (.func 122) #[] #[]], .bool true]) (by simp [results, Tryz.results55, go_sem]) rfl ⟨rfl, ((((((Below.refl w.heap.size w).alloc (Nat.le_refl _) _).alloc (by simp) _).alloc (by simp; omega) _).alloc (by simp; omega) _).alloc (by simp; omega) _)⟩

set_option maxHeartbeats 1000000 in
set_option maxRecDepth 100000 in
theorem find_4 (w : World) :
    Calls Tryz.prog 55 #[.int .i64 4] w fun e w' => e = .returned (.tuple #[.agg #[.int .i64 4, .func (.func 123) #[] #[], .func (.func 124) #[] #[]], .bool true]) ∧ Below w.heap.size w w' := by
  go_enter Tryz.func55, Tryz.ntmps55
  go_wp2
  refine wp_loop_rounds 4 ?_
  rw [rounds_succ]
  go_wp2
  rw [rounds_succ]
  go_wp2
  rw [rounds_succ]
  go_wp2
  rw [rounds_succ]
  go_wp2
  exact bodyPost_ret (v := .tuple #[.agg #[.int .i64 4, .func (.func 123) #[] #[], .func (.func 124) #[] #[]], .bool true]) (by simp [results, Tryz.results55, go_sem]) rfl ⟨rfl, (((((((Below.refl w.heap.size w).alloc (Nat.le_refl _) _).alloc (by simp) _).alloc (by simp; omega) _).alloc (by simp; omega) _).alloc (by simp; omega) _).alloc (by simp; omega) _)⟩

set_option maxHeartbeats 1000000 in
set_option maxRecDepth 100000 in
theorem find_5 (w : World) :
    Calls Tryz.prog 55 #[.int .i64 5] w fun e w' => e = .returned (.tuple #[.agg #[.int .i64 5, .func (.func 119) #[] #[], .func (.func 125) #[] #[]], .bool true]) ∧ Below w.heap.size w w' := by
  go_enter Tryz.func55, Tryz.ntmps55
  go_wp2
  refine wp_loop_rounds 5 ?_
  rw [rounds_succ]
  go_wp2
  rw [rounds_succ]
  go_wp2
  rw [rounds_succ]
  go_wp2
  rw [rounds_succ]
  go_wp2
  rw [rounds_succ]
  go_wp2
  exact bodyPost_ret (v := .tuple #[.agg #[.int .i64 5, .func (.func 119) #[] #[], .func (.func 125) #[] #[]], .bool true]) (by simp [results, Tryz.results55, go_sem]) rfl ⟨rfl, ((((((((Below.refl w.heap.size w).alloc (Nat.le_refl _) _).alloc (by simp) _).alloc (by simp; omega) _).alloc (by simp; omega) _).alloc (by simp; omega) _).alloc (by simp; omega) _).alloc (by simp; omega) _)⟩

set_option maxHeartbeats 1000000 in
set_option maxRecDepth 100000 in
theorem find_6 (w : World) :
    Calls Tryz.prog 55 #[.int .i64 6] w fun e w' => e = .returned (.tuple #[.agg #[.int .i64 6, .func (.func 119) #[] #[], .func (.func 126) #[] #[]], .bool true]) ∧ Below w.heap.size w w' := by
  go_enter Tryz.func55, Tryz.ntmps55
  go_wp2
  refine wp_loop_rounds 6 ?_
  rw [rounds_succ]
  go_wp2
  rw [rounds_succ]
  go_wp2
  rw [rounds_succ]
  go_wp2
  rw [rounds_succ]
  go_wp2
  rw [rounds_succ]
  go_wp2
  rw [rounds_succ]
  go_wp2
  exact bodyPost_ret (v := .tuple #[.agg #[.int .i64 6, .func (.func 119) #[] #[], .func (.func 126) #[] #[]], .bool true]) (by simp [results, Tryz.results55, go_sem]) rfl ⟨rfl, (((((((((Below.refl w.heap.size w).alloc (Nat.le_refl _) _).alloc (by simp) _).alloc (by simp; omega) _).alloc (by simp; omega) _).alloc (by simp; omega) _).alloc (by simp; omega) _).alloc (by simp; omega) _).alloc (by simp; omega) _)⟩
end Go.Proofs.YtnhfdcfnojnofaaGreatDoor

/-
  What package planes does: the operations' own functions.
-/
namespace Go.Proofs.YtnhfdcfnojnofaaGreatDoor
open Go.RowKit

set_option maxHeartbeats 400000 in
set_option maxRecDepth 100000 in
theorem noFault_any (w : World) (x y : Value) (p r : Int) (q s : Nat) (h : FracV w x p q) (k : FracV w y r s) :
    Calls Tryz.prog 119 #[x, y] w fun e w' => e = .returned (.int .i64 0) ∧ Below w.heap.size w w' := by
  obtain ⟨b, ao, l, cap, ao', l', cap', rfl, _⟩ := h.parts
  obtain ⟨c, bo, m, dap, bo', m', dap', rfl, _⟩ := k.parts
  go_enter Tryz.func119, Tryz.ntmps119
  go_wp2
  go_ret
  first | exact ⟨rfl, Below.refl _ _⟩ | exact ⟨rfl, below2 w _ _⟩

set_option maxHeartbeats 400000 in
set_option maxRecDepth 100000 in
theorem faultIfZero_no (w : World) (x y : Value) (p r : Int) (q s : Nat) (h : FracV w x p q) (k : FracV w y r s) (hr : r ≠ 0) :
    Calls Tryz.prog 123 #[x, y] w fun e w' => e = .returned (.int .i64 0) ∧ Below w.heap.size w w' := by
  have k0 := k
  obtain ⟨b, ao, l, cap, ao', l', cap', rfl, _⟩ := h.parts
  obtain ⟨c, bo, m, dap, bo', m', dap', rfl, _⟩ := k.parts
  have hsg : (r.sign == 0) = false := by
    rcases Int.lt_trichotomy r 0 with h | h | h
    · rw [Int.sign_eq_neg_one_of_neg h]; rfl
    · exact absurd h hr
    · rw [Int.sign_eq_one_of_pos h]; rfl
  go_enter Tryz.func123, Tryz.ntmps123
  go_wp2_with fail
  refine (fsign_any _ _ r s ((k0.alloc _).alloc _)).mono ?_
  rintro e w1 ⟨rfl, hb1⟩
  go_wp2
  go_ret
  exact ⟨rfl, (below2 w _ _).trans (hb1.mono (below2 w _ _).size)⟩

set_option maxHeartbeats 400000 in
set_option maxRecDepth 100000 in
theorem faultIfZero_yes (w : World) (x y : Value) (p : Int) (q s : Nat) (h : FracV w x p q) (k : FracV w y 0 s) :
    Calls Tryz.prog 123 #[x, y] w fun e w' => e = .returned (.int .i64 3) ∧ Below w.heap.size w w' := by
  have k0 := k
  obtain ⟨b, ao, l, cap, ao', l', cap', rfl, _⟩ := h.parts
  obtain ⟨c, bo, m, dap, bo', m', dap', rfl, _⟩ := k.parts
  go_enter Tryz.func123, Tryz.ntmps123
  go_wp2_with fail
  refine (fsign_any _ _ 0 s ((k0.alloc _).alloc _)).mono ?_
  rintro e w1 ⟨rfl, hb1⟩
  go_wp2
  go_ret
  exact ⟨rfl, (below2 w _ _).trans (hb1.mono (below2 w _ _).size)⟩

set_option maxHeartbeats 400000 in
set_option maxRecDepth 100000 in
theorem opFloor_any (K : Nat) (hK : K ≤ 1073741822) (hO : OverOK K) (w : World) (x y : Value) (p r : Int) (q s : Nat) (h : FracV w x p q) (k : FracV w y r s) (hp : p.natAbs < 4294967296 ^ K) (hq : q < 4294967296 ^ K) :
    Calls Tryz.prog 125 #[x, y] w fun e w' => ∃ t, e = .returned t ∧ FracV w' t (p / (q : Int)) 1 ∧ Below w.heap.size w w' := by
  have h0 := h
  obtain ⟨b, ao, l, cap, ao', l', cap', rfl, _⟩ := h.parts
  obtain ⟨c, bo, m, dap, bo', m', dap', rfl, _⟩ := k.parts
  have hboxR : Box3 (((w.alloc (.cells #[.bool b, .slice ao l cap, .slice ao' l' cap'] 103)).alloc (.cells #[.bool c, .slice bo m dap, .slice bo' m' dap'] 103)).alloc (.cells #[.bool false, .slice none 0 0, .slice none 0 0] 103)) (w.heap.size + 1 + 1) (.bool false) (.slice none 0 0) (.slice none 0 0) := Box3.new2 _ _ _ _ _ _ _
  have hbW := below3 w (.cells #[.bool b, .slice ao l cap, .slice ao' l' cap'] 103) (.cells #[.bool c, .slice bo m dap, .slice bo' m' dap'] 103) (.cells #[.bool false, .slice none 0 0, .slice none 0 0] 103)
  go_enter Tryz.func125, Tryz.ntmps125
  go_wp2_with fail
  refine (floor_any K hK hO _ _ p q (((h0.alloc _).alloc _).alloc _) hp hq).mono ?_
  rintro e w1 ⟨t, rfl, ht, hb1⟩
  have hR1 := hboxR.below hb1
  have hB1 : Below w.heap.size w w1 := hbW.trans (hb1.mono hbW.size)
  clear hb1 hboxR hbW
  go_wp2_with fail
  refine (fof_any _ _ _ ht).mono ?_
  rintro e w2 ⟨y, rfl, hy, hb2⟩
  obtain ⟨b2, a2, l2, k2, a3, l3, k3, rfl, hp1, hp2, hp3, hp4, hp5⟩ := hy.parts
  have hR2 := hR1.below hb2
  have hB2 : Below w.heap.size w w2 := hB1.trans (hb2.mono hB1.size)
  obtain ⟨c0, c1, c2, f0, f1, f2, g0⟩ := hR2
  clear hb2 hR1 hB1
  go_wp2
  exact bodyPost_ret (v := .agg #[.bool b2, .slice a2 l2 k2, .slice a3 l3 k3]) (by simp [results, Tryz.results125, go_sem, c0, c1, c2]) rfl ⟨_, rfl, fracV_boxed hp1 hp2 hp3 hp4 hp5 c0 c1 c2,
    ((hB2.setCell (by simp; omega) _).setCell (by simp; omega) _).setCell (by simp; omega) _⟩

set_option maxHeartbeats 400000 in
set_option maxRecDepth 100000 in
theorem opLess_any (K : Nat) (hK : K + K ≤ 1073741822) (w : World) (x y : Value) (p r : Int) (q s : Nat) (h : FracV w x p q) (k : FracV w y r s) (hp : p.natAbs < 4294967296 ^ K) (hr : r.natAbs < 4294967296 ^ K) (hq : q < 4294967296 ^ K) (hs : s < 4294967296 ^ K) :
    Calls Tryz.prog 126 #[x, y] w fun e w' => ∃ t, e = .returned t ∧ FracV w' t (if p * (s : Int) < r * (q : Int) then 1 else 0) 1 ∧ Below w.heap.size w w' := by
  have h0 := h
  have k0 := k
  obtain ⟨b, ao, l, cap, ao', l', cap', rfl, _⟩ := h.parts
  obtain ⟨c, bo, m, dap, bo', m', dap', rfl, _⟩ := k.parts
  have hboxR : Box3 (((w.alloc (.cells #[.bool b, .slice ao l cap, .slice ao' l' cap'] 103)).alloc (.cells #[.bool c, .slice bo m dap, .slice bo' m' dap'] 103)).alloc (.cells #[.bool false, .slice none 0 0, .slice none 0 0] 103)) (w.heap.size + 1 + 1) (.bool false) (.slice none 0 0) (.slice none 0 0) := Box3.new2 _ _ _ _ _ _ _
  have hbW := below3 w (.cells #[.bool b, .slice ao l cap, .slice ao' l' cap'] 103) (.cells #[.bool c, .slice bo m dap, .slice bo' m' dap'] 103) (.cells #[.bool false, .slice none 0 0, .slice none 0 0] 103)
  go_enter Tryz.func126, Tryz.ntmps126
  go_wp2_with fail
  refine (fcompare_any _ _ _ p r q s K (by omega) (((h0.alloc _).alloc _).alloc _) (((k0.alloc _).alloc _).alloc _) hp hr hq hs).mono ?_
  rintro e w1 ⟨cc, rfl, hc1, hc2, hc3, hc4, hb1⟩
  have hR1 := hboxR.below hb1
  have hB1 : Below w.heap.size w w1 := hbW.trans (hb1.mono hbW.size)
  have HC1 := hide hc1
  clear hb1 hboxR hbW hc1 hc2
  by_cases hlt : cc < 0
  · have HL := hide (HC1.out.1 hlt)
    go_wp2_with fail
    refine (wof_any _ 1 (by omega)).mono ?_
    rintro e w2 ⟨t, rfl, ht, hb2⟩
    have hR2 := hR1.below hb2
    have hB2 : Below w.heap.size w w2 := hB1.trans (hb2.mono hB1.size)
    clear hb2 hR1 hB1
    go_wp2_with fail
    refine (fof_any _ _ _ ht).mono ?_
    rintro e w3 ⟨y, rfl, hy, hb3⟩
    obtain ⟨b2, a2, l2, k2, a3, l3, k3, rfl, hp1, hp2, hp3, hp4, hp5⟩ := hy.parts
    have hR3 := hR2.below hb3
    have hB3 : Below w.heap.size w w3 := hB2.trans (hb3.mono hB2.size)
    obtain ⟨c0, c1, c2, f0, f1, f2, g0⟩ := hR3
    clear hb3 hR2 hB2
    go_wp2
    exact bodyPost_ret (v := .agg #[.bool b2, .slice a2 l2 k2, .slice a3 l3 k3]) (by simp [results, Tryz.results126, go_sem, c0, c1, c2]) rfl ⟨_, rfl, by first | exact fracV_boxed hp1 hp2 hp3 hp4 hp5 c0 c1 c2 | (rw [if_pos HL.out]; exact fracV_boxed hp1 hp2 hp3 hp4 hp5 c0 c1 c2),
      ((hB3.setCell (by simp; omega) _).setCell (by simp; omega) _).setCell (by simp; omega) _⟩
  · have HL := hide (fun h => hlt (HC1.out.2 h))
    have hge : 0 ≤ cc := by omega
    clear hlt
    go_wp2_with fail
    refine (wof_any _ 0 (by omega)).mono ?_
    rintro e w2 ⟨t, rfl, ht, hb2⟩
    have hR2 := hR1.below hb2
    have hB2 : Below w.heap.size w w2 := hB1.trans (hb2.mono hB1.size)
    clear hb2 hR1 hB1
    go_wp2_with fail
    refine (fof_any _ _ _ ht).mono ?_
    rintro e w3 ⟨y, rfl, hy, hb3⟩
    obtain ⟨b2, a2, l2, k2, a3, l3, k3, rfl, hp1, hp2, hp3, hp4, hp5⟩ := hy.parts
    have hR3 := hR2.below hb3
    have hB3 : Below w.heap.size w w3 := hB2.trans (hb3.mono hB2.size)
    obtain ⟨c0, c1, c2, f0, f1, f2, g0⟩ := hR3
    clear hb3 hR2 hB2
    go_wp2
    exact bodyPost_ret (v := .agg #[.bool b2, .slice a2 l2 k2, .slice a3 l3 k3]) (by simp [results, Tryz.results126, go_sem, c0, c1, c2]) rfl ⟨_, rfl, by first | exact fracV_boxed hp1 hp2 hp3 hp4 hp5 c0 c1 c2 | (rw [if_neg HL.out]; exact fracV_boxed hp1 hp2 hp3 hp4 hp5 c0 c1 c2),
      ((hB3.setCell (by simp; omega) _).setCell (by simp; omega) _).setCell (by simp; omega) _⟩
end Go.Proofs.YtnhfdcfnojnofaaGreatDoor
