/-
  Part 8 of the texts ahead of Pks1: Txt8, Txt4, Txt9, Pla1, Pla3, Num3, Nat12, Nat15, Kee2, Kee4, Kee5, Tr12.
-/
import Derived.Test.YtnhfdcfnojnofaaGreatDoorPks1Z7
import Derived.Test.YtnhfdcfnojnofaaGreatDoorPks1Z4
import Derived.Deep.RegionHeld3
import Derived.WalkSmall
import Derived.Test.YtnhfdcfnojnofaaGreatDoorPks1Z6
import Derived.Test.YtnhfdcfnojnofaaGreatDoorPks1Z5
import Derived.Lib.IndexMore
import Derived.Laws.EntriesVeiled
import Derived.Test.YtnhfdcfnojnofaaGreatDoorPks1Z2
import Derived.Test.YtnhfdcfnojnofaaGreatDoorPks1Z3
import Derived.Lib.BitFns
import Derived.Test.YtnhfdcfnojnofaaGreatDoorShelf
import Derived.Laws.IdiomStrings
import Derived.Deep.DeepCutAuto
set_option linter.unusedSimpArgs false
set_option linter.unusedVariables false
/-
  Numbers written: String of a natural of one piece, of a whole, of a fraction.
-/
namespace Go.Proofs.YtnhfdcfnojnofaaGreatDoor
open Go.RowKit

/-- The table of powers of ten lies as the library laid it. -/
def Tab (w : World) : Prop := Lib.TabIs Tryz.prog w "internal/strconv.uint64pow10" .u64 Lib.pow10Tab

theorem Tab.below {w w' : World} (h : Tab w) (hb : Below w.heap.size w w') : Tab w' := by
  unfold Tab Lib.TabIs World.var? at *
  cases hg : Tryz.prog.globalNamed "internal/strconv.uint64pow10" with
  | none => rw [hg] at h; simp at h
  | some g =>
    rw [hg] at h
    simp only [Option.bind_some] at h ⊢
    have hlt : g < w.heap.size := by
      rcases Nat.lt_or_ge g w.heap.size with h1 | h1
      · exact h1
      · rw [Array.getElem?_eq_none h1] at h; simp at h
    rw [hb.block g hlt]
    exact h

theorem lt_of_some {w : World} {g : Nat} {o : Obj} (h : w.heap[g]? = some o) : g < w.heap.size := by
  rcases Nat.lt_or_ge g w.heap.size with h1 | h1
  · exact h1
  · rw [Array.getElem?_eq_none h1] at h; simp at h

theorem builderAtF_below {T e B b : Nat} {p : Value} {bs : List Value} {w w' : World} (h : Lib.BuilderAtF T e B b p bs w) (hb : Below w.heap.size w w') : Lib.BuilderAtF T e B b p bs w' := by
  obtain ⟨h1, v, h2, ⟨h3, h4⟩, h5⟩ := h
  refine ⟨h1, v, (hb.block b (lt_of_some h2)).trans h2, ⟨h3, ?_⟩, h5⟩
  rcases h4 with h4 | ⟨g, cap, cur, fz, hv, hg, hh, hr⟩
  · exact Or.inl h4
  · exact Or.inr ⟨g, cap, cur, fz, hv, hg, (hb.block g (lt_of_some hh)).trans hh, hr⟩

theorem isBuilderF_below {T e B b : Nat} {bs : List Value} {w w' : World} (h : Lib.IsBuilderF T e B b bs w) (hb : Below w.heap.size w w') : Lib.IsBuilderF T e B b bs w' := by
  rcases h with h | h
  · exact Or.inl (builderAtF_below h hb)
  · exact Or.inr (builderAtF_below h hb)

theorem size_mkB (l : List UInt8) : (ByteArray.mk l.toArray).size = l.length := by simp [ByteArray.size]

theorem ba_append (a b : List UInt8) : (ByteArray.mk a.toArray) ++ (ByteArray.mk b.toArray) = ByteArray.mk (a ++ b).toArray := by
  apply ByteArray.ext
  simp

/-- A bound above all numbers that a call has to write. -/
def Cap : Nat := 4294967296 ^ 10

theorem cap_ten : Cap < 10 ^ 97 := by unfold Cap; decide
theorem ten_cap : 10 ^ 96 < Cap := by unfold Cap; decide

theorem dec_len_le (k : Nat) : ∀ n, n < 10 ^ k → 0 < k → (Lib.decDigits n).length ≤ k := by
  induction k with
  | zero => intro n _ h; omega
  | succ k ih =>
    intro n hn _
    by_cases h : n < 10
    · rw [Lib.decDigits, dif_pos h]; simp
    · have hk : 0 < k := by
        rcases Nat.eq_zero_or_pos k with h0 | h0
        · subst h0; simp at hn; omega
        · exact h0
      have h1 := ih (n / 10) (by rw [Nat.pow_succ] at hn; omega) hk
      rw [Lib.decDigits, dif_neg h]
      simp
      omega

theorem dec_pos (n : Nat) : 0 < (Lib.decDigits n).length := by
  rw [Lib.decDigits]; split <;> simp

theorem dec_cap {n : Nat} (h : n < Cap) : (Lib.decDigits n).length ≤ 97 := dec_len_le 97 n (Nat.lt_trans h cap_ten) (by omega)

theorem itoa_cap {z : Int} (hz : z.natAbs < Cap) : (Lib.itoa z).length ≤ 98 := by
  unfold Lib.itoa
  split
  · have := dec_cap hz; simp; omega
  · have e : z.toNat = z.natAbs := by omega
    rw [e]
    have := dec_cap hz; omega

/-- The last k digits of r. -/
def padL : Nat → Nat → List UInt8
  | 0, _ => []
  | k + 1, r => padL k (r / 10) ++ [UInt8.ofNat (48 + r % 10)]

theorem dec_pad (q : Nat) (hq : q ≠ 0) (k : Nat) : ∀ r, r < 10 ^ k → Lib.decDigits (q * 10 ^ k + r) = Lib.decDigits q ++ padL k r := by
  induction k with
  | zero => intro r hr; have h0 : r = 0 := by simpa using hr
            subst h0; simp [padL]
  | succ k ih =>
    intro r hr
    have hr2 : r / 10 < 10 ^ k := by rw [Nat.pow_succ] at hr; omega
    have ih2 := ih (r / 10) hr2
    clear ih
    have hp : 0 < 10 ^ k := Nat.pow_pos (by omega)
    have hq1 : 10 ^ k ≤ q * 10 ^ k := Nat.le_mul_of_pos_left _ (Nat.pos_of_ne_zero hq)
    have e : q * 10 ^ (k + 1) = q * 10 ^ k * 10 := by rw [Nat.pow_succ, Nat.mul_assoc]
    rw [e]
    generalize q * 10 ^ k = X at *
    generalize 10 ^ k = Y at *
    rw [Lib.decDigits, dif_neg (by omega), show (X * 10 + r) / 10 = X + r / 10 by omega, show (X * 10 + r) % 10 = r % 10 by omega, ih2, padL, List.append_assoc]

theorem padL_zero (k : Nat) : padL k 0 = List.replicate k 48 := by
  induction k with
  | zero => rfl
  | succ k ih => rw [padL, Nat.zero_div, ih, List.replicate_succ']; rfl

theorem padL_eq (k : Nat) : ∀ r, 0 < k → r < 10 ^ k → padL k r = List.replicate (k - (Lib.decDigits r).length) 48 ++ Lib.decDigits r := by
  induction k with
  | zero => intro r h; omega
  | succ k ih =>
    intro r _ hr
    by_cases h : r < 10
    · rw [Lib.decDigits, dif_pos h, padL, show r / 10 = 0 by omega, padL_zero, show r % 10 = r by omega]
      simp
    · have hk : 0 < k := by
        rcases Nat.eq_zero_or_pos k with h0 | h0
        · subst h0; simp at hr; omega
        · exact h0
      have hr2 : r / 10 < 10 ^ k := by rw [Nat.pow_succ] at hr; omega
      rw [padL, ih (r / 10) hk hr2, Lib.decDigits.eq_1 r, dif_neg h, List.append_assoc, List.length_append]
      have e : k + 1 - ((Lib.decDigits (r / 10)).length + [UInt8.ofNat (48 + r % 10)].length) = k - (Lib.decDigits (r / 10)).length := by simp
      rw [e]

/-- What is written of the pieces of nine digits, the least first. -/
def dtext (l : List Nat) : List UInt8 := if l = [] then [] else Lib.decDigits (pval l)

theorem dtext_one (d : Nat) : dtext [d] = Lib.decDigits d := by simp [dtext, pval]

theorem dtext_cons (d : Nat) (l : List Nat) (hd : d < 1000000000) (hl : l ≠ []) (hp : pval l ≠ 0) : dtext (d :: l) = dtext l ++ (List.replicate (9 - (Lib.decDigits d).length) 48 ++ Lib.decDigits d) := by
  have h1 := dec_pad (pval l) hp 9 d (by omega)
  have h2 := padL_eq 9 d (by omega) (by omega)
  rw [dtext, if_neg (by simp), dtext, if_neg hl, ← h2, ← h1, pval, Nat.add_comm, Nat.mul_comm]

theorem pval_pos : ∀ (l : List Nat) (k : Nat), l.length = k + 1 → l.getD k 0 ≠ 0 → pval l ≠ 0 := by
  intro l
  induction l with
  | nil => intro k hk; simp at hk
  | cons c l ih =>
    intro k hk h0
    cases k with
    | zero => simp at h0; simp [pval]; omega
    | succ k => have := ih k (by simpa using hk) (by simpa using h0); simp only [pval]; omega

theorem pval_drop {ps : List Nat} (hl : ∀ k, ps.length = k + 1 → ps.getD k 0 ≠ 0) (k : Nat) (hk : k < ps.length) : pval (ps.drop k) ≠ 0 := by
  obtain ⟨m, hm⟩ : ∃ m, ps.length = m + 1 := ⟨ps.length - 1, by omega⟩
  refine pval_pos (ps.drop k) (m - k) (by simp; omega) ?_
  have := hl m hm
  rw [List.getD_eq_getElem?_getD] at this ⊢
  rw [List.getElem?_drop, show k + (m - k) = m by omega]
  exact this

theorem drop_getD {ps : List Nat} {k : Nat} (hk : k < ps.length) : ps.drop k = ps.getD k 0 :: ps.drop (k + 1) := by
  rw [List.drop_eq_getElem_cons hk]
  simp [hk]

theorem dtext_drop {ps : List Nat} (hps : ∀ p ∈ ps, p < 1000000000) (hl : ∀ k, ps.length = k + 1 → ps.getD k 0 ≠ 0) (k : Nat) (hk : k + 1 < ps.length) :
    dtext (ps.drop k) = dtext (ps.drop (k + 1)) ++ (List.replicate (9 - (Lib.decDigits (ps.getD k 0)).length) 48 ++ Lib.decDigits (ps.getD k 0)) := by
  have hm : ps.getD k 0 < 1000000000 := by
    rw [List.getD_eq_getElem?_getD, List.getElem?_eq_getElem (by omega)]
    exact hps _ (List.getElem_mem _)
  rw [drop_getD (by omega)]
  exact dtext_cons _ _ hm (by intro e; have := congrArg List.length e; simp at this; omega) (pval_drop hl _ hk)

theorem dtext_last {ps : List Nat} (k : Nat) (hk : k + 1 = ps.length) : dtext (ps.drop k) = Lib.decDigits (ps.getD k 0) ∧ dtext (ps.drop (k + 1)) = [] := by
  rw [drop_getD (by omega), List.drop_of_length_le (by omega)]
  exact ⟨dtext_one _, rfl⟩

theorem getD_lt9 {ps : List Nat} (hps : ∀ p ∈ ps, p < 1000000000) (k : Nat) (hk : k < ps.length) : ps.getD k 0 < 1000000000 := by
  rw [List.getD_eq_getElem?_getD, List.getElem?_eq_getElem hk]
  exact hps _ (List.getElem_mem _)

theorem repeat_nought (c : Nat) : Lib.repeatL [48] c = List.replicate c 48 := by
  induction c with
  | zero => rfl
  | succ c ih => rw [Lib.repeatL, ih, List.replicate_succ]; rfl

theorem byteCells_str (a b : List UInt8) : Lib.byteCells a ++ Lib.strCells ⟨b.toArray⟩ = Lib.byteCells (a ++ b) := by simp [Lib.byteCells, Lib.strCells]

theorem dtext_len {ps : List Nat} (hps : ∀ p ∈ ps, p < 1000000000) (hl : ∀ k, ps.length = k + 1 → ps.getD k 0 ≠ 0) (n : Nat) : ∀ k, ps.length = n + k → (dtext (ps.drop n)).length ≤ 9 * k := by
  intro k
  induction k generalizing n with
  | zero => intro h; rw [List.drop_of_length_le (by omega)]; simp [dtext]
  | succ k ih =>
    intro h
    have hd := dec_len_le 9 _ (getD_lt9 hps n (by omega)) (by omega)
    by_cases hk : k = 0
    · subst hk; rw [(dtext_last n (by omega)).1]; omega
    · rw [dtext_drop hps hl n (by omega)]
      have := ih (n + 1) (by omega)
      rw [List.length_append, List.length_append, List.length_replicate]
      omega

set_option maxHeartbeats 2000000 in
set_option maxRecDepth 100000 in
theorem natString_one (w : World) (v : Value) (n : Nat) (hv : NatV w v n) (hn0 : n ≠ 0) (hn : n < Cap) (htab : Tab w) :
    Calls Tryz.prog 81 #[v] w fun e w' => e = .returned (.string ⟨(Lib.decDigits n).toArray⟩) ∧ Below w.heap.size w w' := by
  go_enter Tryz.func81, Tryz.ntmps81
  go_wp2_with fail
  refine (isZero_no _ _ _ hv hn0).mono ?_
  rintro e w0 ⟨rfl, rfl⟩
  go_wp2_with fail
  refine (pieces_any _ _ n 10 hv hn0 hn (by omega)).mono ?_
  rintro e w1 ⟨x, ps, rfl, hx, hps, hpv, hlast, hpl, hb1⟩
  obtain ⟨ao, cap, rfl, hc, hr⟩ := hx
  have hpne : ps ≠ [] := by rintro rfl; exact hn0 hpv.symm
  obtain ⟨g, off, rfl, hg, hrow⟩ := hr hpne
  have hp0 : 0 < ps.length := List.length_pos_iff.2 hpne
  have HE : Hid (dtext ps = Lib.decDigits n) := by rw [Hid, dtext, if_neg hpne, hpv]
  have HP := hide hps
  have HL := hide hlast
  have htab1 := htab.below hb1
  clear hr hpv hc hps hlast hn htab
  have hbld : Lib.IsBuilderF 140 5 w1.heap.size w1.heap.size (Lib.byteCells []) (w1.alloc (.cells #[.pointer none, .slice none 0 0] 140)) := by
    refine Or.inl ⟨Nat.le_refl _, .slice none 0 0, heap_alloc_new _ _, ?_, by simp [Value.ownBlock]⟩
    exact World.ownsRowF_of (World.ownsRow_nil _ _ _ _)
  have hbW : Below w1.heap.size w1 (w1.alloc (.cells #[.pointer none, .slice none 0 0] 140)) := (Below.refl _ _).alloc (Nat.le_refl _) _
  go_wp2
  go_loopw [5] (fun iv wr => ∃ k : Nat, k ≤ ps.length ∧ iv = .int .i64 ((k : Int) - 1) ∧ Lib.IsBuilderF 140 5 w1.heap.size w1.heap.size (Lib.byteCells (dtext (ps.drop k))) wr ∧ Below w1.heap.size w1 wr) (fun iv _ => (intOf iv + 1).toNat)
  case atStart => exact ⟨ps.length, Nat.le_refl _, rfl, by rw [List.drop_of_length_le (Nat.le_refl _)]; exact hbld, hbW⟩
  case round =>
    obtain ⟨k, hk, rfl, hb, hbel⟩ := hrel
    cases k with
    | zero =>
      rw [List.drop_zero, HE.out] at hb
      have hbs := hbel.size
      go_wp2_with fail
      refine (Tryz.Builder_String_any_k w1.heap.size w1.heap.size _ _ hb hbs).mono ?_
      rintro e w2 ⟨rfl, _, hb2, _⟩
      go_wp2
      go_ret
      exact ⟨rfl, hb1.trans ((hbel.trans hb2).mono hb1.size)⟩
    | succ k =>
      have h0' : wr.cell? ⟨g, off + k, none⟩ = some (.int .u32 (ps.getD k 0 : Nat)) := (hbel.cell (p := ⟨g, off + k, none⟩) hg).trans (hrow k (by omega))
      have htab2 := htab1.below hbel
      have hd9 := getD_lt9 HP.out k (by omega)
      have HTL := hide (dtext_len HP.out HL.out (k + 1) (ps.length - (k + 1)) (by omega))
      have HST : Hid (if k + 1 = ps.length then dtext (ps.drop k) = Lib.decDigits (ps.getD k 0) ∧ dtext (ps.drop (k + 1)) = [] else dtext (ps.drop k) = dtext (ps.drop (k + 1)) ++ (List.replicate (9 - (Lib.decDigits (ps.getD k 0)).length) 48 ++ Lib.decDigits (ps.getD k 0))) := by
        rw [Hid]
        split
        · exact dtext_last k (by omega)
        · exact dtext_drop HP.out HL.out k (by omega)
      generalize ps.getD k 0 = d at *
      have hdl := dec_len_le 9 d hd9 (by omega)
      go_wp2_with fail
      refine (formatUint_any d (by omega) _ htab2).mono ?_
      rintro e w2 ⟨rfl, hb2⟩
      have hbB := isBuilderF_below hb hb2
      have hbel2 : Below w1.heap.size w1 w2 := hbel.trans (hb2.mono hbel.size)
      have hsz2 := size_mkB (Lib.decDigits d)
      have hbs2 := hbel2.size
      clear hb hb2
      by_cases hlastk : k + 1 = ps.length
      · have hst := HST.out
        rw [if_pos hlastk] at hst
        rw [hst.2] at hbB
        have HA := hide hst.1
        have HSZ := hide hsz2
        clear hst hsz2
        go_wp2_with fail
        refine (writeString_k w1.heap.size w1.heap.size (Lib.byteCells []) _ _ hbB (by rw [HSZ.out]; simp [Lib.byteCells]; omega) hbs2).mono ?_
        rintro e w3 ⟨rfl, hb3, hbel3, _⟩
        have hb3' : Lib.IsBuilderF 140 5 w1.heap.size w1.heap.size (Lib.byteCells (dtext (ps.drop k))) w3 := by
          right
          rw [byteCells_str, List.nil_append, ← HA.out] at hb3
          exact hb3
        clear hb3 hbB
        go_wp2
        go_roundw
        case rel => exact ⟨k, by omega, by go_num, hb3', hbel2.trans hbel3⟩
        case measure => simp [intOf]; omega
      · have hst := HST.out
        rw [if_neg hlastk] at hst
        have HA := hide hst
        clear hst
        generalize hB : ByteArray.mk (Lib.decDigits d).toArray = sB at *
        generalize hL : (Lib.decDigits d).length = L at *
        have HB := hide hB
        clear hB
        go_wp2_with fail
        have eN : (9 : Int) - (L : Int) = ((9 - L : Nat) : Int) := by omega
        rw [eN]
        refine (Tryz.strings_Repeat ⟨#[48]⟩ (9 - L) w2 (by omega) (by rw [show (ByteArray.mk #[48]).size = 1 from rfl]; omega)).mono ?_
        rintro e w3 ⟨rfl, hb3⟩
        have hbC := isBuilderF_below hbB hb3
        have hbel3 : Below w1.heap.size w1 w3 := hbel2.trans (hb3.mono hbel2.size)
        have hbs3 := hbel3.size
        have hsz3 : (ByteArray.mk (Lib.repeatL (ByteArray.mk #[48]).data.toList (9 - L)).toArray).size = 9 - L := by
          rw [size_mkB, show (ByteArray.mk #[48]).data.toList = [48] from rfl, repeat_nought, List.length_replicate]
        have HSZ3 := hide hsz3
        clear hsz3 hbB hb3
        go_wp2_with fail
        refine (writeString_k w1.heap.size w1.heap.size (Lib.byteCells (dtext (ps.drop (k + 1)))) _ _ hbC (by rw [HSZ3.out]; have := HTL.out; simp [Lib.byteCells]; omega) hbs3).mono ?_
        rintro e w4 ⟨rfl, hb4, hbel4, _⟩
        rw [byteCells_str, repeat_nought] at hb4
        have hb4' : Lib.IsBuilderF 140 5 w1.heap.size w1.heap.size (Lib.byteCells (dtext (ps.drop (k + 1)) ++ List.replicate (9 - L) 48)) w4 := Or.inr hb4
        have hbel4' := hbel3.trans hbel4
        have hbs4 := hbel4'.size
        clear hb4 hbel4 hbel3 hbC hbel2
        go_wp2_with fail
        refine (writeString_k w1.heap.size w1.heap.size _ sB _ hb4' (by have := HTL.out; simp [Lib.byteCells]; omega) hbs4).mono ?_
        rintro e w5 ⟨rfl, hb5, hbel5, _⟩
        have hb5' : Lib.IsBuilderF 140 5 w1.heap.size w1.heap.size (Lib.byteCells (dtext (ps.drop k))) w5 := by
          right
          rw [← HB.out, byteCells_str, List.append_assoc, ← HA.out] at hb5
          exact hb5
        clear hb5 hb4'
        go_wp2
        go_roundw
        case rel => exact ⟨k, by omega, by go_num, hb5', hbel4'.trans hbel5⟩
        case measure => simp [intOf]

set_option maxHeartbeats 400000 in
set_option maxRecDepth 100000 in
theorem natString_zero (w : World) (v : Value) (hv : NatV w v 0) :
    Calls Tryz.prog 81 #[v] w fun e w' => e = .returned (.string ⟨(Lib.decDigits 0).toArray⟩) ∧ Below w.heap.size w w' := by
  go_enter Tryz.func81, Tryz.ntmps81
  go_wp2_with fail
  refine (isZero_yes _ _ hv).mono ?_
  rintro e w0 ⟨rfl, rfl⟩
  go_wp2
  go_ret
  refine ⟨?_, Below.refl _ _⟩
  rw [Lib.decDigits_one (by omega)]
  rfl

theorem natString_any (w : World) (v : Value) (n : Nat) (hv : NatV w v n) (hn : n < Cap) (htab : Tab w) :
    Calls Tryz.prog 81 #[v] w fun e w' => e = .returned (.string ⟨(Lib.decDigits n).toArray⟩) ∧ Below w.heap.size w w' := by
  by_cases h0 : n = 0
  · subst h0; exact natString_zero w v hv
  · exact natString_one w v n hv h0 hn htab

set_option maxHeartbeats 1000000 in
set_option maxRecDepth 100000 in
theorem wholeString_any (w : World) (x : Value) (z : Int) (hx : WholeV w x z) (hz : z.natAbs < Cap) (htab : Tab w) :
    Calls Tryz.prog 80 #[x] w fun e w' => e = .returned (.string ⟨(Lib.itoa z).toArray⟩) ∧ Below w.heap.size w w' := by
  obtain ⟨b, ao, l, cap, rfl, hv, hb⟩ := hx.parts
  have hbW : Below w.heap.size w (w.alloc (.cells #[.bool b, .slice ao l cap] 101)) := (Below.refl _ _).alloc (Nat.le_refl _) _
  cases b with
  | true =>
    have hz0 : z < 0 := by have := hb.out; simp at this; omega
    have hdl := dec_cap hz
    have HI : Hid (ByteArray.mk #[45] ++ ByteArray.mk (Lib.decDigits z.natAbs).toArray = ByteArray.mk (Lib.itoa z).toArray) := by
      rw [Hid, Lib.itoa, if_pos hz0]
      exact ba_append [45] _
    clear hz0
    go_enter Tryz.func80, Tryz.ntmps80
    go_wp2_with fail
    refine (natString_any _ _ _ (hv.alloc _) hz (htab.below hbW)).mono ?_
    rintro e w1 ⟨rfl, hb1⟩
    generalize Lib.decDigits z.natAbs = dd at *
    go_wp2
    go_ret
    exact ⟨by rw [← HI.out]; rfl, hbW.trans (hb1.mono hbW.size)⟩
  | false =>
    have hz0 : ¬ z < 0 := by have := hb.out; simp at this; omega
    have HI : Hid (Lib.itoa z = Lib.decDigits z.natAbs) := by
      rw [Hid, Lib.itoa, if_neg hz0]
      congr 1
      omega
    go_enter Tryz.func80, Tryz.ntmps80
    go_wp2_with fail
    refine (natString_any _ _ _ (hv.alloc _) hz (htab.below hbW)).mono ?_
    rintro e w1 ⟨rfl, hb1⟩
    go_wp2
    go_ret
    exact ⟨by rw [HI.out]; rfl, hbW.trans (hb1.mono hbW.size)⟩

/-- How a fraction p / q in lowest terms is written. -/
def fracText (p : Int) (q : Nat) : List UInt8 := if q = 1 then Lib.itoa p else Lib.itoa p ++ ([47] ++ Lib.decDigits q)

end Go.Proofs.YtnhfdcfnojnofaaGreatDoor

/-
  Numbers read: whole.Parse and fraction.Parse where the text is a number's.
-/
namespace Go.Proofs.YtnhfdcfnojnofaaGreatDoor
open Go.RowKit

theorem size_mk (l : List UInt8) : (ByteArray.mk l.toArray).size = l.length := by simp [ByteArray.size]

set_option maxRecDepth 100000 in
set_option maxHeartbeats 1000000 in
theorem wholeParse_yes (s : ByteArray) (m : Nat) (w : World) (hm : m ≤ 1000000000) (h0 : 0 < (Lib.trimPrefix s.data.toList [45]).length) (h1 : (Lib.trimPrefix s.data.toList [45]).length ≤ m) (h2 : allDig (Lib.trimPrefix s.data.toList [45]) = true) :
    Calls Tryz.prog 74 #[.string s, .int .i64 (m : Nat)] w fun e w' => ∃ x, e = .returned (.tuple #[x, .bool true]) ∧ WholeV w' x (sg (Lib.hasPrefix s.data.toList [45]) (decVal (Lib.trimPrefix s.data.toList [45]))) ∧ Below w.heap.size w w' := by
  have hbox : Box2 (w.alloc (.cells #[.bool false, .slice none 0 0] 101)) w.heap.size (.bool false) (.slice none 0 0) := Box2.new _ _ _ _
  have hbW : Below w.heap.size w (w.alloc (.cells #[.bool false, .slice none 0 0] 101)) := (Below.refl _ _).alloc (Nat.le_refl _) _
  have hcp := Tryz.strings_CutPrefix s ⟨#[45]⟩ (w.alloc (.cells #[.bool false, .slice none 0 0] 101))
  have e45 : (ByteArray.mk #[45]).data.toList = [45] := rfl
  rw [e45] at hcp
  generalize Lib.trimPrefix s.data.toList [45] = d at *
  generalize Lib.hasPrefix s.data.toList [45] = neg at *
  have HCP := hide hcp
  have hsz := size_mk d
  have HSZ := hide hsz
  clear hcp e45 hsz
  go_enter Tryz.func74, Tryz.ntmps74
  go_wp2_with fail
  refine HCP.out.mono ?_
  rintro e w1 ⟨rfl, rfl⟩
  go_wp2_with fail
  refine (natParse_yes ⟨d.toArray⟩ m _ hm (by rw [HSZ.out]; exact h0) (by rw [HSZ.out]; exact h1) (by simpa using h2)).mono ?_
  rintro e w2 ⟨v, rfl, hv, hbv⟩
  have hv' : NatV w2 v (decVal d) := by simpa using hv
  have hboxA := hbox.below hbv
  have hbA : Below w.heap.size w w2 := hbW.trans (hbv.mono hbW.size)
  clear hv hbv
  go_wp2_with fail
  refine (signed_any _ _ _ _ hv').mono ?_
  rintro e w3 ⟨x, rfl, hx, hbx⟩
  obtain ⟨b2, a2, l2, k2, rfl, hv2, hb2⟩ := hx.parts
  have hboxB := hboxA.below hbx
  have hbB : Below w.heap.size w w3 := hbA.trans (hbx.mono hbA.size)
  obtain ⟨c0, c1, f0, f1, g0⟩ := hboxB
  clear hboxA hbx hbox
  go_wp2
  exact bodyPost_ret (v := .tuple #[.agg #[.bool b2, .slice a2 l2 k2], .bool true]) (by simp [results, Tryz.results74, go_sem, c0, c1]) rfl ⟨_, rfl, wholeV_boxed hv2 hb2 c0 c1,
    (hbB.setCell (by simp) _).setCell (by simp) _⟩

end Go.Proofs.YtnhfdcfnojnofaaGreatDoor

/-
  Numbers written are read as themselves: facts of texts.
-/
namespace Go.Proofs.YtnhfdcfnojnofaaGreatDoor
open Go.RowKit

theorem dig_toNat {k : Nat} (h : k < 10) : (UInt8.ofNat (48 + k)).toNat = 48 + k := by
  rw [UInt8.toNat_ofNat']; omega

theorem allDig_append (a b : List UInt8) : allDig (a ++ b) = (allDig a && allDig b) := by simp [allDig]

theorem dec_all (n : Nat) : allDig (Lib.decDigits n) = true := by
  induction n using Nat.strongRecOn with
  | _ n ih =>
    have h1 : ∀ k, k < 10 → allDig [UInt8.ofNat (48 + k)] = true := by
      intro k hk
      simp only [allDig, List.all_cons, List.all_nil, Bool.and_true, isDig, dig_toNat hk]
      simp; omega
    by_cases h : n < 10
    · rw [Lib.decDigits, dif_pos h]; exact h1 n h
    · rw [Lib.decDigits, dif_neg h, allDig_append, ih (n / 10) (by omega), h1 (n % 10) (Nat.mod_lt _ (by omega))]; rfl

theorem dec_val (n : Nat) : decVal (Lib.decDigits n) = n := by
  induction n using Nat.strongRecOn with
  | _ n ih =>
    by_cases h : n < 10
    · rw [Lib.decDigits, dif_pos h]
      show decVal ([] ++ [_]) = n
      rw [decVal_snoc, dig_toNat h]; simp [decVal]
    · rw [Lib.decDigits, dif_neg h, decVal_snoc, ih (n / 10) (by omega), dig_toNat (Nat.mod_lt _ (by omega))]; omega

theorem dig_ne {l : List UInt8} (h : allDig l = true) : ∀ c ∈ l, c ≠ 47 ∧ c ≠ 45 := by
  intro c hc
  have := isDig_bd (List.all_eq_true.1 h c hc)
  constructor
  · rintro rfl; revert this; decide
  · rintro rfl; revert this; decide

theorem pre_dec (n : Nat) : Lib.hasPrefix (Lib.decDigits n) [45] = false := by
  have h := dig_ne (dec_all n)
  cases hd : Lib.decDigits n with
  | nil => rfl
  | cons c r =>
    have hc := (h c (by rw [hd]; exact List.mem_cons_self)).2
    simp [Lib.hasPrefix, List.isPrefixOf, Ne.symm hc]

theorem trim_itoa (z : Int) : Lib.trimPrefix (Lib.itoa z) [45] = Lib.decDigits z.natAbs ∧ Lib.hasPrefix (Lib.itoa z) [45] = decide (z < 0) := by
  unfold Lib.itoa
  by_cases h : z < 0
  · rw [if_pos h]
    constructor
    · simp [Lib.trimPrefix, Lib.hasPrefix]
    · simp [Lib.hasPrefix, h]
  · rw [if_neg h]
    have e : z.toNat = z.natAbs := by omega
    rw [e]
    constructor
    · rw [Lib.trimPrefix, pre_dec]; rfl
    · rw [pre_dec]; simp [h]

theorem sg_self (z : Int) : sg (decide (z < 0)) z.natAbs = z := by
  unfold sg
  by_cases h : z < 0
  · simp [h]; omega
  · simp [h]; omega

theorem itoa_nat (b : Nat) : Lib.itoa (b : Int) = Lib.decDigits b := by
  rw [Lib.itoa, if_neg (by omega)]; simp

end Go.Proofs.YtnhfdcfnojnofaaGreatDoor

/-
  What package planes does: the table of operations.
-/
namespace Go.Proofs.YtnhfdcfnojnofaaGreatDoor
open Go.RowKit

def fnV (n : Nat) : Value := .func (.func n) #[] #[]

end Go.Proofs.YtnhfdcfnojnofaaGreatDoor

/-
  What package planes does: calc, for each operation, where both texts are numbers'.
-/
namespace Go.Proofs.YtnhfdcfnojnofaaGreatDoor
open Go.RowKit

/-- What the calls lean on in old memory: the table of powers of ten, and the library's bound on short searches. -/
def Gl (w : World) : Prop := Tab w ∧ ∃ mx, w.cell? ⟨1, 0, none⟩ = some (.int .i64 mx) ∧ 1 < w.heap.size

theorem Gl.below {w w' : World} (h : Gl w) (hb : Below w.heap.size w w') : Gl w' := by
  obtain ⟨h1, mx, h2, h3⟩ := h
  exact ⟨h1.below hb, mx, (hb.cell (p := ⟨1, 0, none⟩) h3).trans h2, Nat.lt_of_lt_of_le h3 hb.size⟩

/-- The text is read as the fraction p / q. -/
def ParseOK (s : ByteArray) (p : Int) (q : Nat) : Prop := ∀ W, Gl W → Calls Tryz.prog 56 #[.string s, .int .i64 40] W fun e w' => ∃ x, e = .returned (.tuple #[x, .bool true]) ∧ FracV w' x p q ∧ Below W.heap.size W w'

end Go.Proofs.YtnhfdcfnojnofaaGreatDoor

/-
  Plain numbers to the base 2^32: the division of school by guessed digits; no program here.
-/
namespace Go.Proofs.YtnhfdcfnojnofaaGreatDoor

/-- What a list of digits is behind a window of it has been written anew. -/
def splice (L W : List Nat) (j : Nat) : List Nat := L.take j ++ (W ++ L.drop (j + W.length))

end Go.Proofs.YtnhfdcfnojnofaaGreatDoor

/-
  What guessDigit of package natural does.
-/
namespace Go.Proofs.YtnhfdcfnojnofaaGreatDoor
open Go.RowKit

/-- A digit that is not too small, whatever is not above the first guess and not above each that the three highest digits fell. -/
def Least (high lead U3 V2 g : Nat) : Prop := ∀ Q, Q ≤ high / lead → (∀ k, U3 < k * V2 → Q < k) → Q < 4294967296 → Q ≤ g

end Go.Proofs.YtnhfdcfnojnofaaGreatDoor

/-
  What longDivide of package natural does.
-/
namespace Go.Proofs.YtnhfdcfnojnofaaGreatDoor
open Go.RowKit

theorem Row.keep {w w' : World} {b o off n : Nat} {ds : List Nat} (h : Row w b o ds) (hu : Upd b off n w w') (hd : o + ds.length ≤ off ∨ off + n ≤ o) : Row w' b o ds :=
  fun i hi => (hu.cell (o + i) (by omega)).trans (h i hi)

theorem Row.splice {w w' : World} {b off j : Nat} {L W : List Nat} (h : Row w b off L) (hu : Upd b (off + j) W.length w w') (hW : Row w' b (off + j) W) (hj : j + W.length ≤ L.length) : Row w' b off (splice L W j) := by
  have h1 : Row w' b off (L.take j) := (h.take j).keep hu (Or.inl (by simp; omega))
  have hl : (L.take j).length = j := by simp; omega
  refine h1.append ?_
  rw [hl]
  refine hW.append ?_
  have h2 := (h.drop (j + W.length)).keep hu (Or.inr (by omega))
  rw [show off + j + W.length = off + (j + W.length) by omega]
  exact h2

/-- What may have changed: two blocks' cells. -/
structure Two (b c : Nat) (w w' : World) : Prop where
  os : w'.os = w.os
  tape : w'.tape = w.tape
  output : w'.output = w.output
  size : w'.heap.size = w.heap.size
  block : ∀ k, k ≠ b → k ≠ c → w'.heap[k]? = w.heap[k]?
  frozen : ∀ k j, w'.frozen? ⟨k, j, none⟩ = w.frozen? ⟨k, j, none⟩

theorem Two.refl (b c : Nat) (w : World) : Two b c w w := ⟨rfl, rfl, rfl, rfl, fun _ _ _ => rfl, fun _ _ => rfl⟩
theorem Two.trans {b c : Nat} {u v w : World} (h : Two b c u v) (k : Two b c v w) : Two b c u w :=
  ⟨k.os.trans h.os, k.tape.trans h.tape, k.output.trans h.output, k.size.trans h.size, fun i h1 h2 => (k.block i h1 h2).trans (h.block i h1 h2), fun i j => (k.frozen i j).trans (h.frozen i j)⟩
theorem Upd.frozenAll {b off n : Nat} {w w' : World} (h : Upd b off n w w') (k j : Nat) : w'.frozen? ⟨k, j, none⟩ = w.frozen? ⟨k, j, none⟩ := by
  by_cases hk : k = b
  · subst hk; exact h.frozen j
  · exact World.frozen?_of_block (w := w) (h.block k hk)
theorem Upd.two {b off n : Nat} {w w' : World} (h : Upd b off n w w') (c : Nat) : Two b c w w' := ⟨h.os, h.tape, h.output, h.size, fun k h1 _ => h.block k h1, h.frozenAll⟩
theorem Two.row {b c k o : Nat} {w w' : World} {ds : List Nat} (h : Two b c w w') (hb : k ≠ b) (hc : k ≠ c) (hr : Row w k o ds) : Row w' k o ds :=
  fun i hi => (World.cell?_of_block (w := w) (h.block k hb hc)).trans (hr i hi)
theorem Two.below {b c B : Nat} {w w' : World} (h : Two b c w w') (hb : B ≤ b) (hc : B ≤ c) : Below B w w' := ⟨h.os, h.tape, h.output, Nat.le_of_eq h.size.symm, fun k hk => h.block k (by omega) (by omega)⟩

end Go.Proofs.YtnhfdcfnojnofaaGreatDoor

/-
  What the keeper's lowest does.
-/
namespace Go.Proofs.YtnhfdcfnojnofaaGreatDoor
open Go.RowKit

/-- A fraction as it is written: in lowest terms. -/
def lowText (a : Int) (b : Nat) : List UInt8 :=
  if b / Nat.gcd a.natAbs b = 1 then Lib.itoa (a / (Nat.gcd a.natAbs b : Int)) else overText (a / (Nat.gcd a.natAbs b : Int)) (b / Nat.gcd a.natAbs b : Nat)

end Go.Proofs.YtnhfdcfnojnofaaGreatDoor

/-
  What the keeper's calc does with whole numbers' texts.
-/
namespace Go.Proofs.YtnhfdcfnojnofaaGreatDoor
open Go.RowKit

/-- What the keeper makes of raw bytes: a digit of each; a 7 ahead of none, or of a nought. -/
def digT (l : List UInt8) : List UInt8 := if l = [] ∨ l.head? = some 48 then 55 :: l else l

/-- The text of a whole number. -/
def wT (z : Int) : ByteArray := ⟨(Lib.itoa z).toArray⟩

/-- The keeper's calc answers so. -/
def KC (op : Int) (s t r : ByteArray) : Prop := ∀ W, Gl W → Calls Tryz.prog 22 #[.int .i64 op, .string s, .string t] W fun e w' => e = .returned (.string r) ∧ Below W.heap.size W w'

end Go.Proofs.YtnhfdcfnojnofaaGreatDoor

/-
  What the keeper's digits does.
-/
namespace Go.Proofs.YtnhfdcfnojnofaaGreatDoor
open Go.RowKit

/-- A digit of each of the first k bytes. -/
def digL (l : List UInt8) (k : Nat) : List UInt8 := (l.take k).map fun c => UInt8.ofNat (48 + c.toNat % 10)

theorem toList_len (s : ByteArray) : s.data.toList.length = s.size := Array.length_toList

end Go.Proofs.YtnhfdcfnojnofaaGreatDoor

/-
  What the document's own decimals, Text do (package planesref).
-/
namespace Go.Proofs.YtnhfdcfnojnofaaGreatDoor.T
open Go.RowKit

theorem pow4 (i : Nat) : 10000 ^ i = 10 ^ (4 * i) := by rw [Nat.pow_mul]

theorem ba_of {s : ByteArray} {l : List UInt8} (h : s.data.toList = l) : s = ⟨l.toArray⟩ := by
  subst h
  rfl

end Go.Proofs.YtnhfdcfnojnofaaGreatDoor.T
