/-
  Numbers written: String of a natural of one piece, of a whole, of a fraction.
-/
import Derived.Test.YtcmdglfjnepahaaGreatDoorTxt7
import Derived.Test.YtcmdglfjnepahaaGreatDoorFra8
import Derived.WalkSmall
set_option linter.unusedSimpArgs false
set_option linter.unusedVariables false
namespace Go.Proofs.YtcmdglfjnepahaaGreatDoor
open Go.RowKit

/-- The table of powers of ten lies as the library laid it. -/
def Tab (w : World) : Prop := Lib.TabIs Tryz.prog w "internal/strconv.uint64pow10" .u64 Lib.pow10Tab

theorem Tab.below {w w' : World} (h : Tab w) (hb : Below w.heap.size w w') : Tab w' := by
  unfold Tab Lib.TabIs World.var? at *
  cases hg : Tryz.prog.globalNamed "internal/strconv.uint64pow10" with
  | none => rw [hg] at h; simp at h
  | some g =>
    rw [hg] at h
    simp only [Option.bind_some] at h ⊢
    have hlt : g < w.heap.size := by
      rcases Nat.lt_or_ge g w.heap.size with h1 | h1
      · exact h1
      · rw [Array.getElem?_eq_none h1] at h; simp at h
    rw [hb.block g hlt]
    exact h

theorem lt_of_some {w : World} {g : Nat} {o : Obj} (h : w.heap[g]? = some o) : g < w.heap.size := by
  rcases Nat.lt_or_ge g w.heap.size with h1 | h1
  · exact h1
  · rw [Array.getElem?_eq_none h1] at h; simp at h

theorem builderAtF_below {T e B b : Nat} {p : Value} {bs : List Value} {w w' : World} (h : Lib.BuilderAtF T e B b p bs w) (hb : Below w.heap.size w w') : Lib.BuilderAtF T e B b p bs w' := by
  obtain ⟨h1, v, h2, ⟨h3, h4⟩, h5⟩ := h
  refine ⟨h1, v, (hb.block b (lt_of_some h2)).trans h2, ⟨h3, ?_⟩, h5⟩
  rcases h4 with h4 | ⟨g, cap, cur, fz, hv, hg, hh, hr⟩
  · exact Or.inl h4
  · exact Or.inr ⟨g, cap, cur, fz, hv, hg, (hb.block g (lt_of_some hh)).trans hh, hr⟩

theorem isBuilderF_below {T e B b : Nat} {bs : List Value} {w w' : World} (h : Lib.IsBuilderF T e B b bs w) (hb : Below w.heap.size w w') : Lib.IsBuilderF T e B b bs w' := by
  rcases h with h | h
  · exact Or.inl (builderAtF_below h hb)
  · exact Or.inr (builderAtF_below h hb)

theorem size_mkB (l : List UInt8) : (ByteArray.mk l.toArray).size = l.length := by simp [ByteArray.size]

theorem ba_append (a b : List UInt8) : (ByteArray.mk a.toArray) ++ (ByteArray.mk b.toArray) = ByteArray.mk (a ++ b).toArray := by
  apply ByteArray.ext
  simp

theorem decDigits_len {n : Nat} (hn : n < 18446744073709551616) : 1 ≤ (Lib.decDigits n).length ∧ (Lib.decDigits n).length ≤ 20 := by
  by_cases h0 : n = 0
  · subst h0; rw [Lib.decDigits_one (by omega)]; simp
  · rw [Lib.decDigits_length]
    have h1 := Lib.numDigits_eq n (by omega) hn
    have h2 : 1 ≤ Lib.nDigits n := by rw [Lib.nDigits]; split <;> omega
    split at h1 <;> omega

theorem itoa_len {z : Int} (hz : z.natAbs < 1000000000) : (Lib.itoa z).length ≤ 21 := by
  unfold Lib.itoa
  split
  · have := (decDigits_len (n := z.natAbs) (by omega)).2; simp; omega
  · have := (decDigits_len (n := z.toNat) (by omega)).2; omega

theorem pval_one {ps : List Nat} {n : Nat} (hn : n < 1000000000) (hn0 : n ≠ 0) (h : pval ps = n) (hl : ∀ k, ps.length = k + 1 → ps.getD k 0 ≠ 0) : ps = [n] := by
  match ps with
  | [] => exact absurd h.symm hn0
  | [a] => simp [pval] at h; rw [h]
  | a :: b :: r =>
    exfalso
    have h1 : 1 ≤ pval (b :: r) := by
      have hl2 := hl (r.length + 1) (by simp)
      have : ∀ (l : List Nat) (k : Nat), l.length = k + 1 → l.getD k 0 ≠ 0 → 1 ≤ pval l := by
        intro l
        induction l with
        | nil => intro k hk; simp at hk
        | cons c l ih =>
          intro k hk h0
          cases k with
          | zero => simp at h0; simp [pval]; omega
          | succ k => have := ih k (by simpa using hk) (by simpa using h0); simp only [pval]; omega
      exact this (b :: r) r.length (by simp) (by simpa using hl2)
    simp only [pval] at h h1
    omega

set_option maxHeartbeats 2000000 in
set_option maxRecDepth 100000 in
theorem natString_one (w : World) (v : Value) (n : Nat) (hv : NatV w v n) (hn0 : n ≠ 0) (hn : n < 1000000000) (htab : Tab w) :
    Calls Tryz.prog 48 #[v] w fun e w' => e = .returned (.string ⟨(Lib.decDigits n).toArray⟩) ∧ Below w.heap.size w w' := by
  have hdl : (Lib.decDigits n).length ≤ 20 := by
    rw [Lib.decDigits_length]
    have := Lib.numDigits_eq n (by omega) (by omega)
    split at this <;> omega
  go_enter Tryz.func48, Tryz.ntmps48
  go_wp2_with fail
  refine (isZero_no _ _ _ hv hn0).mono ?_
  rintro e w0 ⟨rfl, rfl⟩
  go_wp2_with fail
  refine (pieces_any _ _ n 1 hv hn0 (by omega) (by omega)).mono ?_
  rintro e w1 ⟨x, ps, rfl, hx, hps, hpv, hlast, hpl, hb1⟩
  have hone := pval_one hn hn0 hpv hlast
  subst hone
  obtain ⟨ao, cap, rfl, hc, hr⟩ := hx
  obtain ⟨g, off, rfl, hg, hrow⟩ := hr (by simp)
  have h0 : w1.cell? ⟨g, off, none⟩ = some (.int .u32 (n : Nat)) := by have := hrow 0 (by simp); simpa using this
  have htab1 := htab.below hb1
  clear hr hps hpv hlast hpl hrow hc
  have hbld : Lib.IsBuilderF 141 5 w1.heap.size w1.heap.size (Lib.byteCells []) (w1.alloc (.cells #[.pointer none, .slice none 0 0] 141)) := by
    refine Or.inl ⟨Nat.le_refl _, .slice none 0 0, heap_alloc_new _ _, ?_, by simp [Value.ownBlock]⟩
    exact World.ownsRowF_of (World.ownsRow_nil _ _ _ _)
  have hbW : Below w1.heap.size w1 (w1.alloc (.cells #[.pointer none, .slice none 0 0] 141)) := (Below.refl _ _).alloc (Nat.le_refl _) _
  go_wp2
  go_loopw [5] (fun iv wr => ∃ k : Nat, k ≤ 1 ∧ iv = .int .i64 ((k : Int) - 1) ∧ Lib.IsBuilderF 141 5 w1.heap.size w1.heap.size (Lib.byteCells (if k = 1 then [] else Lib.decDigits n)) wr ∧ Below w1.heap.size w1 wr) (fun iv _ => (intOf iv + 1).toNat)
  case atStart => exact ⟨1, by omega, rfl, hbld, hbW⟩
  case round =>
    obtain ⟨k, hk, rfl, hb, hbel⟩ := hrel
    cases k with
    | zero =>
      rw [if_neg (by omega)] at hb
      have hbs := hbel.size
      go_wp2_with fail
      refine (Tryz.Builder_String_any_k w1.heap.size w1.heap.size _ _ hb hbs).mono ?_
      rintro e w2 ⟨rfl, _, hb2, _⟩
      go_wp2
      go_ret
      exact ⟨rfl, hb1.trans ((hbel.trans hb2).mono hb1.size)⟩
    | succ k =>
      have hk0 : k = 0 := by omega
      subst hk0
      rw [if_pos (by omega)] at hb
      have h0' : wr.cell? ⟨g, off, none⟩ = some (.int .u32 (n : Nat)) := (hbel.cell (p := ⟨g, off, none⟩) hg).trans h0
      have htab2 := htab1.below hbel
      go_wp2_with fail
      refine (formatUint_any n (by omega) _ htab2).mono ?_
      rintro e w2 ⟨rfl, hb2⟩
      have hbB := isBuilderF_below hb hb2
      have hbel2 : Below w1.heap.size w1 w2 := hbel.trans (hb2.mono hbel.size)
      have hsz2 := size_mkB (Lib.decDigits n)
      have HSZ := hide hsz2
      have hbs2 := hbel2.size
      clear hsz2
      go_wp2_with fail
      refine (writeString_k w1.heap.size w1.heap.size (Lib.byteCells []) _ _ hbB (by rw [HSZ.out]; simp [Lib.byteCells]; omega) hbs2).mono ?_
      rintro e w3 ⟨rfl, hb3, hbel3, _⟩
      have hb3' : Lib.IsBuilderF 141 5 w1.heap.size w1.heap.size (Lib.byteCells (Lib.decDigits n)) w3 := by
        right
        have e1 : Lib.byteCells [] ++ Lib.strCells ⟨(Lib.decDigits n).toArray⟩ = Lib.byteCells (Lib.decDigits n) := by simp [Lib.byteCells, Lib.strCells]
        rw [e1] at hb3
        exact hb3
      clear hb3 hbB hb hb2
      go_wp2
      go_roundw
      case rel => exact ⟨0, by omega, by go_num, by rw [if_neg (by omega)]; exact hb3', hbel2.trans hbel3⟩
      case measure => simp [intOf]

set_option maxHeartbeats 400000 in
set_option maxRecDepth 100000 in
theorem natString_zero (w : World) (v : Value) (hv : NatV w v 0) :
    Calls Tryz.prog 48 #[v] w fun e w' => e = .returned (.string ⟨(Lib.decDigits 0).toArray⟩) ∧ Below w.heap.size w w' := by
  go_enter Tryz.func48, Tryz.ntmps48
  go_wp2_with fail
  refine (isZero_yes _ _ hv).mono ?_
  rintro e w0 ⟨rfl, rfl⟩
  go_wp2
  go_ret
  refine ⟨?_, Below.refl _ _⟩
  rw [Lib.decDigits_one (by omega)]
  rfl

theorem natString_any (w : World) (v : Value) (n : Nat) (hv : NatV w v n) (hn : n < 1000000000) (htab : Tab w) :
    Calls Tryz.prog 48 #[v] w fun e w' => e = .returned (.string ⟨(Lib.decDigits n).toArray⟩) ∧ Below w.heap.size w w' := by
  by_cases h0 : n = 0
  · subst h0; exact natString_zero w v hv
  · exact natString_one w v n hv h0 hn htab

set_option maxHeartbeats 1000000 in
set_option maxRecDepth 100000 in
theorem wholeString_any (w : World) (x : Value) (z : Int) (hx : WholeV w x z) (hz : z.natAbs < 1000000000) (htab : Tab w) :
    Calls Tryz.prog 47 #[x] w fun e w' => e = .returned (.string ⟨(Lib.itoa z).toArray⟩) ∧ Below w.heap.size w w' := by
  obtain ⟨b, ao, l, cap, rfl, hv, hb⟩ := hx.parts
  have hbW : Below w.heap.size w (w.alloc (.cells #[.bool b, .slice ao l cap] 62)) := (Below.refl _ _).alloc (Nat.le_refl _) _
  cases b with
  | true =>
    have hz0 : z < 0 := by have := hb.out; simp at this; omega
    have hdl := (decDigits_len (n := z.natAbs) (by omega)).2
    have HI : Hid (ByteArray.mk #[45] ++ ByteArray.mk (Lib.decDigits z.natAbs).toArray = ByteArray.mk (Lib.itoa z).toArray) := by
      rw [Hid, Lib.itoa, if_pos hz0]
      exact ba_append [45] _
    clear hz0
    go_enter Tryz.func47, Tryz.ntmps47
    go_wp2_with fail
    refine (natString_any _ _ _ (hv.alloc _) hz (htab.below hbW)).mono ?_
    rintro e w1 ⟨rfl, hb1⟩
    generalize Lib.decDigits z.natAbs = dd at *
    go_wp2
    go_ret
    exact ⟨by rw [← HI.out]; rfl, hbW.trans (hb1.mono hbW.size)⟩
  | false =>
    have hz0 : ¬ z < 0 := by have := hb.out; simp at this; omega
    have HI : Hid (Lib.itoa z = Lib.decDigits z.natAbs) := by
      rw [Hid, Lib.itoa, if_neg hz0]
      congr 1
      omega
    go_enter Tryz.func47, Tryz.ntmps47
    go_wp2_with fail
    refine (natString_any _ _ _ (hv.alloc _) hz (htab.below hbW)).mono ?_
    rintro e w1 ⟨rfl, hb1⟩
    go_wp2
    go_ret
    exact ⟨by rw [HI.out]; rfl, hbW.trans (hb1.mono hbW.size)⟩

/-- How a fraction p / q in lowest terms is written. -/
def fracText (p : Int) (q : Nat) : List UInt8 := if q = 1 then Lib.itoa p else Lib.itoa p ++ ([47] ++ Lib.decDigits q)

set_option maxHeartbeats 1000000 in
set_option maxRecDepth 100000 in
theorem fracString_any (w : World) (x : Value) (p : Int) (q : Nat) (hx : FracV w x p q) (hp : p.natAbs < 1000000000) (hqk : q < 1000000000) (htab : Tab w) :
    Calls Tryz.prog 25 #[x] w fun e w' => e = .returned (.string ⟨(fracText p q).toArray⟩) ∧ Below w.heap.size w w' := by
  have h0 := hx
  obtain ⟨b, ao, l, cap, ao', l', cap', rfl, hv, hb, hu, hq, hg⟩ := hx.parts
  have hboxP : Box3 (w.alloc (.cells #[.bool b, .slice ao l cap, .slice ao' l' cap'] 64)) w.heap.size (.bool b) (.slice ao l cap) (.slice ao' l' cap') := Box3.new _ _ _ _ _
  have hbW : Below w.heap.size w (w.alloc (.cells #[.bool b, .slice ao l cap, .slice ao' l' cap'] 64)) := (Below.refl _ _).alloc (Nat.le_refl _) _
  have hx1 : WholeV w (.agg #[.bool b, .slice ao l cap]) p := ⟨b, _, rfl, hv, hb⟩
  by_cases h1 : q = 1
  · subst h1
    have HT : Hid (fracText p 1 = Lib.itoa p) := by rw [Hid, fracText, if_pos rfl]
    go_enter Tryz.func25, Tryz.ntmps25
    go_wp2_with fail
    refine (isWhole_yes _ _ p (h0.alloc _)).mono ?_
    rintro e w1 ⟨rfl, hb1⟩
    have hx2 := (hx1.alloc (.cells #[.bool b, .slice ao l cap, .slice ao' l' cap'] 64)).below hb1
    have hboxP1 := hboxP.below hb1
    obtain ⟨p0, p1, p2, p3, p4, p5, p6⟩ := hboxP1
    have hbA : Below w.heap.size w w1 := hbW.trans (hb1.mono hbW.size)
    clear hb1 hboxP
    go_wp2_with fail
    refine (wholeString_any _ _ p hx2 hp (htab.below hbA)).mono ?_
    rintro e w2 ⟨rfl, hb2⟩
    go_wp2
    go_ret
    exact ⟨by rw [HT.out]; rfl, hbA.trans (hb2.mono hbA.size)⟩
  · rw [(lowN_ne hq h1).1] at hu
    have hl1 := itoa_len hp
    have hl2 := (decDigits_len (n := q) (by omega)).2
    have HT : Hid (ByteArray.mk (Lib.itoa p).toArray ++ ByteArray.mk #[47] ++ ByteArray.mk (Lib.decDigits q).toArray = ByteArray.mk (fracText p q).toArray) := by
      rw [Hid, fracText, if_neg h1]
      have e1 : ByteArray.mk (Lib.itoa p).toArray ++ ByteArray.mk #[47] = ByteArray.mk (Lib.itoa p ++ [47]).toArray := ba_append _ [47]
      rw [e1, ba_append, List.append_assoc]
    go_enter Tryz.func25, Tryz.ntmps25
    go_wp2_with fail
    refine (isWhole_no _ _ p q (h0.alloc _) h1).mono ?_
    rintro e w1 ⟨rfl, hb1⟩
    have hx2 := (hx1.alloc (.cells #[.bool b, .slice ao l cap, .slice ao' l' cap'] 64)).below hb1
    have hu2 := (hu.alloc (.cells #[.bool b, .slice ao l cap, .slice ao' l' cap'] 64)).below hb1
    have hboxP1 := hboxP.below hb1
    have hboxP2 := hboxP1
    obtain ⟨p0, p1, p2, p3, p4, p5, p6⟩ := hboxP2
    have hbA : Below w.heap.size w w1 := hbW.trans (hb1.mono hbW.size)
    have htab1 := htab.below hbA
    have htab1' : Tab w1.drew := htab1
    clear hb1 hboxP
    go_wp2
    go_region_held (fun w' => w'.cell? ⟨w.heap.size, 0, none⟩ = some (.bool b) ∧ w'.cell? ⟨w.heap.size, 1, none⟩ = some (.slice ao l cap) ∧ w'.cell? ⟨w.heap.size, 2, none⟩ = some (.slice ao' l' cap')) (go_keep) (first | (go_at_call 48; refine (natString_any _ _ q ((hu2.drew).below hbB) hqk (htab1'.below hbB)).mono ?_; rintro e wC ⟨rfl, hbC⟩; have hP3 := (hboxP1.drew.below hbB).below hbC; obtain ⟨s0, s1, s2, s3, s4, s5, s6⟩ := hP3) | (go_at_call 47; refine (wholeString_any _ _ p (by exact hx2.drewN 1) hp (by exact htab1')).mono ?_; rintro e wB ⟨rfl, hbB⟩; have hP2 := hboxP1.drew.below hbB; obtain ⟨r0, r1, r2, r3, r4, r5, r6⟩ := hP2))
    all_goals go_wp2
    all_goals go_ret
    all_goals
      have hbB' : Below w.heap.size w wB := hbA.trans ((below_drew hbB).mono hbA.size)
      exact ⟨by rw [← HT.out]; rfl, hbB'.trans (hbC.mono hbB'.size)⟩
end Go.Proofs.YtcmdglfjnepahaaGreatDoor
