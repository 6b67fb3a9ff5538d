/-
  Part 5 of the texts ahead of Pks1: Its1, Kpl1, Kee1, Prb1, Tn1.
-/
import Derived.RangeFuncNested
import Derived.RangeFuncBound
import Derived.RangeFuncLeaves
import Derived.WalkKit
import Derived.Deep.Draws
import Derived.Test.YtnhfdcfnojnofaaGreatDoorPks1Z4
import Derived.Deep.RegionHeld3
import Derived.Test.YtnhfdcfnojnofaaGreatDoorPks1Z1
import Derived.Test.YtnhfdcfnojnofaaGreatDoorShelf
import Derived.Lib.AppendIntMem
import Derived.WalkSmall
import Derived.Lib.IndexMore
import Derived.Lib.IndexLaws
import Derived.Test.YtnhfdcfnojnofaaGreatDoorPks1Z2
set_option linter.unusedSimpArgs false
set_option linter.unusedVariables false
/-
  A range over a function whose iterator hands out a known list of values: what the iterator promises ('SeqL'), and the law for the one who ranges over it ('range_list').
-/
namespace Go.Proofs.YtnhfdcfnojnofaaGreatDoor
open Go.RowKit

/-- All cells stay as they are, and all blocks below B. -/
structure Keep (B : Nat) (W W' : World) : Prop where
  os : W'.os = W.os
  tape : W'.tape = W.tape
  output : W'.output = W.output
  size : W.heap.size ≤ W'.heap.size
  block : ∀ (k : Nat) (o : Obj), W.heap[k]? = some o → (k < B ∨ o.isCells = true) → W'.heap[k]? = some o

theorem Keep.refl (B : Nat) (W : World) : Keep B W W := ⟨rfl, rfl, rfl, Nat.le_refl _, fun _ _ h _ => h⟩

theorem Keep.trans {B : Nat} {X Y Z : World} (h : Keep B X Y) (k : Keep B Y Z) : Keep B X Z :=
  ⟨k.os.trans h.os, k.tape.trans h.tape, k.output.trans h.output, Nat.le_trans h.size k.size, fun i o hi ho => k.block i o (h.block i o hi ho) ho⟩

theorem Keep.mono {B B' : Nat} {W W' : World} (h : Keep B W W') (hB : B' ≤ B) : Keep B' W W' :=
  ⟨h.os, h.tape, h.output, h.size, fun k o hk ho => h.block k o hk (ho.imp (fun h => Nat.lt_of_lt_of_le h hB) id)⟩

theorem Keep.of_below {B : Nat} {W W' : World} (h : Below W.heap.size W W') : Keep B W W' :=
  ⟨h.os, h.tape, h.output, h.size, fun k _ hk _ => (h.block k (Array.getElem?_eq_some_iff.1 hk).1).trans hk⟩

theorem Keep.alloc (B : Nat) (W : World) (o : Obj) : Keep B W (W.alloc o) := Keep.of_below ((Below.refl _ _).alloc (Nat.le_refl _) o)

theorem Keep.putObj {B l : Nat} {W : World} {o : Obj} (o' : Obj) (hB : B ≤ l) (hl : W.heap[l]? = some o) (ho : o.isCells = false) : Keep B W (W.putObj l o') :=
  ⟨rfl, rfl, rfl, by simp, fun k x hk hx => by
    have hne : k ≠ l := by
      intro e
      subst e
      rw [hl] at hk
      cases hk
      rcases hx with h | h
      · omega
      · rw [ho] at h; cases h
    exact (World.putObj_heap_other hne).trans hk⟩

/-- What was below n₀ still is, behind a step that keeps the cells. -/
theorem Keep.below {B n₀ : Nat} {w W W' : World} (h : Keep B W W') (hb : Below n₀ w W) (hB : n₀ ≤ B) (hn : n₀ ≤ w.heap.size) : Below n₀ w W' :=
  ⟨h.os.trans hb.os, h.tape.trans hb.tape, h.output.trans hb.output, Nat.le_trans hb.size h.size, fun k hk => by
    have hlt : k < W.heap.size := by have := hb.size; omega
    rw [← hb.block k hk, Array.getElem?_eq_getElem hlt]
    exact h.block k _ (Array.getElem?_eq_getElem hlt) (.inl (by omega))⟩

theorem cells_of_cell {W : World} {p : Addr} {v : Value} (h : W.cell? p = some v) : ∃ o : Obj, W.heap[p.block]? = some o ∧ o.isCells = true := by
  unfold World.cell? at h
  cases ho : W.heap[p.block]? with
  | none => simp [ho] at h
  | some o => exact ⟨o, rfl, by cases o <;> simp_all [Obj.isCells]⟩

theorem Keep.cell {B : Nat} {W W' : World} (h : Keep B W W') {p : Addr} {v : Value} (hc : W.cell? p = some v) : W'.cell? p = some v := by
  obtain ⟨o, ho, hi⟩ := cells_of_cell hc
  exact (World.cell?_of_block (w := W) ((h.block _ o ho (.inr hi)).trans ho.symm)).trans hc

theorem Keep.frozen {B : Nat} {W W' : World} (h : Keep B W W') {p : Addr} {v : Value} (hc : W.cell? p = some v) : W'.frozen? p = W.frozen? p := by
  obtain ⟨o, ho, hi⟩ := cells_of_cell hc
  exact World.frozen?_of_block (w := W) ((h.block _ o ho (.inr hi)).trans ho.symm)

theorem Keep.drewN (B : Nat) (W : World) (q : Nat) : Keep B W (W.drewN q) := ⟨rfl, rfl, rfl, Nat.le_refl _, fun _ _ h _ => h⟩
theorem Below.drawn {B : Nat} {a w : World} (h : Below B a w) (q : Nat) : Below B a (w.drewN q) := h.trans (c := w.drewN q) ⟨rfl, rfl, rfl, Nat.le_refl _, fun _ _ => rfl⟩

/-- What may have changed: the cells of the blocks T; new blocks may lie behind. -/
structure Wr (T : Nat → Prop) (w w' : World) : Prop where
  os : w'.os = w.os
  tape : w'.tape = w.tape
  output : w'.output = w.output
  size : w.heap.size ≤ w'.heap.size
  block : ∀ k, k < w.heap.size → ¬ T k → w'.heap[k]? = w.heap[k]?

theorem Wr.refl (T : Nat → Prop) (w : World) : Wr T w w := ⟨rfl, rfl, rfl, Nat.le_refl _, fun _ _ _ => rfl⟩
theorem Wr.trans {T : Nat → Prop} {a b c : World} (h : Wr T a b) (k : Wr T b c) : Wr T a c :=
  ⟨k.os.trans h.os, k.tape.trans h.tape, k.output.trans h.output, Nat.le_trans h.size k.size, fun i hi ht => (k.block i (Nat.lt_of_lt_of_le hi h.size) ht).trans (h.block i hi ht)⟩
theorem Wr.of_below {T : Nat → Prop} {w w' : World} (h : Below w.heap.size w w') : Wr T w w' := ⟨h.os, h.tape, h.output, h.size, fun k hk _ => h.block k hk⟩
theorem Wr.setCell {T : Nat → Prop} {a w : World} (h : Wr T a w) {p : Addr} (hp : T p.block) (u : Value) : Wr T a (w.setCell p u) :=
  h.trans ⟨rfl, rfl, rfl, by simp [World.setCell], fun k _ hk => Below.heap_setCell _ _ _ _ (fun e => hk (e ▸ hp))⟩
theorem Wr.mono {T T' : Nat → Prop} {w w' : World} (h : Wr T w w') (ht : ∀ k, T k → T' k) : Wr T' w w' := ⟨h.os, h.tape, h.output, h.size, fun k hk hn => h.block k hk (fun e => hn (ht k e))⟩
theorem Wr.below {T : Nat → Prop} {B : Nat} {w w' : World} (h : Wr T w w') (hB : B ≤ w.heap.size) (ht : ∀ k, T k → B ≤ k) : Below B w w' :=
  ⟨h.os, h.tape, h.output, h.size, fun k hk => h.block k (by omega) (fun e => by have := ht k e; omega)⟩
theorem Wr.cell {T : Nat → Prop} {w w' : World} (h : Wr T w w') {p : Addr} (hn : ¬ T p.block) {v : Value} (hv : w.cell? p = some v) : w'.cell? p = some v :=
  (World.cell?_of_block (w := w) (h.block p.block (block_lt_of_cell hv) hn)).trans hv
/-- Blocks that are no cells stay, where T is old. -/
theorem Wr.from {T : Nat → Prop} {B : Nat} {w w' : World} (h : Wr T w w') (ht : ∀ k, T k → k < B) : KeepsFrom B w w' :=
  ⟨h.size, fun k o hk ho _ => (h.block k (Array.getElem?_eq_some_iff.1 ho).1 (fun e => by have := ht k e; omega)).trans ho⟩

/-- What a round's call of yield leads to, whatever the count of frames at hand. -/
theorem YieldAt.any {n : Nat} (m : Nat) {P : Program} {l : Nat} {args : Array Value} {W : World} {R : Ending → World → Prop} (h : YieldAt Fence.wide n P l args W R) : YieldAt Fence.wide m P l args W R := by
  obtain ⟨fn, tmps, assign, body, hy, hR⟩ := h
  exact ⟨fn, tmps, assign, body, hy, hR.1, fun c cs _ => hR.2 c cs (room_wide _)⟩

/-- The iterator g hands out the list vs, one behind another, while each round says 'go on'. C: what it leans on in memory; J k M: what holds when k have come, M being the blocks that a round may write. -/
def SeqL (P : Program) (g : Nat) (lb : Array Value) (vs : List (Array Value)) (C : World → Prop) : Prop :=
  ∀ (l : Nat) (J : Nat → (Nat → Prop) → World → Prop) (Jx : Nat → World → Prop) (M0 : Nat → Prop) (W : World),
    (∀ k M A B, J k M A → Keep W.heap.size A B → J k M B) → (∀ k A B, Jx k A → Keep W.heap.size A B → Jx k B) →
    (∀ k M A, J k M A → C A ∧ ∀ x, M x → x < A.heap.size) →
    (∀ k v M W1, vs[k]? = some v → J k M W1 → YieldAt Fence.wide 0 P l v W1 fun e W' =>
      (e = .returned (.bool true) ∧ Wr M W1 W' ∧ ∃ M', J (k + 1) M' W' ∧ ∀ x, M' x → M x ∨ W1.heap.size ≤ x) ∨ (e = .returned (.bool false) ∧ Wr M W1 W' ∧ Jx k W')) →
    J 0 M0 W →
    Calls P g (#[.func (.yield l) #[] #[]] ++ lb) W fun e W' => (∃ v, e = .returned v) ∧ ((∃ M, J vs.length M W') ∨ ∃ k, k < vs.length ∧ Jx k W')

/-- How a round may be left; W: the world where the round began, W2: where its body began. -/
def roundEnd (M : Nat → Prop) (I : Nat → (Nat → Prop) → World → Prop) (Ix : Code → Nat → World → Prop) (k : Nat) (W W2 : World) : Exit → Act → World → Prop
  | .normal, _, W' => Wr M W2 W' ∧ ∃ M', I (k + 1) M' W' ∧ ∀ x, M' x → M x ∨ W.heap.size ≤ x
  | .ret, _, W' => Wr M W2 W' ∧ Ix .ret k W'
  | .exit id, _, W' => Wr M W2 W' ∧ Ix (.exit id) k W'
  | .goto t, _, W' => Wr M W2 W' ∧ Ix (.goto t) k W'
  | .panic _, _, _ => False
  | .outgrown, _, _ => False

/-- What a round does, from the values handed out to its end: the assignments, then the body. -/
def RoundOK (P : Program) (n B : Nat) (M : Nat → Prop) (I : Nat → (Nat → Prop) → World → Prop) (Ix : Code → Nat → World → Prop) (ps : Array Tmp) (assign body : Code) (a : Act) (l k : Nat) (v : Array Value) (W : World) : Prop :=
  assign.wpIn (Fence.wide.inRound l) n P
    (Exit.then (fun a' W' => Wr M W W' ∧ ∀ W2, Keep B W' W2 → body.wpIn (Fence.wide.inRound l) n P (roundEnd M I Ix k W W2) a' W2) (fun _ _ _ => False))
    { tmps := (ps.zip v).foldl (fun t (p, u) => t.setIfInBounds p u) a.tmps, defers := [] } W

theorem Wr.putObj {T : Nat → Prop} {w : World} {l : Nat} (hl : T l) (o : Obj) : Wr T w (w.putObj l o) :=
  ⟨rfl, rfl, rfl, by simp, fun k _ hk => World.putObj_heap_other (fun e => hk (e ▸ hl))⟩

theorem Wr.some {T : Nat → Prop} {w w' : World} (h : Wr T w w') {k : Nat} {o : Obj} (ho : w.heap[k]? = Option.some o) (hk : ¬ T k) : w'.heap[k]? = Option.some o :=
  (h.block k (Array.getElem?_eq_some_iff.1 ho).1 hk).trans ho

/-- The law for the one who ranges. -/
theorem range_list {P : Program} {n : Nat} {g : Operand} {ps : Array Tmp} {assign body : Code} {Q : Exit → Act → World → Prop} {a : Act} {w : World}
    {gf : Nat} {lb : Array Value} {vs : List (Array Value)} {C : World → Prop} (hseq : SeqL P gf lb vs C)
    (hg : a.eval g = .func (.func gf) #[] lb) (eg : ∀ args w, (callFunc gf args).run P w = .ok (.enter gf args) w)
    (hps : ∀ v ∈ vs, v.size = ps.size) (I : Nat → (Nat → Prop) → World → Prop) (Ix : Code → Nat → World → Prop) (M0 : Nat → Prop)
    (hI : ∀ k M A B, I k M A → Keep w.heap.size A B → I k M B) (hIx : ∀ c k A B, Ix c k A → Keep w.heap.size A B → Ix c k B)
    (hC : ∀ k M A, I k M A → C A ∧ ∀ x, M x → x < A.heap.size) (h0 : I 0 M0 w)
    (hround : ∀ (l k : Nat) (v : Array Value) (M : Nat → Prop) (W : World), vs[k]? = some v → I k M W → RoundOK P n w.heap.size M I Ix ps assign body a l k v W)
    (hdone : ∀ (D : Nat) (M : Nat → Prop) (W : World), w.heap.size ≤ D → I vs.length M W → W.heap[D]? = some (.deferred (some [])) → Q .normal { a with defers := { target := .collected D, args := #[] } :: a.defers } W)
    (hstop : ∀ (D : Nat) (c : Code) (k : Nat) (W : World), w.heap.size ≤ D → k < vs.length → Ix c k W → W.heap[D]? = some (.deferred (some [])) → c.wpIn Fence.wide n P Q { a with defers := { target := .collected D, args := #[] } :: a.defers } W) :
    (Code.rangeFunc g ps assign body).wpIn Fence.wide n P Q a w := by
  refine wpIn_rangeFunc fun fn _ => ?_
  obtain ⟨rc, hrc⟩ : ∃ rc : LoopState → Option Code → Loop, rc = fun st pe => { state := st, pending := pe, fn, tmps := a.tmps, params := ps, assign, body, defers := w.heap.size } := ⟨_, rfl⟩
  obtain ⟨W0, hW0⟩ : ∃ W0, (w.alloc (.deferred (some []))).alloc (.loop (rc .ready none)) = W0 := ⟨_, rfl⟩
  obtain ⟨l, hl⟩ : ∃ l, w.heap.size + 1 = l := ⟨_, rfl⟩
  have hL0 : W0.heap[l]? = some (.loop (rc .ready none)) := by
    rw [← hW0, ← hl]
    have h := World.alloc_heap_new (w.alloc (.deferred (some []))) (.loop (rc .ready none))
    rwa [World.size_alloc] at h
  have hD0 : W0.heap[w.heap.size]? = some (.deferred (some [])) := by
    rw [← hW0]
    exact (Below.heap_alloc _ _ _ (by simp)).trans (World.alloc_heap_new w _)
  have hI0 : I 0 M0 W0 := hI _ _ _ _ h0 (by rw [← hW0]; exact (Keep.alloc _ _ _).trans (Keep.alloc _ _ _))
  have hs2 : W0.heap.size = w.heap.size + 2 := by rw [← hW0]; simp
  have hsz : w.heap.size ≤ W0.heap.size := by omega
  refine ⟨l, [{ target := .collected w.heap.size, args := #[] }], W0, { target := .fn (.func gf) lb, args := #[.func (.yield l) #[] #[]] }, W0, gf,
    #[.func (.yield l) #[] #[]] ++ lb, W0, ?_, ?_, fun _ _ => trivial, ?_, (fun h => by cases h), callsIn_wide.2 ?_⟩
  · rw [← hW0, ← hl, hrc]; exact run_enterLoop_outer _ _ _ _ _
  · simp only [resolve, hg]
    simp [go_sem]
  · simp [invoke, go_sem, eg]
  · refine (hseq l
      (fun k M W => ∃ N, (∀ x, M x ↔ N x ∨ x = l) ∧ I k N W ∧ (∀ x, N x → x < w.heap.size ∨ W0.heap.size ≤ x) ∧ W.heap[l]? = some (.loop (rc .ready none)) ∧ W.heap[w.heap.size]? = some (.deferred (some [])))
      (fun k W => ∃ c, Ix c k W ∧ W.heap[l]? = some (.loop (rc .done (some c))) ∧ W.heap[w.heap.size]? = some (.deferred (some [])))
      (fun x => M0 x ∨ x = l) W0 ?_ ?_ ?_ ?_ ⟨M0, fun _ => Iff.rfl, hI0, fun x hx => .inl ((hC _ _ _ h0).2 x hx), hL0, hD0⟩).mono ?_
    · rintro k M A B ⟨N, h1, h2, h3, h4, h5⟩ hb
      exact ⟨N, h1, hI _ _ _ _ h2 (hb.mono hsz), h3, hb.block _ _ h4 (.inl (by omega)), hb.block _ _ h5 (.inl (by omega))⟩
    · rintro k A B ⟨c, h1, h2, h3⟩ hb
      exact ⟨c, hIx _ _ _ _ h1 (hb.mono hsz), hb.block _ _ h2 (.inl (by omega)), hb.block _ _ h3 (.inl (by omega))⟩
    · rintro k M A ⟨N, h1, h2, h3, h4, h5⟩
      refine ⟨(hC _ _ _ h2).1, fun x hx => ?_⟩
      rcases (h1 x).1 hx with h | h
      · exact (hC _ _ _ h2).2 x h
      · rw [h]; exact (Array.getElem?_eq_some_iff.1 h4).1
    · rintro k v M W hv ⟨N, hMN, hi, hN, hlr, hd⟩
      have hy := run_yield (P := P) (args := v) hlr (by rw [hrc]; exact hps v (List.mem_of_getElem? hv))
      rw [hrc] at hy
      have hNl : ¬ N l := fun h => by rcases hN l h with h | h <;> omega
      have hND : ¬ N w.heap.size := fun h => by rcases hN _ h with h | h <;> omega
      have hs0 : W0.heap.size ≤ W.heap.size := by
        have := (Array.getElem?_eq_some_iff.1 hlr).1
        omega
      have up : ∀ {X Y : World}, Wr N X Y → Wr M X Y := fun h => h.mono fun x hx => (hMN x).2 (.inl hx)
      refine YieldAt.any 0 (n := n) ⟨fn, _, assign, body, hy, roundIn_of_wpIn trivial (wpIn_mono (hround l k v N W hv hi) ?_)⟩
      rintro e a' W' he
      cases e with
      | normal =>
        obtain ⟨hk, hb⟩ := he
        have hl' := hk.some hlr hNl
        have hd' := hk.some hd hND
        refine ⟨_, run_beginRound hl' (by rw [hrc]), ?_⟩
        have hl2 : (W'.putObj l (.loop { rc .ready none with state := .busy })).heap[l]? = some (.loop { rc .ready none with state := .busy }) := World.putObj_heap_same (Array.getElem?_eq_some_iff.1 hl').1
        have hd2 : (W'.putObj l (.loop { rc .ready none with state := .busy })).heap[w.heap.size]? = some (.deferred (some [])) := (World.putObj_heap_other (by omega)).trans hd'
        have hw2 : Wr M W (W'.putObj l (.loop { rc .ready none with state := .busy })) := (up hk).trans (Wr.putObj ((hMN l).2 (.inr rfl)) _)
        refine wpIn_mono (hb _ (Keep.putObj _ (by omega) hl' rfl)) ?_
        have fin : ∀ (jump : Option Code) (W3 : World), Wr N (W'.putObj l (.loop { rc .ready none with state := .busy })) W3 →
            ∃ W4, (Instr.endRound l jump).run P W3 = .ok (.bool jump.isNone) W4 ∧ Keep w.heap.size W3 W4 ∧ Wr M W W4 ∧
              W4.heap[l]? = some (.loop (rc (if jump.isNone then .ready else .done) jump)) ∧ W4.heap[w.heap.size]? = some (.deferred (some [])) := fun jump W3 hk3 => by
          have hl3 := hk3.some hl2 hNl
          have hd3 := hk3.some hd2 hND
          refine ⟨_, run_endRound jump hl3, Keep.putObj _ (by omega) hl3 rfl, (hw2.trans (up hk3)).trans (Wr.putObj ((hMN l).2 (.inr rfl)) _), ?_, (World.putObj_heap_other (by omega)).trans hd3⟩
          rw [World.putObj_heap_same (Array.getElem?_eq_some_iff.1 hl3).1, hrc]
        rintro e a3 W3 hp
        cases e with
        | normal =>
          obtain ⟨hp1, N', hp2, hp3⟩ := hp
          obtain ⟨W4, hr, hk4, hw4, hl4, hd4⟩ := fin none W3 hp1
          refine ⟨_, _, hr, .inl ⟨rfl, hw4, fun x => N' x ∨ x = l, ⟨N', fun _ => Iff.rfl, hI _ _ _ _ hp2 hk4, fun x hx => ?_, hl4, hd4⟩, fun x hx => ?_⟩⟩
          · rcases hp3 x hx with h | h
            · exact hN x h
            · exact .inr (by omega)
          · rcases hx with h | h
            · rcases hp3 x h with h | h
              · exact .inl ((hMN x).2 (.inl h))
              · exact .inr h
            · exact .inl ((hMN x).2 (.inr h))
        | ret =>
          obtain ⟨W4, hr, hk4, hw4, hl4, hd4⟩ := fin (some .ret) W3 hp.1
          exact ⟨_, _, hr, .inr ⟨rfl, hw4, .ret, hIx _ _ _ _ hp.2 hk4, hl4, hd4⟩⟩
        | exit id =>
          obtain ⟨W4, hr, hk4, hw4, hl4, hd4⟩ := fin (some (.exit id)) W3 hp.1
          exact ⟨_, _, hr, .inr ⟨rfl, hw4, .exit id, hIx _ _ _ _ hp.2 hk4, hl4, hd4⟩⟩
        | goto t =>
          obtain ⟨W4, hr, hk4, hw4, hl4, hd4⟩ := fin (some (.goto t)) W3 hp.1
          exact ⟨_, _, hr, .inr ⟨rfl, hw4, .goto t, hIx _ _ _ _ hp.2 hk4, hl4, hd4⟩⟩
        | panic ch => exact hp.elim
        | outgrown => exact hp.elim
      | ret => exact he.elim
      | exit id => exact he.elim
      | goto t => exact he.elim
      | panic ch => exact he.elim
      | outgrown => exact he.elim
    · rintro e W2 ⟨⟨v, rfl⟩, (⟨M, N, _, hi, _, hlr, hd⟩ | ⟨k, hk, c, hi, hlr, hd⟩)⟩
      · refine ⟨none, _, (by have h := run_endLoop (P := P) hlr (by rw [hrc]; simp); rw [hrc] at h; exact h), ?_⟩
        exact hdone _ N _ (Nat.le_refl _) (hI _ _ _ _ hi (Keep.putObj _ (by omega) hlr rfl)) ((World.putObj_heap_other (by omega)).trans hd)
      · refine ⟨some c, _, (by have h := run_endLoop (P := P) hlr (by rw [hrc]; simp); rw [hrc] at h; exact h), ?_⟩
        exact hstop _ c k _ (Nat.le_refl _) hk (hIx _ _ _ _ hi (Keep.putObj _ (by omega) hlr rfl)) ((World.putObj_heap_other (by omega)).trans hd)

/-- At a function's end, one loop's mark at hand. -/
theorem leave_mark {P : Program} {n : Nat} {fn : Func} {tmps : Array Value} {R : Ending → World → Prop} {D : Nat} {ds : List Deferred} {W : World} (hD : W.heap[D]? = some (.deferred (some [])))
    (h : LeavesInM Fence.wide n P fn tmps R ds .returning (W.putObj D (.deferred none))) :
    LeavesInM Fence.wide n P fn tmps R ({ target := .collected D, args := #[] } :: ds) .returning W :=
  ⟨by simp, .inl ⟨_, _, rfl, run_takeDeferred hD, h⟩⟩

/-- A call of yield, where the walk has come to it. -/
theorem at_yield {n l : Nat} {P : Program} {o : Oper} {a : Act} {next : Act → World → Prop} {Q : Exit → Act → World → Prop} {v : Array Value} {W : World} {R1 R2 : World → Prop}
    (h : YieldAt Fence.wide 0 P l v W fun e W' => (e = .returned (.bool true) ∧ R1 W') ∨ (e = .returned (.bool false) ∧ R2 W'))
    (h1 : ∀ W', R1 W' → next (a.put o.dst (.bool true)) W') (h2 : ∀ W', R2 W' → next (a.put o.dst (.bool false)) W') :
    Oper.uponIn Fence.wide n P o a next Q ((Instr.yield l v).run P W) := by
  obtain ⟨fn, tmps, assign, body, hy, hR⟩ := YieldAt.any (n - 1) h
  rw [hy]
  refine ⟨(fun h => by cases h), hR.mono ?_⟩
  rintro e W' (⟨rfl, h3⟩ | ⟨rfl, h3⟩)
  · exact h1 W' h3
  · exact h2 W' h3

/-- The same within a round. -/
theorem at_yield_in {m n l : Nat} {P : Program} {o : Oper} {a : Act} {next : Act → World → Prop} {Q : Exit → Act → World → Prop} {v : Array Value} {W : World} {R1 R2 : World → Prop}
    (h : YieldAt Fence.wide 0 P l v W fun e W' => (e = .returned (.bool true) ∧ R1 W') ∨ (e = .returned (.bool false) ∧ R2 W'))
    (h1 : ∀ W', R1 W' → next (a.put o.dst (.bool true)) W') (h2 : ∀ W', R2 W' → next (a.put o.dst (.bool false)) W') :
    Oper.uponIn (Fence.wide.inRound m) n P o a next Q ((Instr.yield l v).run P W) := by
  obtain ⟨fn, tmps, assign, body, hy, hR⟩ := YieldAt.any (n - 1) h
  rw [hy]
  refine ⟨(fun h => by cases h), RoundIn.mono (F := Fence.wide.inRound m) hR ?_⟩
  rintro e W' (⟨rfl, h3⟩ | ⟨rfl, h3⟩)
  · exact h1 W' h3
  · exact h2 W' h3

/-- A call of yield within a round of another loop: its run, and one word for both answers. -/
theorem yield_in {l : Nat} (m n : Nat) {P : Program} {v : Array Value} {W : World} {R1 R2 : World → Prop}
    (h : YieldAt Fence.wide 0 P l v W fun e W' => (e = .returned (.bool true) ∧ R1 W') ∨ (e = .returned (.bool false) ∧ R2 W')) :
    ∃ fn tmps assign body, (Instr.yield l v).run P W = .ok (.round l fn tmps assign body) W ∧
      RoundIn (Fence.wide.inRound m) n P l fn tmps assign body W fun e W' => ∃ t, e = .returned (.bool t) ∧ Hid ((t = true → R1 W') ∧ (t = false → R2 W')) := by
  obtain ⟨fn, tmps, assign, body, hy, hR⟩ := YieldAt.any n h
  refine ⟨fn, tmps, assign, body, hy, RoundIn.mono (F := Fence.wide.inRound m) hR ?_⟩
  rintro e W' (⟨rfl, h3⟩ | ⟨rfl, h3⟩)
  · exact ⟨true, rfl, fun _ => h3, fun h => by cases h⟩
  · exact ⟨false, rfl, (fun h => by cases h), fun _ => h3⟩

theorem Keep.drew (B : Nat) (W : World) : Keep B W W.drew := ⟨rfl, rfl, rfl, Nat.le_refl _, fun _ _ h _ => h⟩
theorem Wr.drew (T : Nat → Prop) (W : World) : Wr T W W.drew := ⟨rfl, rfl, rfl, Nat.le_refl _, fun _ _ _ => rfl⟩

theorem wide_depth : (Fence.wide.depth = none) = True := by simp [Fence.wide]
theorem wide_fn (f : Nat) : Fence.wide.fn f = True := rfl
end Go.Proofs.YtnhfdcfnojnofaaGreatDoor

/-
  What the keeper's feed gives (package planeskeep).
-/
namespace Go.Proofs.YtnhfdcfnojnofaaGreatDoor
open Go.RowKit

/-- The feed's next number below n; where it stands then. -/
def fv (s : ByteArray) (a n : Nat) : Nat := if a < s.size then (s.data.toList.getD a 0).toNat % n else 0
def fa (s : ByteArray) (a : Nat) : Nat := if a < s.size then a + 1 else a

set_option maxHeartbeats 1000000 in
set_option maxRecDepth 100000 in
theorem next_any (s : ByteArray) (g a n : Nat) (w : World) (hb : Box2 w g (.string s) (.int .i64 (a : Nat))) (hs : s.size ≤ 9223372036854775807) (ha : a ≤ s.size) (hn : 0 < n) (hn2 : n ≤ 1000) :
    Calls Tryz.prog 43 #[.pointer (some ⟨g, 0, none⟩), .int .i64 (n : Nat)] w fun e w' => e = .returned (.int .i64 (fv s a n : Nat)) ∧ Box2 w' g (.string s) (.int .i64 (fa s a : Nat)) ∧ Wr (fun k => k = g) w w' := by
  have hb' := hb
  obtain ⟨h0, h1, h2, h3, h4⟩ := hb'
  by_cases h : a < s.size
  · have hI : (a : Int) < (s.size : Int) := by omega
    have hnn : ¬ (n : Int) = 0 := by omega
    unfold fv fa
    rw [if_pos h, if_pos h]
    have hge : s.data.toList.getD a 0 = s[a] := by
      rw [List.getD_eq_getElem?_getD, List.getElem?_eq_getElem (by rw [Array.length_toList]; exact h)]
      rfl
    have hby : (s[a]).toNat < 256 := (s[a]).toNat_lt
    have hmod : ((s[a]).toNat : Int).tmod (n : Int) = (((s[a]).toNat % n : Nat) : Int) := by rw [Int.tmod_eq_emod_of_nonneg (by omega)]; rfl
    have hbx : Box2 (w.setCell ⟨g, 1, none⟩ (.int .i64 ((a : Int) + 1))) g (.string s) (.int .i64 ((a : Int) + 1)) := ⟨by rw [World.cell?_setCell_other _ _ _ _ (by intro e; injection e with _ e2; omega)]; exact h0, World.cell?_setCell_same _ _ _ h1, by simpa using h2, by simpa using h3, by simpa using h4⟩
    have hwr : Wr (fun k => k = g) w (w.setCell ⟨g, 1, none⟩ (.int .i64 ((a : Int) + 1))) := Wr.setCell (T := fun k => k = g) (Wr.refl _ w) (p := ⟨g, 1, none⟩) rfl _
    have hbd : Box2 (w.setCell ⟨g, 1, none⟩ (.int .i64 ((a : Int) + 1))).drew.drew g (.string s) (.int .i64 ((a + 1 : Nat) : Int)) := hbx
    rw [hge]
    generalize hcv : (s[a]).toNat = cv at *
    go_enter Tryz.func43, Tryz.ntmps43
    go_wp2
    go_region_held3 (fun w' => w'.cell? ⟨g, 0, none⟩ = some (.string s) ∧ w'.cell? ⟨g, 1, none⟩ = some (.int .i64 (a : Nat))) (first | exact ⟨h0, h1⟩ | go_keep) (fail)
    all_goals go_wp2
    all_goals go_region_held3 (fun w' => w'.cell? ⟨g, 0, none⟩ = some (.string s) ∧ w'.cell? ⟨g, 1, none⟩ = some (.int .i64 (a : Nat))) (first | exact ⟨h0, h1⟩ | go_keep) (fail)
    all_goals go_wp2
    all_goals go_ret
    all_goals exact ⟨ret_int (by simp), hbd, ⟨hwr.os, hwr.tape, hwr.output, hwr.size, hwr.block⟩⟩
  · have hI : ¬ (a : Int) < (s.size : Int) := by omega
    unfold fv fa
    rw [if_neg h, if_neg h]
    go_enter Tryz.func43, Tryz.ntmps43
    go_wp2
    go_region_held3 (fun w' => w'.cell? ⟨g, 0, none⟩ = some (.string s) ∧ w'.cell? ⟨g, 1, none⟩ = some (.int .i64 (a : Nat))) (first | exact ⟨h0, h1⟩ | go_keep) (fail)
    all_goals go_wp2
    all_goals go_ret
    all_goals exact ⟨rfl, hb, Wr.drew _ _⟩
end Go.Proofs.YtnhfdcfnojnofaaGreatDoor

/-
  What the keeper's leaves do: pick, num, over.
-/
namespace Go.Proofs.YtnhfdcfnojnofaaGreatDoor
open Go.RowKit

/-- What pick answers. -/
def pickZ (c n : Int) : Int := (if c < 0 then -(c + 1) else c) % n

theorem pickZ_bd (c : Int) {n : Int} (hn : 0 < n) : 0 ≤ pickZ c n ∧ pickZ c n < n := by
  unfold pickZ
  exact ⟨Int.emod_nonneg _ (by omega), Int.emod_lt_of_pos _ hn⟩

theorem tmod_eq {a b : Int} (ha : 0 ≤ a) : Int.tmod a b = a % b := Int.tmod_eq_emod_of_nonneg ha

set_option maxHeartbeats 400000 in
theorem pick_any (c n : Int) (h0 : -9223372036854775808 ≤ c) (h1 : c ≤ 9223372036854775807) (hn : 0 < n) (hn1 : n ≤ 9223372036854775807) (w : World) :
    Calls Tryz.prog 16 #[.int .i64 c, .int .i64 n] w fun e w' => e = .returned (.int .i64 (pickZ c n)) ∧ w' = w := by
  have hb := pickZ_bd c hn
  by_cases hc : c < 0
  · have e : pickZ c n = Int.tmod (-(c + 1)) n := by rw [pickZ, if_pos hc, tmod_eq (by omega)]
    have HE := hide e
    rw [e] at hb
    clear e
    go_enter Tryz.func16, Tryz.ntmps16
    go_wp2
    go_ret
    exact ⟨ret_int (by rw [HE.out, Int.neg_tmod]), rfl⟩
  · have e : pickZ c n = Int.tmod c n := by rw [pickZ, if_neg hc, tmod_eq (by omega)]
    have HE := hide e
    rw [e] at hb
    clear e
    go_enter Tryz.func16, Tryz.ntmps16
    go_wp2
    go_ret
    exact ⟨ret_int (by rw [HE.out, tmod_eq hc]), rfl⟩

set_option maxHeartbeats 400000 in
theorem num_any (z : Int) (h0 : -9223372036854775808 ≤ z) (h1 : z ≤ 9223372036854775807) (w : World) (htab : Lib.TabIs Tryz.prog w "internal/strconv.uint64pow10" .u64 Lib.pow10Tab) :
    Calls Tryz.prog 20 #[.int .i64 z] w fun e w' => e = .returned (.string ⟨(Lib.itoa z).toArray⟩) ∧ Below w.heap.size w w' := by
  go_enter Tryz.func20, Tryz.ntmps20
  go_wp2_with fail
  refine (Tryz.strconv_Itoa z h0 h1 w htab).mono ?_
  rintro e w1 ⟨rfl, k, os, rfl⟩
  go_wp2
  go_ret
  exact ⟨rfl, Go.Lib.below_grow _ w (Nat.le_refl _) k os⟩

/-- A fraction's text, not in lowest terms. -/
def overText (a b : Int) : List UInt8 := Lib.itoa a ++ ([47] ++ Lib.itoa b)

end Go.Proofs.YtnhfdcfnojnofaaGreatDoor

/-
  Texts parted at a byte: by steps of strings.Cut, and as the document's own Words and Lines do.
-/
namespace Go.Proofs.YtnhfdcfnojnofaaGreatDoor

theorem indexB (l : List UInt8) (c : UInt8) : Lib.indexByte l c = Lib.index l [c] := by
  induction l with
  | nil => rfl
  | cons x r ih =>
    simp only [Lib.indexByte, Lib.index, ih]
    by_cases h : x = c
    · subst h; simp
    · have hp : ([c] : List UInt8).isPrefixOf (x :: r) = false := by simp [List.isPrefixOf, Ne.symm h]
      simp [h, hp]

theorem cutB_nil (c : UInt8) : Lib.cut [] [c] = ([], [], false) := rfl

theorem cutB_hit (c : UInt8) (r : List UInt8) : Lib.cut (c :: r) [c] = ([], r, true) := by
  have h : Lib.index (c :: r) [c] = 0 := by simp [Lib.index, List.isPrefixOf]
  simp [Lib.cut, h]

theorem cutB_miss {c x : UInt8} (hx : x ≠ c) (r : List UInt8) : Lib.cut (x :: r) [c] = (x :: (Lib.cut r [c]).1, (Lib.cut r [c]).2.1, (Lib.cut r [c]).2.2) := by
  have h : Lib.index (x :: r) [c] = if Lib.index r [c] = -1 then -1 else Lib.index r [c] + 1 := by
    simp only [Lib.index]
    have hp : ([c] : List UInt8).isPrefixOf (x :: r) = false := by simp [List.isPrefixOf, Ne.symm hx]
    simp [hp]
  by_cases h1 : Lib.index r [c] = -1
  · rw [if_pos h1] at h
    simp [Lib.cut, h, h1]
  · rw [if_neg h1] at h
    have h0 := Lib.index_ge r [c]
    have hp : 0 ≤ Lib.index r [c] := by omega
    obtain ⟨k, hk⟩ : ∃ k : Nat, Lib.index r [c] = (k : Int) := ⟨(Lib.index r [c]).toNat, by omega⟩
    rw [hk] at h hp
    have e1 : Lib.index (x :: r) [c] = ((k + 1 : Nat) : Int) := by rw [h]; rfl
    simp [Lib.cut, e1, hk]
    omega

/-- What strings.Cut at one byte leaves. -/
theorem cutB_len (c : UInt8) (l : List UInt8) : (Lib.cut l [c]).1.length + (Lib.cut l [c]).2.1.length + (if (Lib.cut l [c]).2.2 = true then 1 else 0) = l.length := by
  induction l with
  | nil => rfl
  | cons x r ih =>
    by_cases h : x = c
    · subst h; rw [cutB_hit]; simp
    · rw [cutB_miss h]
      simp only [List.length_cons]
      omega

theorem cutB_no {c : UInt8} {l : List UInt8} (h : (Lib.cut l [c]).2.2 = false) : Lib.cut l [c] = (l, [], false) := by
  induction l with
  | nil => rfl
  | cons x r ih =>
    by_cases hx : x = c
    · subst hx; rw [cutB_hit] at h; cases h
    · rw [cutB_miss hx] at h ⊢
      rw [ih h]

theorem cutB_noc (c : UInt8) (l : List UInt8) : ∀ x ∈ (Lib.cut l [c]).1, x ≠ c := by
  induction l with
  | nil => simp [cutB_nil]
  | cons y r ih =>
    by_cases hy : y = c
    · subst hy; rw [cutB_hit]; simp
    · rw [cutB_miss hy]
      intro x hx
      rcases List.mem_cons.1 hx with h | h
      · rw [h]; exact hy
      · exact ih x h

namespace T
/-- The parts so far, and the one under way. -/
def part (c : UInt8) (l : List UInt8) : List ByteArray × List UInt8 := l.foldl (fun d x => if x = c then (d.1 ++ [⟨d.2.toArray⟩], []) else (d.1, d.2 ++ [x])) ([], [])

end T

/-- Is a word a relation's? -/
def isSign (l : List UInt8) : Bool := decide (l = [60, 61]) || (decide (l = [62, 61]) || decide (l = [61]))

/-- The words of a line, by cutting. -/
def wordsF : Nat → List UInt8 → List (List UInt8)
  | 0, _ => []
  | f + 1, l => (Lib.cut l [32]).1 :: (if (Lib.cut l [32]).2.2 = true then wordsF f (Lib.cut l [32]).2.1 else [])

def words (l : List UInt8) : List (List UInt8) := wordsF (l.length + 1) l

theorem wordsF_len (f : Nat) : ∀ l : List UInt8, (wordsF f l).length ≤ l.length + 1 ∧ ∀ x ∈ wordsF f l, x.length ≤ l.length := by
  induction f with
  | zero => intro l; simp [wordsF]
  | succ f ih =>
    intro l
    rw [wordsF]
    have hl := cutB_len 32 l
    by_cases hc : (Lib.cut l [32]).2.2 = true
    · rw [if_pos hc] at hl ⊢
      obtain ⟨h1, h2⟩ := ih (Lib.cut l [32]).2.1
      refine ⟨by rw [List.length_cons]; omega, fun x hx => ?_⟩
      rcases List.mem_cons.1 hx with h | h
      · rw [h]; omega
      · have := h2 x h; omega
    · rw [if_neg hc]
      refine ⟨by simp, fun x hx => ?_⟩
      rw [List.mem_singleton.1 hx]
      omega

/-- The lines of a text, by cutting: the text of each, and whether it is ended. -/
def linesF : Nat → List UInt8 → List (List UInt8 × Bool)
  | 0, _ => []
  | f + 1, l => if l = [] then [] else ((Lib.cut l [10]).1, (Lib.cut l [10]).2.2) :: linesF f (Lib.cut l [10]).2.1

def lines (l : List UInt8) : List (List UInt8 × Bool) := linesF l.length l

theorem linesF_nil (f : Nat) : linesF f [] = [] := by cases f <;> simp [linesF]

theorem linesF_len (f : Nat) : ∀ l : List UInt8, (linesF f l).length ≤ l.length ∧ ∀ x ∈ linesF f l, x.1.length ≤ l.length := by
  induction f with
  | zero => intro l; simp [linesF]
  | succ f ih =>
    intro l
    rw [linesF]
    by_cases hn : l = []
    · subst hn; simp
    · rw [if_neg hn]
      have hl := cutB_len 10 l
      have h0 : 0 < l.length := List.length_pos_iff.2 hn
      obtain ⟨h1, h2⟩ := ih (Lib.cut l [10]).2.1
      have hb : (Lib.cut l [10]).2.1.length + 1 ≤ l.length := by
        by_cases hc : (Lib.cut l [10]).2.2 = true
        · rw [if_pos hc] at hl; omega
        · rw [cutB_no (c := 10) (l := l) (by simpa using hc)]; simp; omega
      refine ⟨by rw [List.length_cons]; omega, fun x hx => ?_⟩
      rcases List.mem_cons.1 hx with h | h
      · rw [h]; show (Lib.cut l [10]).1.length ≤ _; omega
      · have := h2 x h; omega
end Go.Proofs.YtnhfdcfnojnofaaGreatDoor

/-
  Numbers by places of four decimal digits: lists, the least place first.
-/
namespace Go.Proofs.YtnhfdcfnojnofaaGreatDoor.T


/-- The number that a list of digits to the base 2^32 is, the least first. -/
def val : List Nat → Nat
  | [] => 0
  | d :: ds => d + 10000 * val ds

/-- Each digit is below the base. -/
def Dig (ds : List Nat) : Prop := ∀ d ∈ ds, d < 10000

theorem Dig.cons {d : Nat} {ds : List Nat} (h : Dig (d :: ds)) : d < 10000 ∧ Dig ds :=
  ⟨h d (List.mem_cons_self ..), fun x hx => h x (List.mem_cons_of_mem _ hx)⟩

theorem Dig.take {ds : List Nat} (h : Dig ds) (n : Nat) : Dig (ds.take n) := fun d hd => h d (List.mem_of_mem_take hd)

theorem Dig.drop {ds : List Nat} (h : Dig ds) (n : Nat) : Dig (ds.drop n) := fun d hd => h d (List.mem_of_mem_drop hd)

theorem Dig.append {a b : List Nat} (h : Dig a) (k : Dig b) : Dig (a ++ b) := fun d hd => by
  rcases List.mem_append.1 hd with h1 | h1
  · exact h d h1
  · exact k d h1

/-- Lists of digits of one length: equal numbers, equal lists. -/
theorem val_inj_len {a b : List Nat} (ha : Dig a) (hb : Dig b) (hl : a.length = b.length) (hv : val a = val b) : a = b := by
  induction a generalizing b with
  | nil => cases b with
    | nil => rfl
    | cons _ _ => simp at hl
  | cons d ds ih => cases b with
    | nil => simp at hl
    | cons e es =>
      simp only [val] at hv
      have h1 := ha.cons.1
      have h2 := hb.cons.1
      have hd : d = e := by omega
      have ht : val ds = val es := by omega
      rw [hd, ih ha.cons.2 hb.cons.2 (by simpa using hl) ht]

end Go.Proofs.YtnhfdcfnojnofaaGreatDoor.T
