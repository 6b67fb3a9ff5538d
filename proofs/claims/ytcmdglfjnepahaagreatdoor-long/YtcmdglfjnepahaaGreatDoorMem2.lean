/-
  make, append and copy on slices of uint32 that the call itself makes.
-/
import Derived.Test.YtcmdglfjnepahaaGreatDoorMem
import Derived.Laws.CopyOwn
set_option linter.unusedSimpArgs false
set_option linter.unusedVariables false
namespace Go.Proofs.YtcmdglfjnepahaaGreatDoor
open Go.RowKit

theorem row_of_owns {w : World} {base e g n cap : Nat} {ds : List Nat} (h : w.ownsRow base e 1 (.slice (some ⟨g, 0, none⟩) n cap) n (ds.map fun d : Nat => .int .u32 (d : Int))) (hn : ds.length = n) : Row w g 0 ds := by
  intro i hi
  have := h.cellAt i (by omega)
  rw [Nat.zero_add, this, List.getElem?_map, List.getElem?_eq_getElem hi, List.getD_eq_getElem?_getD, List.getElem?_eq_getElem hi]
  rfl

theorem free_of_owns {w : World} {base e g n cap : Nat} {xs : List Value} (h : w.ownsRow base e 1 (.slice (some ⟨g, 0, none⟩) n cap) n xs) (m : Nat) : Free w g 0 m := by
  intro i _
  rw [Nat.zero_add]
  exact h.frozenAt i

theorem lt_of_owns {w : World} {base e g n cap : Nat} {xs : List Value} (h : w.ownsRow base e 1 (.slice (some ⟨g, 0, none⟩) n cap) n xs) : base ≤ g ∧ g < w.heap.size := h.lt g rfl

/-- A digit as a value. -/
def encD (d : Nat) : Value := .int .u32 (d : Int)

theorem owns_parts {w : World} {base e n : Nat} {v : Value} {ds : List Nat} (h : w.ownsRow base e 1 v n (ds.map encD)) (hne : v ≠ .slice none 0 0) :
    ∃ g cap, v = .slice (some ⟨g, 0, none⟩) n cap ∧ n ≤ cap ∧ base ≤ g ∧ g < w.heap.size ∧ Row w g 0 ds ∧ ∀ m, Free w g 0 m := by
  have h0 := h
  obtain ⟨hl, h1 | ⟨g, cap, cur, hv, hg, hh, hn, _, _, _⟩⟩ := h
  · exact absurd h1.1 hne
  · subst hv
    rw [List.length_map, Nat.mul_one] at hl
    exact ⟨g, cap, rfl, hn, hg, (lt_of_owns h0).2, row_of_owns h0 hl, fun m => free_of_owns h0 m⟩

theorem encD_one (ds : List Nat) : ∀ u ∈ ds.map encD, u.oneCell' = true := by
  intro u hu
  obtain ⟨d, _, rfl⟩ := List.mem_map.1 hu
  rfl

theorem row_news {w : World} {b off : Nat} {ds : List Nat} (h : Row w b off ds) : ∀ j u, (ds.map encD)[j]? = some u → w.cell? ((⟨b, off, none⟩ : Addr).add j) = some u := by
  intro j u hj
  rw [List.getElem?_map] at hj
  cases hd : ds[j]? with
  | none => rw [hd] at hj; simp at hj
  | some d =>
    rw [hd, Option.map_some, Option.some.injEq] at hj
    have hjl : j < ds.length := (List.getElem?_eq_some_iff.1 hd).1
    have := h j hjl
    rw [List.getD_eq_getElem?_getD, hd, Option.getD_some] at this
    subst hj
    by_cases h0 : j = 0
    · subst h0; simpa [Addr.add, encD] using this
    · simpa [Addr.add, encD, h0] using this

/-- 'make([]uint32, n)', n a variable: a new row of noughts. -/
theorem make_u32 {P : Program} (w : World) {ops : Array Oper} {rest : List Oper} {o : Oper} {a : Act} {Q : Exit → Act → World → Prop}
    (hg : o.guard = none) (l c : Operand) (t : TypeId) (hop : o.op = Op.makeSlice t l c)
    (e : TypeId) (i : TypeInfo) (h1 : P.underlying t = some (.slice e)) (h2 : P.info? e = some i) (h3 : i.zero = some (.int .u32 0)) (h4 : i.size = 1) (h5 : i.bytes = 4)
    (kl kc : IntKind) (L C : Int) (n : Nat) (hl : a.eval l = .int kl L) (hc : a.eval c = .int kc C) (hL : L = (n : Int)) (hC : C = (n : Int)) (hn : n ≤ 4294967296)
    (hK : ∀ w', Row w' w.heap.size 0 (List.replicate n 0) → Free w' w.heap.size 0 n → Below w.heap.size w w' → w.heap.size < w'.heap.size →
      wpList P ops Q rest (a.put o.dst (.slice (some ⟨w.heap.size, 0, none⟩) n n)) w') :
    wpList P ops Q (o :: rest) a w := by
  refine wpList_make_full w hg l c t hop w.heap.size e i (.int .u32 0) 1 h1 h2 h3 h4 kl kc L C n hl hc hL hC (by rw [h5]; omega) (by unfold maxLen; omega) (Nat.le_refl _) ?_
  intro w' hown hgrow
  have hcells : (madeCells (Value.int IntKind.u32 0).cells (n * 1)).toList = (List.replicate n 0).map fun d : Nat => .int .u32 (d : Int) := by
    rw [Nat.mul_one, List.map_replicate]
    exact toList_madeCells_one _ _
  rw [hcells] at hown
  exact hK w' (row_of_owns hown (by simp)) (free_of_owns hown n) ((Below.refl _ _).grown hgrow (Nat.le_refl _) (fun k h => by simp at h)) (lt_of_owns hown).2

theorem row_of_block {w : World} {g e : Nat} {ds : List Nat} (h : w.heap[g]? = some (.cells (ds.map encD).toArray e (0, 0))) : Row w g 0 ds ∧ (∀ m, Free w g 0 m) ∧ g < w.heap.size := by
  refine ⟨fun i hi => ?_, fun m i _ => frozen_of_row w g _ _ e h, lt_of_block h⟩
  rw [Nat.zero_add, cell_of_row w g i _ e (0, 0) h, List.getElem?_toArray, List.getElem?_map, List.getElem?_eq_getElem hi, List.getD_eq_getElem?_getD, List.getElem?_eq_getElem hi]
  rfl

/-- 'make([]uint32, n)': what the new block is. -/
theorem make_u32b {P : Program} (w : World) {ops : Array Oper} {rest : List Oper} {o : Oper} {a : Act} {Q : Exit → Act → World → Prop}
    (hg : o.guard = none) (l c : Operand) (t : TypeId) (hop : o.op = Op.makeSlice t l c)
    (e : TypeId) (i : TypeInfo) (h1 : P.underlying t = some (.slice e)) (h2 : P.info? e = some i) (h3 : i.zero = some (.int .u32 0)) (h4 : i.size = 1) (h5 : i.bytes = 4)
    (kl kc : IntKind) (L C : Int) (n : Nat) (hl : a.eval l = .int kl L) (hc : a.eval c = .int kc C) (hL : L = (n : Int)) (hC : C = (n : Int)) (hn : n ≤ 4294967296)
    (hK : ∀ w', Hid (w'.heap[w.heap.size]? = some (.cells ((List.replicate n 0).map encD).toArray e (0, 0))) → Below w.heap.size w w' →
      wpList P ops Q rest (a.put o.dst (.slice (some ⟨w.heap.size, 0, none⟩) n n)) w') :
    wpList P ops Q (o :: rest) a w := by
  refine wpList_make_full w hg l c t hop w.heap.size e i (.int .u32 0) 1 h1 h2 h3 h4 kl kc L C n hl hc hL hC (by rw [h5]; omega) (by unfold maxLen; omega) (Nat.le_refl _) ?_
  intro w' hown hgrow
  have hcells : (madeCells (Value.int IntKind.u32 0).cells (n * 1)).toList = (List.replicate n 0).map encD := by
    rw [Nat.mul_one, List.map_replicate]
    exact toList_madeCells_one _ _
  rw [hcells] at hown
  refine hK w' ?_ ((Below.refl _ _).grown hgrow (Nat.le_refl _) (fun k h => by simp at h))
  obtain ⟨_, h1 | ⟨g, cap, cur, hv, _, hh, _, _, hsz, htk⟩⟩ := hown
  · exact absurd h1.1 (by simp)
  · simp only [Value.slice.injEq, Option.some.injEq, Addr.mk.injEq] at hv
    obtain ⟨⟨rfl, _, _⟩, _, rfl⟩ := hv
    rw [List.take_of_length_le (by simp; omega)] at htk
    rw [Hid, hh, ← htk]

/-- 'copy(dst, src)' into a row of the call's own, of digits. -/
theorem copy_u32 {P : Program} {w : World} {ops : Array Oper} {rest : List Oper} {o : Oper} {a : Act} {Q : Exit → Act → World → Prop} (hgd : o.guard = none) (d s : Operand) (dT sT : TypeId)
    (ho : o.op = .call { callee := .builtin .copy, args := #[d, s], argTypes := #[dT, sT] }) (e : TypeId) (hu : P.underlying dT = some (.slice e)) (hsz : (P.info? e).map (·.size) = some 1)
    (g dLen dCap : Nat) (v : Value) (ds es : List Nat) (hd : a.eval d = .slice (some ⟨g, 0, none⟩) dLen dCap) (hdl : ds.length = dLen) (hs : a.eval s = v) (hv : U32s w v es)
    (hg : w.heap[g]? = some (.cells (ds.map encD).toArray e (0, 0))) (hle : es.length ≤ ds.length) (B : Nat) (w0 : World) (hb : Below B w0 w) (hBg : B ≤ g)
    (h : ∀ w', Hid (w'.heap[g]? = some (.cells ((es ++ ds.drop es.length).map encD).toArray e (0, 0))) → Below B w0 w' → wpList P ops Q rest (a.put o.dst (goInt es.length)) w') :
    wpList P ops Q (o :: rest) a w := by
  obtain ⟨ao, cap, hv, _, hr⟩ := hv
  refine wpList_copy_splice hgd d s dT sT ho e hu hsz (some ⟨g, 0, none⟩) ao dLen dCap es.length cap hd (hs.trans hv) g 0 (ds.map encD) e hg (es.map encD) (by rw [List.length_map]; exact (Nat.min_eq_left (by omega)).symm) ?_ (by simp; omega) (encD_one es) B w0 hb hBg ?_
  · intro hpos
    rw [List.length_map] at hpos
    obtain ⟨b, off, rfl, _, hrow⟩ := hr (List.length_pos_iff.1 hpos)
    exact ⟨rfl, _, rfl, row_news hrow⟩
  · intro w' hh hbb
    rw [List.length_map]
    refine h w' ?_ hbb
    have e1 : splice (ds.map encD) 0 (es.map encD) = (es ++ ds.drop es.length).map encD := by simp [splice]
    rw [e1] at hh
    exact hh
end Go.Proofs.YtcmdglfjnepahaaGreatDoor
