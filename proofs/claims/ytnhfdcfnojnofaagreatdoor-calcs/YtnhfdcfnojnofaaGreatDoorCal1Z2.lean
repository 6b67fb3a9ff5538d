/-
  Part 2 of the texts ahead of Cal1: Num2, Nat5, Mem2, Nat6, Nat7, Txt1, Txt2, Txt3, Nat8.
-/
import Derived.Test.YtnhfdcfnojnofaaGreatDoorCal1Z1
import Derived.Laws.CopyOwn
import Derived.Test.YtnhfdcfnojnofaaGreatDoorShelf
import Derived.Lib.Strings
set_option linter.unusedSimpArgs false
set_option linter.unusedVariables false
/-
  More plain numbers: one round of dividing by a digit; one round of multiplying.
-/
namespace Go.Proofs.YtnhfdcfnojnofaaGreatDoor

theorem take_set_le (ds : List Nat) (k x : Nat) : (ds.set k x).take k = ds.take k := List.take_set_of_le (Nat.le_refl _)

theorem getD_of_take {a b : List Nat} {k : Nat} (h : a.take (k + 1) = b.take (k + 1)) : a.getD k 0 = b.getD k 0 := by
  have e1 : (a.take (k + 1))[k]? = a[k]? := by rw [List.getElem?_take, if_pos (by omega)]
  have e2 : (b.take (k + 1))[k]? = b[k]? := by rw [List.getElem?_take, if_pos (by omega)]
  rw [List.getD_eq_getElem?_getD, List.getD_eq_getElem?_getD, ← e1, ← e2, h]

theorem take_pred {a b : List Nat} {k : Nat} (h : a.take (k + 1) = b.take (k + 1)) : a.take k = b.take k := by
  have e1 : (a.take (k + 1)).take k = a.take k := by rw [List.take_take, Nat.min_eq_left (by omega)]
  have e2 : (b.take (k + 1)).take k = b.take k := by rw [List.take_take, Nat.min_eq_left (by omega)]
  rw [← e1, ← e2, h]

theorem div_step {cur ds : List Nat} {k D r : Nat} (hk : k < cur.length) (hl : cur.length = ds.length) (hi : val (ds.drop (k + 1)) = D * val (cur.drop (k + 1)) + r) :
    val (ds.drop k) = D * val ((cur.set k ((ds.getD k 0 + 4294967296 * r) / D)).drop k) + (ds.getD k 0 + 4294967296 * r) % D := by
  rw [val_drop ds k (by omega), val_drop _ k (by simpa using hk), getD_set_same cur k _ hk, drop_set_succ, hi]
  generalize ds.getD k 0 = x
  generalize val (cur.drop (k + 1)) = Q
  have h1 := Nat.div_add_mod (x + 4294967296 * r) D
  rw [Nat.mul_add D, Nat.mul_left_comm D 4294967296 Q, Nat.mul_add 4294967296]
  omega

theorem div_bd {x D r : Nat} (hx : x < 4294967296) (hr : r < D) : (x + 4294967296 * r) / D < 4294967296 := by
  rw [Nat.div_lt_iff_lt_mul (by omega)]
  have : 4294967296 * (r + 1) ≤ 4294967296 * D := Nat.mul_le_mul_left _ hr
  omega

theorem mul_step {cur cur' es : List Nat} {k j d c : Nat} (hk : k + j < cur'.length) (hdr : cur'.drop (k + j) = cur.drop (k + j))
    (hi : val (cur'.take (k + j)) + 4294967296 ^ (k + j) * c = val (cur.take (k + j)) + 4294967296 ^ k * (d * val (es.take j))) :
    val ((cur'.set (k + j) ((c + (d * es.getD j 0 + cur.getD (k + j) 0)) % 4294967296)).take (k + (j + 1))) + 4294967296 ^ (k + (j + 1)) * ((c + (d * es.getD j 0 + cur.getD (k + j) 0)) / 4294967296) =
      val (cur.take (k + (j + 1))) + 4294967296 ^ k * (d * val (es.take (j + 1))) := by
  have h := val_lay cur' (k + j) (c + (d * es.getD j 0 + cur.getD (k + j) 0)) hk
  rw [← Nat.add_assoc, h, val_take_any cur (k + j), val_take_any es j]
  generalize val (cur'.take (k + j)) = A at *
  generalize val (cur.take (k + j)) = C at *
  generalize val (es.take j) = E at *
  generalize es.getD j 0 = y
  generalize cur.getD (k + j) 0 = z
  rw [Nat.pow_add] at hi ⊢
  generalize 4294967296 ^ k = p at *
  generalize 4294967296 ^ j = q at *
  have e1 : p * q * (c + (d * y + z)) = p * q * c + p * q * (d * y) + p * q * z := by rw [Nat.mul_add, Nat.mul_add, Nat.add_assoc]
  have e2 : p * (d * (E + q * y)) = p * (d * E) + p * q * (d * y) := by
    rw [Nat.mul_add, Nat.mul_add, Nat.mul_assoc p q, Nat.mul_left_comm d q y]
  rw [e1, e2]
  omega

theorem mul_end {cur cur' ds es : List Nat} {k d c : Nat} (hk : k + es.length < cur'.length) (hd : d = ds.getD k 0)
    (hi : val (cur'.take (k + es.length)) + 4294967296 ^ (k + es.length) * c = val (cur.take (k + es.length)) + 4294967296 ^ k * (d * val es))
    (ho : val (cur.take (k + es.length)) = val (ds.take k) * val es) :
    val ((cur'.set (k + es.length) c).take (k + 1 + es.length)) = val (ds.take (k + 1)) * val es := by
  rw [show k + 1 + es.length = k + es.length + 1 by omega, take_set_succ cur' _ c hk, val_append, List.length_take, Nat.min_eq_left (by omega), val_take_any ds k, ← hd]
  simp only [val, Nat.mul_zero, Nat.add_zero]
  rw [hi, ho, Nat.add_mul, Nat.mul_assoc]

theorem mul_bd2 {c d e z : Nat} (hc : c < 4294967296) (hd : d < 4294967296) (he : e < 4294967296) (hz : z < 4294967296) : c + (d * e + z) < 18446744073709551616 ∧ (c + (d * e + z)) / 4294967296 < 4294967296 := by
  have h1 : d * e ≤ 4294967295 * 4294967295 := Nat.mul_le_mul (by omega) (by omega)
  omega

theorem val_snoc0 (a : List Nat) (n : Nat) : val (a ++ List.replicate n 0) = val a := by
  rw [val_append, val_replicate, Nat.mul_zero, Nat.add_zero]

/-- Nothing is carried out of a sum with one digit more than the longer one. -/
theorem sum_fits {a b s : List Nat} {c : Nat} (ha : Dig a) (hb : Dig b) (hl : b.length ≤ a.length) (h : val s + 4294967296 ^ (a.length + 1) * c = val a + val b) : val s = val a + val b := by
  have h1 := val_lt ha
  have h2 := Nat.lt_of_lt_of_le (val_lt hb) (pow_mono hl)
  rw [Nat.pow_succ] at h
  generalize 4294967296 ^ a.length = p at *
  have h5 : p * 2 ≤ p * 4294967296 := Nat.mul_le_mul_left p (by omega)
  generalize p * 4294967296 = r at *
  cases c with
  | zero => rw [Nat.mul_zero, Nat.add_zero] at h; exact h
  | succ c =>
    exfalso
    rw [Nat.mul_succ r c] at h
    generalize r * c = q at *
    omega

theorem sub_fits {a b s : List Nat} {r L : Nat} (hs : Dig s) (hL : s.length = L) (hle : val b ≤ val a) (h : val s + 1 * val b = val a + 4294967296 ^ L * r) : val s = val a - val b := by
  have h1 := val_lt hs
  rw [hL] at h1
  generalize 4294967296 ^ L = p at *
  cases r with
  | zero => rw [Nat.mul_zero, Nat.add_zero, Nat.one_mul] at h; omega
  | succ r =>
    exfalso
    rw [Nat.mul_succ p r] at h
    generalize p * r = q at *
    omega
end Go.Proofs.YtnhfdcfnojnofaaGreatDoor

/-
  What shortDivide of package natural does.
-/
namespace Go.Proofs.YtnhfdcfnojnofaaGreatDoor
open Go.RowKit

set_option maxHeartbeats 1000000 in
theorem shortDivide_any (w : World) (b off cap D : Nat) (ds : List Nat) (hcap : ds.length ≤ cap) (hlen : ds.length ≤ 1073741824) (hD : 0 < D) (hD2 : D < 4294967296)
    (hrow : Row w b off ds) (hfr : Free w b off ds.length) (hd : Dig ds) :
    Calls Tryz.prog 224 #[.slice (some ⟨b, off, none⟩) ds.length cap, .int .u32 (D : Nat)] w fun e w' =>
      ∃ ds' r, e = .returned (.int .u32 (r : Nat)) ∧ r < D ∧ ds'.length = ds.length ∧ Dig ds' ∧ Row w' b off ds' ∧ Upd b off ds.length w w' ∧ val ds = D * val ds' + r := by
  go_enter Tryz.func224, Tryz.ntmps224
  go_wp2
  go_loopw [5, 6] (fun lv i wr => ∃ (k r : Nat) (cur : List Nat), k ≤ ds.length ∧ r < D ∧ i = .int .i64 ((k : Int) - 1) ∧ lv = .int .u64 (r : Nat) ∧ Hid (cur.length = ds.length) ∧ Dig cur ∧ Row wr b off cur ∧ Upd b off ds.length w wr ∧
      Hid (cur.take k = ds.take k) ∧ Hid (val (ds.drop k) = D * val (cur.drop k) + r)) (fun _ i _ => (intOf i + 1).toNat)
  case atStart => exact ⟨ds.length, 0, ds, Nat.le_refl _, hD, rfl, rfl, rfl, hd, hrow, Upd.refl _ _ _ _, rfl, by simp [Hid, val]⟩
  case round =>
    obtain ⟨k, r, cur, hk, hr, rfl, rfl, hcl, hcd, hcr, hup, htk, hval⟩ := hrel
    cases k with
    | zero =>
      have HV := hide hval.out
      simp only [List.drop_zero] at HV
      clear hval
      go_wp2
      go_ret
      exact ⟨cur, r, by go_num, hr, hcl.out, hcd, hcr, hup, HV.out⟩
    | succ k =>
      have hkc : k < cur.length := by rw [hcl.out]; omega
      have hx := hcr k hkc
      rw [getD_of_take htk.out] at hx
      have hxl := hd.get k
      have hfz : wr.frozen? ⟨b, off + k, none⟩ = false := hup.free hfr k (by omega)
      have HS := hide (div_step hkc hcl.out hval.out)
      have hql := div_bd hxl hr
      have hset := hcr.setCell k ((ds.getD k 0 + 4294967296 * r) / D) hkc
      have hupd := hup.setCell k (show k < ds.length by omega) (.int .u32 (((ds.getD k 0 + 4294967296 * r) / D : Nat) : Int))
      have hor := or_join r (ds.getD k 0) (by omega) hxl
      have hml := Nat.mod_lt (ds.getD k 0 + 4294967296 * r) hD
      have hxb : ds.getD k 0 + 4294967296 * r < 18446744073709551616 := by omega
      generalize ds.getD k 0 = x at *
      have hq1 : ((x + 4294967296 * r : Nat) : Int) / (D : Int) = (((x + 4294967296 * r) / D : Nat) : Int) := by simp
      have hq2 : ((x + 4294967296 * r : Nat) : Int) % (D : Int) = (((x + 4294967296 * r) % D : Nat) : Int) := by simp
      generalize (x + 4294967296 * r) / D = q at *
      generalize (x + 4294967296 * r) % D = r' at *
      generalize x + 4294967296 * r = y at *
      clear hval
      go_wp2
      go_roundw
      case rel => exact ⟨k, r', _, by omega, hml, by go_num, by rw [hq2], by rw [Hid, List.length_set, hcl.out], hcd.set _ _ hql, hset, hupd, by rw [Hid, take_set_le]; exact take_pred htk.out, HS.out⟩
      case measure => simp [intOf]
end Go.Proofs.YtnhfdcfnojnofaaGreatDoor

/-
  make, append and copy on slices of uint32 that the call itself makes.
-/
namespace Go.Proofs.YtnhfdcfnojnofaaGreatDoor
open Go.RowKit

theorem row_of_owns {w : World} {base e g n cap : Nat} {ds : List Nat} (h : w.ownsRow base e 1 (.slice (some ⟨g, 0, none⟩) n cap) n (ds.map fun d : Nat => .int .u32 (d : Int))) (hn : ds.length = n) : Row w g 0 ds := by
  intro i hi
  have := h.cellAt i (by omega)
  rw [Nat.zero_add, this, List.getElem?_map, List.getElem?_eq_getElem hi, List.getD_eq_getElem?_getD, List.getElem?_eq_getElem hi]
  rfl

theorem free_of_owns {w : World} {base e g n cap : Nat} {xs : List Value} (h : w.ownsRow base e 1 (.slice (some ⟨g, 0, none⟩) n cap) n xs) (m : Nat) : Free w g 0 m := by
  intro i _
  rw [Nat.zero_add]
  exact h.frozenAt i

theorem lt_of_owns {w : World} {base e g n cap : Nat} {xs : List Value} (h : w.ownsRow base e 1 (.slice (some ⟨g, 0, none⟩) n cap) n xs) : base ≤ g ∧ g < w.heap.size := h.lt g rfl

/-- A digit as a value. -/
def encD (d : Nat) : Value := .int .u32 (d : Int)

theorem owns_parts {w : World} {base e n : Nat} {v : Value} {ds : List Nat} (h : w.ownsRow base e 1 v n (ds.map encD)) (hne : v ≠ .slice none 0 0) :
    ∃ g cap, v = .slice (some ⟨g, 0, none⟩) n cap ∧ n ≤ cap ∧ base ≤ g ∧ g < w.heap.size ∧ Row w g 0 ds ∧ ∀ m, Free w g 0 m := by
  have h0 := h
  obtain ⟨hl, h1 | ⟨g, cap, cur, hv, hg, hh, hn, _, _, _⟩⟩ := h
  · exact absurd h1.1 hne
  · subst hv
    rw [List.length_map, Nat.mul_one] at hl
    exact ⟨g, cap, rfl, hn, hg, (lt_of_owns h0).2, row_of_owns h0 hl, fun m => free_of_owns h0 m⟩

theorem encD_one (ds : List Nat) : ∀ u ∈ ds.map encD, u.oneCell' = true := by
  intro u hu
  obtain ⟨d, _, rfl⟩ := List.mem_map.1 hu
  rfl

theorem row_news {w : World} {b off : Nat} {ds : List Nat} (h : Row w b off ds) : ∀ j u, (ds.map encD)[j]? = some u → w.cell? ((⟨b, off, none⟩ : Addr).add j) = some u := by
  intro j u hj
  rw [List.getElem?_map] at hj
  cases hd : ds[j]? with
  | none => rw [hd] at hj; simp at hj
  | some d =>
    rw [hd, Option.map_some, Option.some.injEq] at hj
    have hjl : j < ds.length := (List.getElem?_eq_some_iff.1 hd).1
    have := h j hjl
    rw [List.getD_eq_getElem?_getD, hd, Option.getD_some] at this
    subst hj
    by_cases h0 : j = 0
    · subst h0; simpa [Addr.add, encD] using this
    · simpa [Addr.add, encD, h0] using this

/-- 'make([]uint32, n)', n a variable: a new row of noughts. -/
theorem make_u32 {P : Program} (w : World) {ops : Array Oper} {rest : List Oper} {o : Oper} {a : Act} {Q : Exit → Act → World → Prop}
    (hg : o.guard = none) (l c : Operand) (t : TypeId) (hop : o.op = Op.makeSlice t l c)
    (e : TypeId) (i : TypeInfo) (h1 : P.underlying t = some (.slice e)) (h2 : P.info? e = some i) (h3 : i.zero = some (.int .u32 0)) (h4 : i.size = 1) (h5 : i.bytes = 4)
    (kl kc : IntKind) (L C : Int) (n : Nat) (hl : a.eval l = .int kl L) (hc : a.eval c = .int kc C) (hL : L = (n : Int)) (hC : C = (n : Int)) (hn : n ≤ 4294967296)
    (hK : ∀ w', Row w' w.heap.size 0 (List.replicate n 0) → Free w' w.heap.size 0 n → Below w.heap.size w w' → w.heap.size < w'.heap.size →
      wpList P ops Q rest (a.put o.dst (.slice (some ⟨w.heap.size, 0, none⟩) n n)) w') :
    wpList P ops Q (o :: rest) a w := by
  refine wpList_make_full w hg l c t hop w.heap.size e i (.int .u32 0) 1 h1 h2 h3 h4 kl kc L C n hl hc hL hC (by rw [h5]; omega) (by unfold maxLen; omega) (Nat.le_refl _) ?_
  intro w' hown hgrow
  have hcells : (madeCells (Value.int IntKind.u32 0).cells (n * 1)).toList = (List.replicate n 0).map fun d : Nat => .int .u32 (d : Int) := by
    rw [Nat.mul_one, List.map_replicate]
    exact toList_madeCells_one _ _
  rw [hcells] at hown
  exact hK w' (row_of_owns hown (by simp)) (free_of_owns hown n) ((Below.refl _ _).grown hgrow (Nat.le_refl _) (fun k h => by simp at h)) (lt_of_owns hown).2

theorem row_of_block {w : World} {g e : Nat} {ds : List Nat} (h : w.heap[g]? = some (.cells (ds.map encD).toArray e (0, 0))) : Row w g 0 ds ∧ (∀ m, Free w g 0 m) ∧ g < w.heap.size := by
  refine ⟨fun i hi => ?_, fun m i _ => frozen_of_row w g _ _ e h, lt_of_block h⟩
  rw [Nat.zero_add, cell_of_row w g i _ e (0, 0) h, List.getElem?_toArray, List.getElem?_map, List.getElem?_eq_getElem hi, List.getD_eq_getElem?_getD, List.getElem?_eq_getElem hi]
  rfl

/-- 'make([]uint32, n)': what the new block is. -/
theorem make_u32b {P : Program} (w : World) {ops : Array Oper} {rest : List Oper} {o : Oper} {a : Act} {Q : Exit → Act → World → Prop}
    (hg : o.guard = none) (l c : Operand) (t : TypeId) (hop : o.op = Op.makeSlice t l c)
    (e : TypeId) (i : TypeInfo) (h1 : P.underlying t = some (.slice e)) (h2 : P.info? e = some i) (h3 : i.zero = some (.int .u32 0)) (h4 : i.size = 1) (h5 : i.bytes = 4)
    (kl kc : IntKind) (L C : Int) (n : Nat) (hl : a.eval l = .int kl L) (hc : a.eval c = .int kc C) (hL : L = (n : Int)) (hC : C = (n : Int)) (hn : n ≤ 4294967296)
    (hK : ∀ w', Hid (w'.heap[w.heap.size]? = some (.cells ((List.replicate n 0).map encD).toArray e (0, 0))) → Below w.heap.size w w' →
      wpList P ops Q rest (a.put o.dst (.slice (some ⟨w.heap.size, 0, none⟩) n n)) w') :
    wpList P ops Q (o :: rest) a w := by
  refine wpList_make_full w hg l c t hop w.heap.size e i (.int .u32 0) 1 h1 h2 h3 h4 kl kc L C n hl hc hL hC (by rw [h5]; omega) (by unfold maxLen; omega) (Nat.le_refl _) ?_
  intro w' hown hgrow
  have hcells : (madeCells (Value.int IntKind.u32 0).cells (n * 1)).toList = (List.replicate n 0).map encD := by
    rw [Nat.mul_one, List.map_replicate]
    exact toList_madeCells_one _ _
  rw [hcells] at hown
  refine hK w' ?_ ((Below.refl _ _).grown hgrow (Nat.le_refl _) (fun k h => by simp at h))
  obtain ⟨_, h1 | ⟨g, cap, cur, hv, _, hh, _, _, hsz, htk⟩⟩ := hown
  · exact absurd h1.1 (by simp)
  · simp only [Value.slice.injEq, Option.some.injEq, Addr.mk.injEq] at hv
    obtain ⟨⟨rfl, _, _⟩, _, rfl⟩ := hv
    rw [List.take_of_length_le (by simp; omega)] at htk
    rw [Hid, hh, ← htk]

/-- 'copy(dst, src)' into a row of the call's own, of digits. -/
theorem copy_u32 {P : Program} {w : World} {ops : Array Oper} {rest : List Oper} {o : Oper} {a : Act} {Q : Exit → Act → World → Prop} (hgd : o.guard = none) (d s : Operand) (dT sT : TypeId)
    (ho : o.op = .call { callee := .builtin .copy, args := #[d, s], argTypes := #[dT, sT] }) (e : TypeId) (hu : P.underlying dT = some (.slice e)) (hsz : (P.info? e).map (·.size) = some 1)
    (g dLen dCap : Nat) (v : Value) (ds es : List Nat) (hd : a.eval d = .slice (some ⟨g, 0, none⟩) dLen dCap) (hdl : ds.length = dLen) (hs : a.eval s = v) (hv : U32s w v es)
    (hg : w.heap[g]? = some (.cells (ds.map encD).toArray e (0, 0))) (hle : es.length ≤ ds.length) (B : Nat) (w0 : World) (hb : Below B w0 w) (hBg : B ≤ g)
    (h : ∀ w', Hid (w'.heap[g]? = some (.cells ((es ++ ds.drop es.length).map encD).toArray e (0, 0))) → Below B w0 w' → wpList P ops Q rest (a.put o.dst (goInt es.length)) w') :
    wpList P ops Q (o :: rest) a w := by
  obtain ⟨ao, cap, hv, _, hr⟩ := hv
  refine wpList_copy_splice hgd d s dT sT ho e hu hsz (some ⟨g, 0, none⟩) ao dLen dCap es.length cap hd (hs.trans hv) g 0 (ds.map encD) e hg (es.map encD) (by rw [List.length_map]; exact (Nat.min_eq_left (by omega)).symm) ?_ (by simp; omega) (encD_one es) B w0 hb hBg ?_
  · intro hpos
    rw [List.length_map] at hpos
    obtain ⟨b, off, rfl, _, hrow⟩ := hr (List.length_pos_iff.1 hpos)
    exact ⟨rfl, _, rfl, row_news hrow⟩
  · intro w' hh hbb
    rw [List.length_map]
    refine h w' ?_ hbb
    have e1 : splice (ds.map encD) 0 (es.map encD) = (es ++ ds.drop es.length).map encD := by simp [splice]
    rw [e1] at hh
    exact hh
end Go.Proofs.YtnhfdcfnojnofaaGreatDoor

/-
  What Times of package natural does.
-/
namespace Go.Proofs.YtnhfdcfnojnofaaGreatDoor
open Go.RowKit

theorem Tryz.info131 : (Tryz.prog.info? 224).map (fun i => (i.zero, i.size, i.bytes)) = some (some (.int .u32 0), 1, 4) := by kernel_rfl

set_option maxRecDepth 100000 in
set_option maxHeartbeats 1000000 in
theorem times_any (w : World) (u v : Value) (m n J K : Nat) (hu : NatV w u m) (hv : NatV w v n) (hm : m < 4294967296 ^ J) (hn : n < 4294967296 ^ K) (hK : J + K ≤ 1073741824) :
    Calls Tryz.prog 204 #[u, v] w fun e w' => ∃ x, e = .returned x ∧ NatV w' x (m * n) ∧ Below w.heap.size w w' := by
  by_cases hm0 : m = 0
  · subst hm0
    go_enter Tryz.func204, Tryz.ntmps204
    go_wp2_with (go_at_call 77; refine (isZero_yes _ _ hu).mono ?_; rintro e w' ⟨rfl, rfl⟩)
    go_ret
    exact ⟨_, rfl, by rw [Nat.zero_mul]; exact NatV.zero _ _ _, Below.refl _ _⟩
  · by_cases hn0 : n = 0
    · subst hn0
      go_enter Tryz.func204, Tryz.ntmps204
      go_wp2_with fail
      refine (isZero_no _ _ _ hu hm0).mono ?_
      rintro e w' ⟨rfl, rfl⟩
      go_wp2_with fail
      refine (isZero_yes _ _ hv).mono ?_
      rintro e w' ⟨rfl, rfl⟩
      go_wp2
      go_ret
      exact ⟨_, rfl, by rw [Nat.mul_zero]; exact NatV.zero _ _ _, Below.refl _ _⟩
    · have hu0 := hu
      have hv0 := hv
      obtain ⟨ds, ⟨ao, cap, rfl, hc, hr⟩, hd, ht, rfl⟩ := hu
      obtain ⟨es, ⟨ao', cap', rfl, hc', hr'⟩, hd', ht', rfl⟩ := hv
      have hl := ht.len hm
      have hl' := ht'.len hn
      obtain ⟨b, off, rfl, hb, hrow⟩ := hr (fun e => hm0 (by rw [e]; rfl))
      obtain ⟨b', off', rfl, hb', hrow'⟩ := hr' (fun e => hn0 (by rw [e]; rfl))
      obtain ⟨i0, hi, hz0, hz1, hz2⟩ := info_parts Tryz.info131
      go_enter Tryz.func204, Tryz.ntmps204
      go_wp2_with fail
      refine (isZero_no _ _ _ hu0 hm0).mono ?_
      rintro e w' ⟨rfl, rfl⟩
      go_wp2_with fail
      refine (isZero_no _ _ _ hv0 hn0).mono ?_
      rintro e w' ⟨rfl, rfl⟩
      go_wp2_with (at_make; refine make_u32 _ rfl _ _ 99 rfl 224 i0 Tryz.underlying99 hi hz0 hz1 hz2 _ _ _ _ (ds.length + es.length) rfl rfl (by simp) (by simp) (by omega) ?_; intro w1 hrow1 hfr1 hbel1 hsz1)
      have hg0 := hbel1.size
      have hup1 := Upd.refl w'.heap.size 0 (ds.length + es.length) w1
      have hra : Row w1 b off ds := hrow.below hbel1 hb
      have hrb : Row w1 b' off' es := hrow'.below hbel1 hb'
      have hbg : b ≠ w'.heap.size := by omega
      have hbg' : b' ≠ w'.heap.size := by omega
      generalize hgg : w'.heap.size = g at *
      have HG := hide hgg
      clear hgg
      clear hi hz0 hz1 hz2 hu0 hv0 hrow hrow'
      go_loopw [25] (fun i wr => ∃ (k : Nat) (cur : List Nat), k ≤ ds.length ∧ i = .int .i64 (k : Nat) ∧ Hid (cur.length = ds.length + es.length) ∧ Dig cur ∧ Row wr g 0 cur ∧ Upd g 0 (ds.length + es.length) w1 wr ∧
          Hid (val (cur.take (k + es.length)) = val (ds.take k) * val es)) (fun i _ => ds.length - (intOf i).toNat)
      case atStart =>
        refine ⟨0, List.replicate (ds.length + es.length) 0, Nat.zero_le _, rfl, by simp [Hid], ?_, hrow1, hup1, ?_⟩
        · intro d hd; rw [List.mem_replicate] at hd; omega
        · rw [Hid, List.take_replicate, val_replicate]; simp [val]
      case round =>
        obtain ⟨k, cur, hk, rfl, hcl, hcd, hcr, hup, hval⟩ := hrel
        by_cases hlt : k < ds.length
        · have hx := hup.other hbg hra k hlt
          have hxl := hd.get k
          generalize hxd : ds.getD k 0 = d at *
          have HXD := hide hxd
          clear hxd
          go_wp2
          go_loopw [8, 32] (fun cv jv wq => ∃ (j c : Nat) (cur' : List Nat), j ≤ es.length ∧ c < 4294967296 ∧ jv = .int .i64 (j : Nat) ∧ cv = .int .u64 (c : Nat) ∧ Hid (cur'.length = ds.length + es.length) ∧ Dig cur' ∧ Row wq g 0 cur' ∧ Upd g 0 (ds.length + es.length) w1 wq ∧
              Hid (cur'.drop (k + j) = cur.drop (k + j)) ∧ Hid (val (cur'.take (k + j)) + 4294967296 ^ (k + j) * c = val (cur.take (k + j)) + 4294967296 ^ k * (d * val (es.take j)))) (fun _ jv _ => es.length - (intOf jv).toNat)
          case atStart => exact ⟨0, 0, cur, Nat.zero_le _, by omega, rfl, rfl, hcl, hcd, hcr, hup, rfl, by simp [Hid, val]⟩
          case round =>
            obtain ⟨j, c, cur', hj, hc, rfl, rfl, hcl', hcd', hcr', hup', hdr', hval'⟩ := hrel
            by_cases hlj : j < es.length
            · have hkc : k + j < cur'.length := by rw [hcl'.out]; omega
              have hy := hup'.other hbg' hrb j hlj
              have hyl := hd'.get j
              have hz := hcr' (k + j) hkc
              rw [getD_of_drop hdr'.out, Nat.zero_add] at hz
              have hzl := hcd.get (k + j)
              have hfz : wr.frozen? ⟨g, k + j, none⟩ = false := by have := hup'.free hfr1 (k + j) (by omega); rwa [Nat.zero_add] at this
              have HS := hide (mul_step hkc hdr'.out hval'.out)
              have hset := hcr'.setCell (k + j) ((c + (d * es.getD j 0 + cur.getD (k + j) 0)) % 4294967296) hkc
              have hupd := hup'.setCell (k + j) (show k + j < ds.length + es.length by omega) (.int .u32 (((c + (d * es.getD j 0 + cur.getD (k + j) 0)) % 4294967296 : Nat) : Int))
              obtain ⟨hb1, hb2⟩ := mul_bd2 hc hxl hyl hzl
              generalize es.getD j 0 = y at *
              generalize cur.getD (k + j) 0 = z at *
              rw [Nat.zero_add] at hset hupd
              obtain ⟨hp3, hp2⟩ := mul_bd d y hxl hyl
              have hfy : ((d * y : Nat) : Int) = (d : Int) * (y : Int) := by simp
              have e1 : (((c + (d * y + z)) % 4294967296 : Nat) : Int) = ((c : Int) + (d * y + z)) % 4294967296 := by omega
              have e2 : (((c + (d * y + z)) / 4294967296 : Nat) : Int) = ((c : Int) + (d * y + z)) / 4294967296 := by omega
              rw [e1] at hset hupd
              have E2 := hide e2
              have hb3 : (c : Int) + (d * y + z) < 18446744073709551616 := by omega
              clear hval' e1 e2 hfy hb1
              go_wp2
              go_roundw
              case rel => exact ⟨j + 1, (c + (d * y + z)) / 4294967296, _, by omega, hb2, by go_num, by rw [E2.out], by rw [Hid, List.length_set, hcl'.out], hcd'.set _ _ (Nat.mod_lt _ (by decide)), hset, hupd, by rw [Hid, ← Nat.add_assoc, drop_set_succ]; exact drop_tail hdr'.out, HS.out⟩
              case measure => simp [intOf]; omega
            · have hje : j = es.length := by omega
              have hval2 := hval'.out
              rw [hje, List.take_of_length_le (Nat.le_refl es.length)] at hval2
              have hkc : k + es.length < cur'.length := by rw [hcl'.out]; omega
              have HS := hide (mul_end hkc HXD.out.symm hval2 hval.out)
              have hz := hcr' (k + es.length) hkc
              have hset := hcr'.setCell (k + es.length) c hkc
              have hupd := hup'.setCell (k + es.length) (show k + es.length < ds.length + es.length by omega) (.int .u32 (c : Int))
              have hfz : wr.frozen? ⟨g, k + es.length, none⟩ = false := by have := hup'.free hfr1 (k + es.length) (by omega); rwa [Nat.zero_add] at this
              rw [Nat.zero_add] at hz hset hupd
              generalize ((cur'.getD (k + es.length) 0 : Nat) : Int) = zz at *
              clear hval' hval2 hje
              go_wp2
              go_roundw
              case rel => exact ⟨k + 1, _, by omega, by go_num, by rw [Hid, List.length_set, hcl'.out], hcd'.set _ _ hc, hset, hupd, HS.out⟩
              case measure => simp [intOf]; omega
        · have hkd : k = ds.length := by omega
          have hval2 := hval.out
          rw [hkd, List.take_of_length_le (by rw [hcl.out]; omega), List.take_of_length_le (Nat.le_refl ds.length)] at hval2
          have HV := hide hval2
          have hgl : g < wr.heap.size := by rw [hup.size]; exact hsz1
          clear hval hval2 hkd
          go_wp2_with fail
          refine (trim_any _ g 0 (ds.length + es.length) (ds.length + es.length) cur (by omega) (by omega) (by rw [hcl.out]; omega) hcr).mono ?_
          rintro e w2 ⟨rfl, rfl⟩
          go_wp2
          go_ret
          refine ⟨_, rfl, ?_, ?_⟩
          · rw [← HV.out]
            exact natV_trim hcr hcd hgl hcl.out (Nat.le_refl _)
          · rw [HG.out]
            exact hbel1.trans (hup.below (Nat.le_refl _))
end Go.Proofs.YtnhfdcfnojnofaaGreatDoor

/-
  What slices.Clone, Plus and Apart of package natural do.
-/
namespace Go.Proofs.YtnhfdcfnojnofaaGreatDoor
open Go.RowKit

/-- What a clone is: a row of its own that reads alike, and may be written. -/
def OwnU (w w' : World) (v : Value) (ds : List Nat) : Prop :=
  ∃ ao cap, v = .slice ao ds.length cap ∧ ds.length ≤ cap ∧ (ds ≠ [] → ∃ g, ao = some ⟨g, 0, none⟩ ∧ w.heap.size ≤ g ∧ g < w'.heap.size ∧ Row w' g 0 ds ∧ Free w' g 0 ds.length)

set_option maxRecDepth 100000 in
set_option maxHeartbeats 1000000 in
theorem clone_any (w : World) (v : Value) (ds : List Nat) (hv : U32s w v ds) (hlen : ds.length ≤ 1073741824) :
    Calls Tryz.prog 223 #[v] w fun e w' => ∃ x, e = .returned x ∧ OwnU w w' x ds ∧ Below w.heap.size w w' := by
  obtain ⟨ao, cap, rfl, hc, hr⟩ := hv
  have hnil := fun w => Lib.run_eql_slice_nil (P := Tryz.prog) w 99 224 ao ds.length cap 0 0 Tryz.underlying99
  by_cases h0 : ds = []
  · subst h0
    cases ao with
    | none =>
      clear hr hnil
      have hnil := fun w => Lib.run_eql_slice_nil (P := Tryz.prog) w 99 224 none 0 cap 0 0 Tryz.underlying99
      go_enter Tryz.func223, Tryz.ntmps223
      go_wp2
      go_ret
      exact ⟨_, rfl, ⟨none, 0, rfl, Nat.le_refl _, fun h => absurd rfl h⟩, Below.refl _ _⟩
    | some a =>
      clear hr hnil
      have hnil := fun w => Lib.run_eql_slice_nil (P := Tryz.prog) w 99 224 (some a) 0 cap 0 0 Tryz.underlying99
      obtain ⟨i0, hi, hz0, hz1, hz2⟩ := info_parts Tryz.info131
      go_enter Tryz.func223, Tryz.ntmps223
      go_wp2_with (at_builtin; refine wpList_append_own _ rfl _ _ 99 rfl w.heap.size 224 i0 (.int .u32 0) 1 4 Tryz.underlying99 hi hz0 hz1 hz2 rfl (by decide) (.slice (some ⟨w.heap.size, 0, none⟩) 0 0) 0 [] rfl (World.ownsRow_lit w #[] 0 (Nat.le_refl _) (by unfold maxLen; omega) rfl) a 0 cap [] rfl rfl (by simp) (by simp) (by unfold maxLen; omega) (by omega) (by simp) ?_; intro v1 w1 hown hgrow hnn)
      go_ret
      have hv1 : v1 ≠ .slice none 0 0 := fun e => by have := hnn.1 e; simp at this
      obtain ⟨g, cap1, hv, h1, h2, h3, h4, h5⟩ := owns_parts (ds := []) hown hv1
      exact ⟨_, rfl, ⟨_, cap1, hv, by simp, fun h => absurd rfl h⟩, ((Below.refl _ _).alloc (Nat.le_refl _) _).grown hgrow (by simp) (fun k h => by simp [Value.ownBlock] at h; omega)⟩
  · obtain ⟨b, off, rfl, hb, hrow⟩ := hr h0
    obtain ⟨i0, hi, hz0, hz1, hz2⟩ := info_parts Tryz.info131
    have hrow1 : Row (w.alloc (Obj.cells #[] 224)) b off ds := hrow.below ((Below.refl _ _).alloc (Nat.le_refl _) _) hb
    go_enter Tryz.func223, Tryz.ntmps223
    go_wp2_with (at_builtin; refine wpList_append_own _ rfl _ _ 99 rfl w.heap.size 224 i0 (.int .u32 0) 1 4 Tryz.underlying99 hi hz0 hz1 hz2 rfl (by decide) (.slice (some ⟨w.heap.size, 0, none⟩) 0 0) 0 [] rfl (World.ownsRow_lit w #[] 0 (Nat.le_refl _) (by unfold maxLen; omega) rfl) ⟨b, off, none⟩ ds.length cap (ds.map encD) rfl (by simp) (row_news hrow1) (encD_one ds) (by unfold maxLen; omega) (by omega) (by simp) ?_; intro v1 w1 hown hgrow hnn)
    go_ret
    have hv1 : v1 ≠ .slice none 0 0 := fun e => by have := hnn.1 e; simp at this
    rw [List.nil_append] at hown
    obtain ⟨g, cap1, hv, h1, h2, h3, h4, h5⟩ := owns_parts hown hv1
    rw [Nat.zero_add] at hv h1
    exact ⟨_, rfl, ⟨_, cap1, hv, h1, fun _ => ⟨g, rfl, h2, h3, h4, h5 _⟩⟩, ((Below.refl _ _).alloc (Nat.le_refl _) _).grown hgrow (by simp) (fun k h => by simp [Value.ownBlock] at h; omega)⟩
end Go.Proofs.YtnhfdcfnojnofaaGreatDoor

/-
  Decimal digits read: allDigits, piece.
-/
namespace Go.Proofs.YtnhfdcfnojnofaaGreatDoor
open Go.RowKit

/-- A byte that is a decimal digit. -/
def isDig (c : UInt8) : Bool := decide (48 ≤ c.toNat) && decide (c.toNat ≤ 57)
/-- All bytes are decimal digits. -/
def allDig (l : List UInt8) : Bool := l.all isDig
/-- The number that decimal digits are. -/
def decVal (l : List UInt8) : Nat := l.foldl (fun a c => a * 10 + (c.toNat - 48)) 0

theorem decVal_snoc (l : List UInt8) (c : UInt8) : decVal (l ++ [c]) = decVal l * 10 + (c.toNat - 48) := by simp [decVal, List.foldl_append]

theorem isDig_bd {c : UInt8} (h : isDig c = true) : 48 ≤ c.toNat ∧ c.toNat ≤ 57 := by
  unfold isDig at h; simpa using h

theorem allDig_get {l : List UInt8} (h : allDig l = true) (i : Nat) (hi : i < l.length) : 48 ≤ l[i].toNat ∧ l[i].toNat ≤ 57 := by
  unfold allDig at h
  rw [List.all_eq_true] at h
  exact isDig_bd (h _ (List.getElem_mem hi))

theorem decVal_take_succ (l : List UInt8) (k : Nat) (h : k < l.length) : decVal (l.take (k + 1)) = decVal (l.take k) * 10 + (l[k].toNat - 48) := by
  rw [List.take_succ_eq_append_getElem h, decVal_snoc]

theorem decVal_take_lt {l : List UInt8} (h : allDig l = true) (k : Nat) (hk : k ≤ l.length) : decVal (l.take k) < 10 ^ k := by
  induction k with
  | zero => simp [decVal]
  | succ k ih =>
    have h1 := ih (by omega)
    have h2 := allDig_get h k (by omega)
    rw [decVal_take_succ l k (by omega), Nat.pow_succ]
    generalize 10 ^ k = p at *
    omega

theorem decVal_lt {l : List UInt8} (h : allDig l = true) : decVal l < 10 ^ l.length := by
  have := decVal_take_lt h l.length (Nat.le_refl _)
  rwa [List.take_length] at this

theorem dec_fold (x : Nat) (b : List UInt8) : b.foldl (fun a c => a * 10 + (c.toNat - 48)) x = x * 10 ^ b.length + decVal b := by
  induction b generalizing x with
  | nil => simp [decVal]
  | cons c b ih =>
    have e1 : decVal (c :: b) = b.foldl (fun a c => a * 10 + (c.toNat - 48)) (c.toNat - 48) := by simp [decVal]
    rw [List.foldl_cons, ih, e1, ih (c.toNat - 48), List.length_cons, Nat.pow_succ, Nat.add_mul, Nat.mul_assoc, Nat.mul_comm 10 (10 ^ b.length)]
    omega

theorem decVal_append (a b : List UInt8) : decVal (a ++ b) = decVal a * 10 ^ b.length + decVal b := by
  have e : decVal (a ++ b) = b.foldl (fun a c => a * 10 + (c.toNat - 48)) (decVal a) := by simp [decVal, List.foldl_append]
  rw [e, dec_fold]

set_option maxRecDepth 100000 in
set_option maxHeartbeats 400000 in
theorem allDigits_yes (s : ByteArray) (w : World) (hs : s.size ≤ 1099511627776) (h : allDig s.data.toList = true) :
    Calls Tryz.prog 130 #[.string s] w fun e w' => e = .returned (.bool true) ∧ w' = w := by
  have hall : ∀ i (hi : i < s.size), 48 ≤ s[i].toNat ∧ s[i].toNat ≤ 57 := fun i hi => allDig_get h i (by simpa using hi)
  clear h
  go_enter Tryz.func130, Tryz.ntmps130
  go_wp2
  go_loop [6] (fun i => ∃ k : Nat, k ≤ s.size ∧ i = .int .i64 k) (fun i => s.size - (intOf i).toNat)
  case atStart => exact ⟨0, Nat.zero_le _, rfl⟩
  case round =>
    obtain ⟨k, hk, rfl⟩ := hrel
    by_cases hlt : k < s.size
    · have h1 := (hall k hlt).1
      have h2 := (hall k hlt).2
      have h3 : (48 : Int) ≤ (s[k].toNat : Int) := by omega
      have h4 : (s[k].toNat : Int) ≤ 57 := by omega
      go_wp2
      go_round
      case rel => exact ⟨k + 1, by omega, by go_num⟩
      case measure => simp [intOf]; omega
    · go_wp2
      go_ret
      exact ⟨rfl, rfl⟩

theorem first_bad {l : List UInt8} (h : allDig l = false) : ∃ k, ∃ hk : k < l.length, (l[k].toNat < 48 ∨ 57 < l[k].toNat) ∧ ∀ i (hi : i < k), 48 ≤ (l[i]'(by omega)).toNat ∧ (l[i]'(by omega)).toNat ≤ 57 := by
  induction l with
  | nil => simp [allDig] at h
  | cons c l ih =>
    by_cases hc : isDig c = true
    · have h1 : allDig l = false := by
        unfold allDig at h ⊢
        rw [List.all_cons, hc, Bool.true_and] at h
        exact h
      obtain ⟨k, hk, h2, h3⟩ := ih h1
      refine ⟨k + 1, by simpa using hk, by simpa using h2, ?_⟩
      intro i hi
      cases i with
      | zero => exact isDig_bd hc
      | succ i => have := h3 i (by omega); simpa using this
    · refine ⟨0, by simp, ?_, fun i hi => by omega⟩
      unfold isDig at hc
      simp at hc ⊢
      omega

set_option maxRecDepth 100000 in
set_option maxHeartbeats 400000 in
theorem allDigits_no (s : ByteArray) (w : World) (hs : s.size ≤ 1099511627776) (h : allDig s.data.toList = false) :
    Calls Tryz.prog 130 #[.string s] w fun e w' => e = .returned (.bool false) ∧ w' = w := by
  obtain ⟨n, hn, hbad, hgood⟩ := first_bad h
  have hn' : n < s.size := by simpa using hn
  have hbad' : s[n].toNat < 48 ∨ 57 < s[n].toNat := hbad
  have hall : ∀ i (hi : i < n), 48 ≤ (s[i]'(by omega)).toNat ∧ (s[i]'(by omega)).toNat ≤ 57 := fun i hi => hgood i hi
  clear h hbad hgood
  go_enter Tryz.func130, Tryz.ntmps130
  go_wp2
  go_loop [6] (fun i => ∃ k : Nat, k ≤ n ∧ i = .int .i64 k) (fun i => n - (intOf i).toNat)
  case atStart => exact ⟨0, Nat.zero_le _, rfl⟩
  case round =>
    obtain ⟨k, hk, rfl⟩ := hrel
    by_cases hlt : k < n
    · have hlt2 : k < s.size := by omega
      have h1 := (hall k hlt).1
      have h2 := (hall k hlt).2
      have h3 : (48 : Int) ≤ (s[k].toNat : Int) := by omega
      have h4 : (s[k].toNat : Int) ≤ 57 := by omega
      go_wp2
      go_round
      case rel => exact ⟨k + 1, by omega, by go_num⟩
      case measure => simp [intOf]; omega
    · have hkn : k = n := by omega
      subst hkn
      rcases hbad' with h5 | h5
      · have h6 : (s[k].toNat : Int) < 48 := by omega
        go_wp2
        go_ret
        exact ⟨rfl, rfl⟩
      · have h6 : 57 < (s[k].toNat : Int) := by omega
        have h7 : (48 : Int) ≤ (s[k].toNat : Int) := by omega
        go_wp2
        go_ret
        exact ⟨rfl, rfl⟩

set_option maxRecDepth 100000 in
set_option maxHeartbeats 400000 in
theorem piece_any (s : ByteArray) (w : World) (hs : s.size ≤ 9) (h : allDig s.data.toList = true) :
    Calls Tryz.prog 133 #[.string s] w fun e w' => e = .returned (.int .u32 (decVal s.data.toList : Nat)) ∧ w' = w := by
  have hall : ∀ i (hi : i < s.size), 48 ≤ s[i].toNat ∧ s[i].toNat ≤ 57 := fun i hi => allDig_get h i (by simpa using hi)
  have hlt0 : ∀ k, k ≤ s.size → decVal (s.data.toList.take k) < 10 ^ k := fun k hk => decVal_take_lt h k (by simpa using hk)
  have hstep : ∀ k (hk : k < s.size), decVal (s.data.toList.take (k + 1)) = decVal (s.data.toList.take k) * 10 + (s[k].toNat - 48) := fun k hk => decVal_take_succ _ k (by simpa using hk)
  have HALL := hide hall
  have HLT := hide hlt0
  have HST := hide hstep
  clear h hall hlt0 hstep
  go_enter Tryz.func133, Tryz.ntmps133
  go_wp2
  go_loop [3, 7] (fun v i => ∃ k : Nat, k ≤ s.size ∧ i = .int .i64 k ∧ v = .int .u32 (decVal (s.data.toList.take k) : Nat)) (fun _ i => s.size - (intOf i).toNat)
  case atStart => exact ⟨0, Nat.zero_le _, rfl, rfl⟩
  case round =>
    obtain ⟨k, hk, rfl, rfl⟩ := hrel
    by_cases hlt : k < s.size
    · have h1 := (HALL.out k hlt).1
      have h2 := (HALL.out k hlt).2
      have h3 : (48 : Int) ≤ (s[k].toNat : Int) := by omega
      have h4 : (s[k].toNat : Int) ≤ 57 := by omega
      have h5 := HLT.out k hk
      have h6 : 10 ^ k ≤ 10 ^ 8 := Nat.pow_le_pow_right (by omega) (by omega)
      have h7 : decVal (s.data.toList.take k) < 100000000 := by omega
      have HS := hide (HST.out k hlt)
      generalize decVal (s.data.toList.take k) = x at *
      clear h5 h6
      go_wp2
      go_round
      case rel => exact ⟨k + 1, by omega, by go_num, by rw [HS.out]; exact congrArg (Value.int .u32) (by omega)⟩
      case measure => simp [intOf]; omega
    · have hke : k = s.size := by omega
      have HE : Hid (decVal (s.data.toList.take k) = decVal s.data.toList) := by rw [Hid, List.take_of_length_le (by simp; omega)]
      clear hke
      go_wp2
      go_ret
      exact ⟨ret_int (by rw [HE.out]), rfl⟩
end Go.Proofs.YtnhfdcfnojnofaaGreatDoor

/-
  Decimal digits read: timesPieceBase.
-/
namespace Go.Proofs.YtnhfdcfnojnofaaGreatDoor
open Go.RowKit

theorem encD_set (ds : List Nat) (i x : Nat) : (ds.set i x).map encD = (ds.map encD).set i (encD x) := by rw [List.map_set]

theorem piece_step {cur ds : List Nat} {k c m : Nat} (hk : k < cur.length) (hi : val (cur.take k) + 4294967296 ^ k * c = val (ds.take k) * 1000000000 + m) :
    val ((cur.set k ((c + ds.getD k 0 * 1000000000) % 4294967296)).take (k + 1)) + 4294967296 ^ (k + 1) * ((c + ds.getD k 0 * 1000000000) / 4294967296) = val (ds.take (k + 1)) * 1000000000 + m := by
  rw [val_lay cur k _ hk, val_take_any ds k, Nat.mul_add, Nat.add_mul, Nat.mul_assoc]
  omega

/-- A number at least that power has its highest digit not nought. -/
theorem top_of_ge {ds : List Nat} (hd : Dig ds) (h : ∀ k, ds.length = k + 1 → 4294967296 ^ k ≤ val ds) : Top ds := by
  intro k hk h0
  have h1 := h k hk
  have e := take_snoc_getD ds k (by omega)
  rw [List.take_of_length_le (by omega)] at e
  rw [e, val_append, h0] at h1
  have h2 := val_lt (hd.take k)
  rw [List.length_take, Nat.min_eq_left (by omega)] at h2
  simp [val] at h1
  omega

theorem top_snoc {ds : List Nat} {c : Nat} (hc : c ≠ 0) : Top (ds ++ [c]) := by
  intro k hk
  have : ds.length = k := by simpa using hk
  subst this
  simpa using hc

set_option maxRecDepth 100000 in
set_option maxHeartbeats 1000000 in
theorem timesPiece_any (w : World) (B g cap m : Nat) (ds : List Nat) (hown : w.ownsRow B 224 1 (.slice (some ⟨g, 0, none⟩) ds.length cap) ds.length (ds.map encD)) (hB : B ≤ w.heap.size) (hlen : ds.length ≤ 1073741823) (hm : m < 1000000000) (hd : Dig ds) (ht : Top ds) :
    Calls Tryz.prog 132 #[.slice (some ⟨g, 0, none⟩) ds.length cap, .int .u32 (m : Nat)] w fun e w' =>
      ∃ g' cap' ds', e = .returned (.slice (some ⟨g', 0, none⟩) ds'.length cap') ∧ w'.ownsRow B 224 1 (.slice (some ⟨g', 0, none⟩) ds'.length cap') ds'.length (ds'.map encD) ∧ Dig ds' ∧ val ds' = val ds * 1000000000 + m ∧ ds'.length ≤ ds.length + 1 ∧ Below B w w' ∧ Top ds' := by
  have hgB := (lt_of_owns hown).1
  obtain ⟨i0, hi, hz0, hz1, hz2⟩ := info_parts Tryz.info131
  go_enter Tryz.func132, Tryz.ntmps132
  go_wp2
  go_loopw [5, 11] (fun cv iv wr => ∃ (k c : Nat) (cur : List Nat), k ≤ ds.length ∧ c < 4294967296 ∧ iv = .int .i64 (k : Nat) ∧ cv = .int .u64 (c : Nat) ∧ Hid (cur.length = ds.length) ∧ Dig cur ∧ wr.ownsRow B 224 1 (.slice (some ⟨g, 0, none⟩) ds.length cap) ds.length (cur.map encD) ∧ Below B w wr ∧
      Hid (cur.drop k = ds.drop k) ∧ Hid (val (cur.take k) + 4294967296 ^ k * c = val (ds.take k) * 1000000000 + m)) (fun _ iv _ => ds.length - (intOf iv).toNat)
  case atStart => exact ⟨0, m, ds, Nat.zero_le _, by omega, rfl, rfl, rfl, hd, hown, Below.refl _ _, rfl, by simp [Hid, val]⟩
  case round =>
    obtain ⟨k, c, cur, hk, hc, rfl, rfl, hcl, hcd, hco, hbel, hdr, hval⟩ := hrel
    by_cases hlt : k < ds.length
    · have hkc : k < cur.length := by rw [hcl.out]; exact hlt
      have hx := row_of_owns hco hcl.out k hkc
      rw [getD_of_drop hdr.out, Nat.zero_add] at hx
      have hxl := hd.get k
      have hfz : wr.frozen? ⟨g, k, none⟩ = false := hco.frozenAt k
      have hst := (hco.stored k (encD ((c + ds.getD k 0 * 1000000000) % 4294967296))).1
      rw [← encD_set] at hst
      have HS := hide (piece_step (m := m) hkc hval.out)
      generalize ds.getD k 0 = x at *
      have e1 : encD ((c + x * 1000000000) % 4294967296) = .int .u32 (((c : Int) + x * 1000000000) % 4294967296) := by unfold encD; exact congrArg _ (by omega)
      rw [e1] at hst
      have E2 := hide (show (((c + x * 1000000000) / 4294967296 : Nat) : Int) = ((c : Int) + x * 1000000000) / 4294967296 by omega)
      have HB2 := hide (show (c + x * 1000000000) / 4294967296 < 4294967296 by omega)
      clear hval e1 hi hz0 hz1 hz2
      go_wp2
      go_roundw
      case rel => exact ⟨k + 1, (c + x * 1000000000) / 4294967296, _, by omega, HB2.out, by go_num, by rw [E2.out], by rw [Hid, List.length_set, hcl.out], hcd.set _ _ (Nat.mod_lt _ (by decide)), hst, hbel.setCell (by exact hgB) _, by rw [Hid, drop_set_succ]; exact drop_tail hdr.out, HS.out⟩
      case measure => simp [intOf]; omega
    · have hkd : k = ds.length := by omega
      have hv2 := hval.out
      rw [hkd, List.take_of_length_le (by rw [hcl.out]; omega), List.take_of_length_le (Nat.le_refl ds.length)] at hv2
      by_cases hc0 : c = 0
      · subst hc0
        have HV := hide hv2
        clear hval hv2 hkd
        have htop : Top cur := by
          refine top_of_ge hcd (fun j hj => ?_)
          have h1 := ht.le j (by rw [← hcl.out]; exact hj)
          have h2 := HV.out
          omega
        have HT := hide htop
        clear htop
        go_wp2
        go_ret
        have hcl2 := hcl.out
        rw [← hcl2] at hco
        exact ⟨g, cap, cur, ret_slice hcl2.symm, hco, hcd, by have := HV.out; omega, by omega, hbel, HT.out⟩
      · have hcp : 0 < (c : Int) := by omega
        have HV := hide hv2
        have hbs := hbel.size
        clear hval hv2 hkd
        go_wp2_with (at_builtin; refine wpList_append_own _ rfl _ _ 99 rfl B 224 i0 (.int .u32 0) 1 4 Tryz.underlying99 hi hz0 hz1 hz2 rfl (by decide) (.slice (some ⟨g, 0, none⟩) ds.length cap) ds.length (cur.map encD) rfl (hco.alloc _) ⟨wr.heap.size, 0, none⟩ 1 1 [encD c] rfl rfl ?c1 ?c2 (by unfold maxLen; omega) (by omega) (by simp; omega) ?_)
        case c1 => exact cell_one_new _ _ _
        case c2 => intro u hu; simp at hu; subst hu; rfl
        intro v1 w1 hown1 hgrow hnn
        have hv1 : v1 ≠ .slice none 0 0 := fun e => hnn e
        have e2 : cur.map encD ++ [encD c] = (cur ++ [c]).map encD := by simp
        rw [e2] at hown1
        obtain ⟨g', cap', hvv, _, _, _, _, _⟩ := owns_parts hown1 hv1
        subst hvv
        have hbel1 : Below B w w1 := (hbel.alloc (by omega) _).grown hgrow (by simp; omega) (fun k h => by simp [Value.ownBlock] at h; omega)
        have hl2 : (cur ++ [c]).length = ds.length + 1 := by have := hcl.out; simp; omega
        clear hgrow hnn hco
        go_wp2
        go_ret
        rw [← hl2] at hown1
        refine ⟨g', cap', cur ++ [c], ret_slice hl2.symm, hown1, hcd.append (by intro d hd; simp at hd; omega), ?_, by omega, hbel1, top_snoc hc0⟩
        have h1 := HV.out
        have h3 := hcl.out
        rw [val_append, h3]
        simp [val]
        exact h1
end Go.Proofs.YtnhfdcfnojnofaaGreatDoor

/-
  Decimal digits read: natural.Parse.
-/
namespace Go.Proofs.YtnhfdcfnojnofaaGreatDoor
open Go.RowKit

def strLen : Value → Nat | .string s => s.size | _ => 0

theorem allDig_sub {l m : List UInt8} (h : allDig l = true) (hs : ∀ c ∈ m, c ∈ l) : allDig m = true := by
  unfold allDig at *
  rw [List.all_eq_true] at *
  exact fun c hc => h c (hs c hc)

theorem decVal_trim (l : List UInt8) : decVal (Lib.trimLeftB l 48) = decVal l := by
  unfold Lib.trimLeftB
  induction l with
  | nil => rfl
  | cons c l ih =>
    by_cases hc : c = 48
    · subst hc
      have e : decVal (48 :: l) = decVal l := by simp [decVal]
      rw [e, List.dropWhile_cons_of_pos (by simp)]
      exact ih
    · rw [List.dropWhile_cons_of_neg (by simpa using hc)]

theorem trimLeftB_len (l : List UInt8) (c : UInt8) : (Lib.trimLeftB l c).length ≤ l.length := by
  unfold Lib.trimLeftB
  exact (List.dropWhile_sublist _).length_le

theorem decVal_piece {L : List UInt8} {k n : Nat} (h : k = 0 ∨ n = 9) (hk : k + n ≤ L.length) : decVal (L.take (k + n)) = decVal (L.take k) * 1000000000 + decVal ((L.drop k).take n) := by
  rw [List.take_add, decVal_append]
  rcases h with h | h
  · subst h; simp [decVal]
  · subst h
    have : ((L.drop k).take 9).length = 9 := by rw [List.length_take, List.length_drop]; omega
    rw [this]

set_option maxRecDepth 100000 in
set_option maxHeartbeats 1000000 in
theorem natParse_no (s : ByteArray) (m : Nat) (w : World) (hm : m ≤ 1099511627776) (hs : s.size ≤ 1099511627776) (h : s.data.toList = [] ∨ m < s.size ∨ allDig s.data.toList = false) :
    Calls Tryz.prog 76 #[.string s, .int .i64 (m : Nat)] w fun e w' => e = .returned (.tuple #[.slice none 0 0, .bool false]) ∧ w' = w := by
  by_cases h0 : s.size = 0
  · have h1 : ((s.size : Int) == 0) = true := by rw [h0]; rfl
    clear h
    go_enter Tryz.func76, Tryz.ntmps76
    go_wp2
    go_ret2
    exact ⟨rfl, rfl⟩
  · have h1 : ((s.size : Int) == 0) = false := beq_eq_false_iff_ne.2 (by omega)
    by_cases h2 : m < s.size
    · have h3 : (m : Int) < (s.size : Int) := by omega
      clear h
      go_enter Tryz.func76, Tryz.ntmps76
      go_wp2
      go_ret2
      exact ⟨rfl, rfl⟩
    · have h3 : ¬ (m : Int) < (s.size : Int) := by omega
      have h4 : allDig s.data.toList = false := by
        rcases h with h | h | h
        · exact absurd (by rw [Lib.size_eq, h]; rfl) h0
        · exact absurd h h2
        · exact h
      clear h
      go_enter Tryz.func76, Tryz.ntmps76
      go_wp2_with fail
      refine (allDigits_no s _ hs h4).mono ?_
      rintro e w' ⟨rfl, rfl⟩
      go_wp2
      go_ret2
      exact ⟨rfl, rfl⟩

set_option maxRecDepth 100000 in
set_option maxHeartbeats 1000000 in
theorem natParse_yes (s : ByteArray) (m : Nat) (w : World) (hm : m ≤ 1000000000) (hs0 : 0 < s.size) (hs : s.size ≤ m) (h : allDig s.data.toList = true) :
    Calls Tryz.prog 76 #[.string s, .int .i64 (m : Nat)] w fun e w' => ∃ v, e = .returned (.tuple #[v, .bool true]) ∧ NatV w' v (decVal s.data.toList) ∧ Below w.heap.size w w' := by
  have h1 : ((s.size : Int) == 0) = false := beq_eq_false_iff_ne.2 (by omega)
  have h3 : ¬ (m : Int) < (s.size : Int) := by omega
  have hLl : (Lib.trimLeftB s.data.toList 48).length ≤ s.size := by rw [Lib.size_eq s]; exact trimLeftB_len _ _
  have hLd : allDig (Lib.trimLeftB s.data.toList 48) = true := allDig_sub h (fun c hc => (List.dropWhile_sublist _).subset hc)
  have HV := hide (decVal_trim s.data.toList)
  obtain ⟨i0, hi, hz0, hz1, hz2⟩ := info_parts Tryz.info131
  go_enter Tryz.func76, Tryz.ntmps76
  go_wp2_with fail
  refine (allDigits_yes s _ (by omega) h).mono ?_
  rintro e w' ⟨rfl, rfl⟩
  clear h
  go_wp2_with fail
  refine (Tryz.strings_TrimLeft_one s 48 (by decide) _).mono ?_
  rintro e w1 ⟨rfl, rfl⟩
  generalize Lib.trimLeftB s.data.toList 48 = L at *
  have hLs : (ByteArray.mk L.toArray).size = L.length := by simp [ByteArray.size]
  clear h1 h3
  go_wp2_with (at_make; refine wpList_make_own _ rfl _ _ 99 rfl w1.heap.size 224 i0 (.int .u32 0) 1 Tryz.underlying99 hi hz0 hz1 _ _ _ (L.length / 9 + 1) rfl rfl ?c0 (by rw [hz2]; omega) (by unfold maxLen; omega) (Nat.le_refl _) ?_)
  case c0 => rw [← hLs]; omega
  intro w2 hown hgrow
  have hb2 : Below w1.heap.size w1 w2 := (Below.refl _ _).grown hgrow (Nat.le_refl _) (fun k h => by simp at h)
  have HL := hide hLs
  clear hgrow hi hz0 hz1 hz2 hLs
  go_wp2
  go_loopw [0, 6] (fun tv nv wr => ∃ (t : ByteArray) (k g cap : Nat) (ds : List Nat), tv = .string t ∧ nv = .slice (some ⟨g, 0, none⟩) ds.length cap ∧ k ≤ L.length ∧ t.size ≤ 1000000000 ∧ Hid (t.data.toList = L.drop k) ∧ Hid (t.size = L.length - k) ∧ Hid (k = 0 ∨ (L.length - k) % 9 = 0) ∧
      wr.ownsRow w1.heap.size 224 1 (.slice (some ⟨g, 0, none⟩) ds.length cap) ds.length (ds.map encD) ∧ Dig ds ∧ Top ds ∧ Hid (val ds = decVal (L.take k)) ∧ ds.length ≤ k ∧ Below w1.heap.size w1 wr) (fun tv _ _ => strLen tv)
  case atStart =>
    refine ⟨_, 0, w1.heap.size, L.length / 9 + 1, [], rfl, rfl, Nat.zero_le _, by rw [HL.out]; omega, by simp [Hid], by rw [Hid, HL.out, Nat.sub_zero], Or.inl rfl, hown, ?_, Top.nil, by simp [Hid, val, decVal], Nat.le_refl _, hb2⟩
    intro d hd; simp at hd
  case round =>
    obtain ⟨t, k, g, cap, ds, rfl, rfl, hk, htb, htl, hts, hk9, hown, hd, htop, hval, hdl, hbel⟩ := hrel
    by_cases h0 : 0 < t.size
    · have hn1 : (t.size - 1) % 9 + 1 ≤ t.size := by have := Nat.mod_le (t.size - 1) 9; omega
      have hpl : (t.extract 0 ((t.size - 1) % 9 + 1)).data.toList = (L.drop k).take ((t.size - 1) % 9 + 1) := by rw [Lib.extract_data, List.drop_zero, Nat.sub_zero, htl.out]
      have hps : (t.extract 0 ((t.size - 1) % 9 + 1)).size ≤ 9 := by
        rw [Lib.size_eq, hpl, List.length_take]; omega
      have hpd : allDig (t.extract 0 ((t.size - 1) % 9 + 1)).data.toList = true := by
        rw [hpl]; exact allDig_sub hLd (fun c hc => List.mem_of_mem_drop (List.mem_of_mem_take hc))
      have hpv := decVal_lt hpd
      have hpv2 : decVal (t.extract 0 ((t.size - 1) % 9 + 1)).data.toList < 1000000000 := by
        have h1 : (t.extract 0 ((t.size - 1) % 9 + 1)).data.toList.length ≤ 9 := by rw [← Lib.size_eq]; exact hps
        have h2 : 10 ^ (t.extract 0 ((t.size - 1) % 9 + 1)).data.toList.length ≤ 10 ^ 9 := Nat.pow_le_pow_right (by omega) h1
        omega
      have hkn : k + ((t.size - 1) % 9 + 1) ≤ L.length := by have := hts.out; omega
      have h9 : k = 0 ∨ (t.size - 1) % 9 + 1 = 9 := by
        have h1 := hts.out
        rcases hk9.out with h | h
        · exact Or.inl h
        · right; omega
      have HP := hide (decVal_piece (L := L) h9 hkn)
      have HPL := hide hpl
      have hrest : (t.extract ((t.size - 1) % 9 + 1) t.size).data.toList = L.drop (k + ((t.size - 1) % 9 + 1)) := by
        rw [Lib.extract_to_end, htl.out, List.drop_drop]
      have HR := hide hrest
      have hr9 : (L.length - (k + ((t.size - 1) % 9 + 1))) % 9 = 0 := by have := hts.out; omega
      have HR9 := hide hr9
      have hrs : (t.extract ((t.size - 1) % 9 + 1) t.size).size = L.length - (k + ((t.size - 1) % 9 + 1)) := by rw [Lib.size_eq, hrest, List.length_drop]
      have HRS := hide hrs
      have hb1 := hbel.size
      clear hpl hpv hrest hr9 hrs h9
      go_wp2_with fail
      refine (piece_any _ _ hps hpd).mono ?_
      rintro e w3 ⟨rfl, rfl⟩
      clear hps hpd
      have epv : (t.extract 0 ((t.size - 1) % 9 + 1)).data.toList = t.data.toList.take ((t.size - 1) % 9 + 1) := by rw [Lib.extract_data, List.drop_zero, Nat.sub_zero]
      rw [epv] at hpv2
      have HPV := hide (congrArg decVal (epv.symm.trans HPL.out))
      clear epv
      go_wp2_with fail
      refine (timesPiece_any _ w1.heap.size g cap _ ds hown hb1 (by omega) hpv2 hd htop).mono ?_
      rintro e w4 ⟨g4, cap4, ds4, rfl, hown4, hd4, hval4, hdl4, hb4, htop4⟩
      go_wp2
      go_roundw
      case rel => exact ⟨_, k + ((t.size - 1) % 9 + 1), g4, cap4, ds4, rfl, rfl, by omega, by rw [HRS.out]; omega, HR, HRS, Or.inr HR9.out, hown4, hd4, htop4, by rw [Hid, hval4, HPV.out, HP.out, hval.out], by omega, hbel.trans hb4⟩
      case measure => show (t.extract _ _).size < t.size; rw [HRS.out]; have := hts.out; omega
    · have hke : k = L.length := by have := hts.out; omega
      have hvd : val ds = decVal s.data.toList := by rw [hval.out, hke, List.take_length, HV.out]
      have HVD := hide hvd
      have hgl := (lt_of_owns hown).2
      have hrow := row_of_owns hown rfl
      have hcl : ds.length ≤ cap := by
        obtain ⟨_, h1 | ⟨g1, cap1, cur, hv, _, _, hn, _⟩⟩ := hown
        · exact absurd h1.1 (by simp)
        · simp only [Value.slice.injEq] at hv
          obtain ⟨_, _, rfl⟩ := hv
          exact hn
      clear hke hvd
      go_wp2
      go_ret2
      refine ⟨_, rfl, ?_, hbel⟩
      rw [← HVD.out]
      exact ⟨ds, U32s.mk hrow hgl hcl, hd, htop, rfl⟩
end Go.Proofs.YtnhfdcfnojnofaaGreatDoor

/-
  What Plus and Apart of package natural do.
-/
namespace Go.Proofs.YtnhfdcfnojnofaaGreatDoor
open Go.RowKit

theorem Tryz.size131 : (Tryz.prog.info? 224).map (·.size) = some 1 := by kernel_rfl

theorem natV_u32 {w : World} {v : Value} {n : Nat} (h : NatV w v n) {K : Nat} (hn : n < 4294967296 ^ K) : ∃ ds, U32s w v ds ∧ Dig ds ∧ Top ds ∧ val ds = n ∧ ds.length ≤ K := by
  obtain ⟨ds, h1, h2, h3, h4⟩ := h
  exact ⟨ds, h1, h2, h3, h4, h3.len (by rw [h4]; exact hn)⟩

set_option maxRecDepth 100000 in
set_option maxHeartbeats 1000000 in
theorem plus_any (w : World) (u v : Value) (m n K : Nat) (hu : NatV w u m) (hv : NatV w v n) (hm : m < 4294967296 ^ K) (hn : n < 4294967296 ^ K) (hK : K ≤ 1073741823) :
    Calls Tryz.prog 221 #[u, v] w fun e w' => ∃ x, e = .returned x ∧ NatV w' x (m + n) ∧ Below w.heap.size w w' := by
  obtain ⟨ds, hu1, hd, ht, rfl, hl⟩ := natV_u32 hu hm
  obtain ⟨es, hv1, hd', ht', rfl, hl'⟩ := natV_u32 hv hn
  have hu2 := hu1
  have hv2 := hv1
  obtain ⟨ao, cap, rfl, hc, hr⟩ := hu1
  obtain ⟨ao', cap', rfl, hc', hr'⟩ := hv1
  obtain ⟨i0, hi, hz0, hz1, hz2⟩ := info_parts Tryz.info131
  clear hr hr' hm hn ht ht' hu hv
  by_cases hlt : ds.length < es.length
  · go_enter Tryz.func221, Tryz.ntmps221
    go_wp2_with (first | (at_make; refine make_u32b _ rfl _ _ 99 rfl 224 i0 Tryz.underlying99 hi hz0 hz1 hz2 _ _ _ _ (es.length + 1) rfl rfl (by simp) (by simp) (by omega) ?_; intro w1 hblk hbel1) | (refine copy_u32 rfl _ _ _ _ rfl 224 Tryz.underlying99 Tryz.size131 w.heap.size _ _ _ (List.replicate (es.length + 1) 0) es rfl (by simp) rfl (hv2.below hbel1) hblk.out (by simp) w.heap.size w hbel1 (Nat.le_refl _) ?_; intro w2 hblk2 hbel2))
    have hdr0 : es ++ (List.replicate (es.length + 1) 0).drop es.length = es ++ [0] := by rw [List.drop_replicate, show es.length + 1 - es.length = 1 by omega]; rfl
    rw [hdr0] at hblk2
    obtain ⟨hrow2, hfr2, hsz2⟩ := row_of_block hblk2.out
    have hlen2 : (es ++ [0]).length = es.length + 1 := by simp
    have hdig2 : Dig (es ++ [0]) := Dig.append hd' (by intro d hd; simp at hd; omega)
    have hadd := addInto_any w2 w.heap.size 0 (es.length + 1) (es ++ [0]) ds _ (by omega) (by omega) (by omega) hrow2 (hfr2 _) hdig2 (hu2.away hbel2 w.heap.size (Nat.le_refl _)) hd
    rw [hlen2] at hadd
    refine hadd.mono ?_
    rintro e w3 ⟨rfl, ds', c, hl3, hd3, hrow3, hup3, hval3⟩
    have hval4 := sum_fits (a := es) (b := ds) hd' hd (by omega) (hval3.trans (by rw [val_append]; simp [val]))
    have hbel3 : Below w.heap.size w w3 := hbel2.trans (hup3.below (Nat.le_refl _))
    have hsz3 : w.heap.size < w3.heap.size := by rw [hup3.size]; exact hsz2
    clear hadd hval3
    go_wp2_with fail
    refine (trim_any _ w.heap.size 0 (es.length + 1) (es.length + 1) ds' (by omega) (by omega) (by omega) hrow3).mono ?_
    rintro e w4 ⟨rfl, rfl⟩
    go_wp2
    go_ret
    refine ⟨_, rfl, ?_, hbel3⟩
    have hfin := natV_trim (n := es.length + 1) hrow3 hd3 hsz3 hl3 (Nat.le_refl _)
    rw [hval4, Nat.add_comm (val es) (val ds)] at hfin
    exact hfin
  · go_enter Tryz.func221, Tryz.ntmps221
    go_wp2_with (first | (at_make; refine make_u32b _ rfl _ _ 99 rfl 224 i0 Tryz.underlying99 hi hz0 hz1 hz2 _ _ _ _ (ds.length + 1) rfl rfl (by simp) (by simp) (by omega) ?_; intro w1 hblk hbel1) | (refine copy_u32 rfl _ _ _ _ rfl 224 Tryz.underlying99 Tryz.size131 w.heap.size _ _ _ (List.replicate (ds.length + 1) 0) ds rfl (by simp) rfl (hu2.below hbel1) hblk.out (by simp) w.heap.size w hbel1 (Nat.le_refl _) ?_; intro w2 hblk2 hbel2))
    have hdr0 : ds ++ (List.replicate (ds.length + 1) 0).drop ds.length = ds ++ [0] := by rw [List.drop_replicate, show ds.length + 1 - ds.length = 1 by omega]; rfl
    rw [hdr0] at hblk2
    obtain ⟨hrow2, hfr2, hsz2⟩ := row_of_block hblk2.out
    have hlen2 : (ds ++ [0]).length = ds.length + 1 := by simp
    have hdig2 : Dig (ds ++ [0]) := Dig.append hd (by intro d hd; simp at hd; omega)
    have hadd := addInto_any w2 w.heap.size 0 (ds.length + 1) (ds ++ [0]) es _ (by omega) (by omega) (by omega) hrow2 (hfr2 _) hdig2 (hv2.away hbel2 w.heap.size (Nat.le_refl _)) hd'
    rw [hlen2] at hadd
    refine hadd.mono ?_
    rintro e w3 ⟨rfl, ds', c, hl3, hd3, hrow3, hup3, hval3⟩
    have hval4 := sum_fits (a := ds) (b := es) hd hd' (by omega) (hval3.trans (by rw [val_append]; simp [val]))
    have hbel3 : Below w.heap.size w w3 := hbel2.trans (hup3.below (Nat.le_refl _))
    have hsz3 : w.heap.size < w3.heap.size := by rw [hup3.size]; exact hsz2
    clear hadd hval3
    go_wp2_with fail
    refine (trim_any _ w.heap.size 0 (ds.length + 1) (ds.length + 1) ds' (by omega) (by omega) (by omega) hrow3).mono ?_
    rintro e w4 ⟨rfl, rfl⟩
    go_wp2
    go_ret
    refine ⟨_, rfl, ?_, hbel3⟩
    have hfin := natV_trim (n := ds.length + 1) hrow3 hd3 hsz3 hl3 (Nat.le_refl _)
    rw [hval4] at hfin
    exact hfin
end Go.Proofs.YtnhfdcfnojnofaaGreatDoor
