/-
  Part 14 of the texts ahead of Pks1: Kpl7.
-/
import Derived.Test.YtnhfdcfnojnofaaGreatDoorPks1Z13
import Derived.Test.YtnhfdcfnojnofaaGreatDoorPks1Z5
import Derived.Test.YtnhfdcfnojnofaaGreatDoorPks1Z6
import Derived.Deep.RegionLaw
import Derived.Deep.AppendLies
set_option linter.unusedSimpArgs false
set_option linter.unusedVariables false
/-
  What the keeper's small gives (package planeskeep).
-/
namespace Go.Proofs.YtnhfdcfnojnofaaGreatDoor
open Go.RowKit

theorem fv_lt (s : ByteArray) (a n : Nat) (hn : 0 < n) : fv s a n < n := by
  unfold fv
  split
  · exact Nat.mod_lt _ hn
  · exact hn
theorem fa_le (s : ByteArray) (a : Nat) (h : a ≤ s.size) : fa s a ≤ s.size := by
  unfold fa
  split
  · omega
  · exact h

theorem wrap_small (z : Int) (h1 : -1000 ≤ z) (h2 : z ≤ 1000) : IntKind.i64.wrap z = z := by
  unfold IntKind.wrap
  simp only [IntKind.bits, IntKind.signed, Bool.true_and]
  split
  · rename_i h
    have := of_decide_eq_true h
    omega
  · rename_i h
    have h' : ¬ (z % 2 ^ 64 ≥ 2 ^ (64 - 1)) := fun e => h (decide_eq_true e)
    omega

/-- Six empty fields. -/
def sixNil : List (Value × Nat × List Value) := [(.slice none 0 0, 3, []), (.slice none 0 0, 3, []), (.slice none 0 0, 3, []), (.slice none 0 0, 35, []), (.slice none 0 0, 3, []), (.slice none 0 0, 3, [])]

theorem sixNil_all : ∀ r ∈ sixNil, r.1 = .slice none 0 0 ∧ r.2.2 = [] := by
  intro r hr
  simp only [sixNil, List.mem_cons, List.not_mem_nil, or_false] at hr
  rcases hr with rfl | rfl | rfl | rfl | rfl | rfl <;> exact ⟨rfl, rfl⟩

/-- The six fields. -/
def sixL (vM vL vH vG vS vR : Value) (mx lo hi : List Int) (gv : List Value) (ss rs : List Int) : List (Value × Nat × List Value) := [(vM, 3, ivs mx), (vL, 3, ivs lo), (vH, 3, ivs hi), (vG, 35, gv), (vS, 3, ivs ss), (vR, 3, ivs rs)]

theorem ivs_snoc (zs : List Int) (z : Int) : ivs zs ++ [.int .i64 z] = ivs (zs ++ [z]) := by simp [ivs]
theorem ivs_len (zs : List Int) : (ivs zs).length = zs.length := by simp [ivs]

/-- What the first loop has made. -/
structure FirstP (i : Nat) (mx lo hi : List Int) : Prop where
  m : mx.length = i
  l : lo.length = i
  h : hi.length = i
  bm : ∀ z ∈ mx, z.natAbs ≤ 99
  bl : ∀ z ∈ lo, z.natAbs ≤ 99
  bh : ∀ z ∈ hi, z.natAbs ≤ 99
  w : ∀ r ∈ lo.zip hi, -1 ≤ r.2 - r.1 ∧ r.2 - r.1 ≤ 5

theorem mem_snoc {α : Type} {P : α → Prop} {l : List α} {x : α} (h : ∀ z ∈ l, P z) (hx : P x) : ∀ z ∈ l ++ [x], P z := by
  intro z hz
  rcases List.mem_append.1 hz with h1 | h1
  · exact h z h1
  · rw [List.mem_singleton.1 h1]; exact hx

theorem FirstP.more {i : Nat} {mx lo hi : List Int} (h : FirstP i mx lo hi) (a b c d : Nat) (ha : a < 11) (hb : b < 7) (hc : c < 6) (hd : d < 16) : FirstP (i + 1) (mx ++ [(a : Int) - 4]) (lo ++ [(b : Int) - 3]) (hi ++ [(b : Int) - 3 + c - (d / 15 : Nat)]) := by
  refine ⟨by simp [h.m], by simp [h.l], by simp [h.h], mem_snoc h.bm (by omega), mem_snoc h.bl (by omega), mem_snoc h.bh (by omega), ?_⟩
  rw [List.zip_append (by rw [h.l, h.h])]
  exact mem_snoc h.w (by show -1 ≤ ((b : Int) - 3 + c - (d / 15 : Nat)) - ((b : Int) - 3) ∧ _ ≤ (5 : Int); omega)


theorem Sm.begin {w w1 : World} {gf : Nat} {s : ByteArray} {a : Nat} (hf : Box2 w1 gf (.string s) (.int .i64 (a : Nat))) (ha : a ≤ s.size) (hg : w.heap.size ≤ gf) (hl : Below w.heap.size w w1) (t : TypeId) :
    Sm (w1.heap.size + 1) gf w1.heap.size w (w1.alloc (.cells #[.slice none 0 0, .slice none 0 0, .slice none 0 0, .slice none 0 0, .slice none 0 0, .slice none 0 0] t)) s a sixNil [] := by
  have h4 := hf.2.2.2.2
  have hsz := hl.size
  have t0 := World.alloc_heap_new w1 (.cells #[.slice none 0 0, .slice none 0 0, .slice none 0 0, .slice none 0 0, .slice none 0 0, .slice none 0 0] t)
  refine ⟨⟨hg, by omega, by omega, by omega, by omega⟩, by simp, hf.alloc _, ha, fun k r hk => ?_, ⟨fun k v t xs hk => ?_, fun j k r q hj hk _ g e => ?_⟩, hl.trans ((Below.refl _ _).alloc hsz _)⟩
  · have hr := (sixNil_all r (List.mem_of_getElem? hk)).1
    have hk6 : k < 6 := (List.getElem?_eq_some_iff.1 hk).1
    rw [hr]
    refine ⟨(cell_of_row _ _ k _ _ _ t0).trans ?_, World.frozen?_alloc_at _ _ _ _ rfl⟩
    have : k = 0 ∨ k = 1 ∨ k = 2 ∨ k = 3 ∨ k = 4 ∨ k = 5 := by omega
    rcases this with rfl | rfl | rfl | rfl | rfl | rfl <;> rfl
  · rw [List.append_nil] at hk
    obtain ⟨h1, h2⟩ := sixNil_all _ (List.mem_of_getElem? hk)
    simp only at h1 h2
    subst h1 h2
    exact World.ownsRow_nil _ _ _ _
  · rw [List.append_nil] at hj
    rw [(sixNil_all _ (List.mem_of_getElem? hj)).1] at e
    cases e

/-- Rows of ints, as further rows. -/
def rowsL (gv : List Value) (gs : List (List Int)) : List (Value × Nat × List Value) := (gv.zip gs).map fun p => (p.1, 3, ivs p.2)

theorem rowsL_snoc {gv : List Value} {gs : List (List Int)} (h : gv.length = gs.length) (v : Value) (zs : List Int) : rowsL gv gs ++ [(v, 3, ivs zs)] = rowsL (gv ++ [v]) (gs ++ [zs]) := by
  unfold rowsL
  rw [List.zip_append h, List.map_append]
  rfl

/-- What the second loop has made. -/
structure SecP (m : Nat) (gs : List (List Int)) (ss rs : List Int) : Prop where
  s : ss.length = gs.length
  r : rs.length = gs.length
  bg : ∀ g ∈ gs, g.length = m ∧ ∀ z ∈ g, z.natAbs ≤ 99
  bs : ∀ k ∈ ss, 0 ≤ k ∧ k ≤ 2
  br : ∀ z ∈ rs, z.natAbs ≤ 99

theorem SecP.more {m : Nat} {gs : List (List Int)} {ss rs : List Int} (h : SecP m gs ss rs) {zs : List Int} (hz : zs.length = m) (hb : ∀ z ∈ zs, z.natAbs ≤ 99) {sg : Int} (hs : 0 ≤ sg ∧ sg ≤ 2) {x : Nat} (hx : x < 31) : SecP m (gs ++ [zs]) (ss ++ [sg]) (rs ++ [(x : Int) - 6]) :=
  ⟨by simp [h.s], by simp [h.r], mem_snoc h.bg ⟨hz, hb⟩, mem_snoc h.bs hs, mem_snoc h.br (by omega)⟩

theorem Sm.lastOwn {B gf gp : Nat} {w0 w : World} {s : ByteArray} {a : Nat} {l tl : List (Value × Nat × List Value)} {t : Nat} {v : Value} {xs : List Value} (h : Sm B gf gp w0 w s a l (tl ++ [(v, t, xs)])) : w.ownsRow B t 1 v xs.length xs := by
  refine h.pen.own (l ++ tl).length v t xs ?_
  rw [← List.append_assoc, List.getElem?_append_right (Nat.le_refl _), Nat.sub_self]
  rfl

theorem owns_form {w : World} {B t n : Nat} {v : Value} {xs : List Value} (h : w.ownsRow B t 1 v n xs) : ∃ ao l c, v = .slice ao l c := by
  obtain ⟨_, h1 | ⟨g, cap, cur, hv, _⟩⟩ := h
  · exact ⟨_, _, _, h1.1⟩
  · exact ⟨_, _, _, hv⟩

theorem Tryz.infoIs : (Tryz.prog.info? 35).map (fun i => (i.zero, i.size, i.bytes)) = some (some (.slice none 0 0), 1, 24) := by kernel_rfl

theorem two_news (w : World) (o : Obj) (v : Value) (t : TypeId) : ∀ (j : Nat) (u : Value), [v][j]? = some u → ((w.alloc o).alloc (.cells #[v] t)).cell? ((⟨w.heap.size + 1, 0, none⟩ : Addr).add j) = some u := by
  have e : (w.alloc o).heap.size = w.heap.size + 1 := by simp
  rw [← e]
  exact cell_one_new _ _ _

/-- What small answers. -/
def SmallR (w : World) (e : Ending) (w' : World) : Prop :=
  ∃ (B n : Nat) (vM vL vH vG vS vR : Value) (mx lo hi : List Int) (gv : List Value) (gs : List (List Int)) (ss rs : List Int), e = .returned (.agg #[vM, vL, vH, vG, vS, vR]) ∧ n < 3 ∧ FirstP (n + 1) mx lo hi ∧ SecP (n + 1) gs ss rs ∧ gs.length ≤ 3 ∧ gv.length = gs.length ∧ Pen B w' (sixL vM vL vH vG vS vR mx lo hi gv ss rs ++ rowsL gv gs) ∧ Below w.heap.size w w'

/-- The number of a sign. -/
def sgF (x : Nat) : Int := if x < 3 then 0 else if x = 3 then 1 else 2
theorem sgF_is (x : Nat) : 0 ≤ sgF x ∧ sgF x ≤ 2 := by
  unfold sgF
  split
  · omega
  · split <;> omega

def fiveO : Obj := .cells #[.int .i64 0, .int .i64 0, .int .i64 0, .int .i64 1, .int .i64 2] 3
theorem five_cell (w : World) (x : Nat) (h : x < 5) : (w.alloc (.cells #[.int .i64 0, .int .i64 0, .int .i64 0, .int .i64 1, .int .i64 2] 3)).cell? ⟨w.heap.size, x, none⟩ = some (.int .i64 (sgF x)) := by
  refine (cell_of_row _ _ x _ _ _ (World.alloc_heap_new w _)).trans ?_
  have : x = 0 ∨ x = 1 ∨ x = 2 ∨ x = 3 ∨ x = 4 := by omega
  rcases this with rfl | rfl | rfl | rfl | rfl <;> rfl

set_option maxHeartbeats 2000000 in
set_option maxRecDepth 100000 in
theorem small_any (s : ByteArray) (w : World) (hs : s.size ≤ 9223372036854775807) :
    Calls Tryz.prog 23 #[.string s] w fun e w' => SmallR w e w' := by
  obtain ⟨i0, hi0, hz0, hz1, hz2⟩ := info_parts T.Tryz.infoInt
  have HN := hide (fun (W : World) (a n : Nat) (hb : Box2 W (w.heap.size + 1) (.string s) (.int .i64 (a : Nat))) (ha : a ≤ s.size) (hn : 0 < n) (hn2 : n ≤ 1000) => next_any s (w.heap.size + 1) a n W hb hs ha hn hn2)
  go_enter Tryz.func23, Tryz.ntmps23
  go_wp2_with fail
  refine (HN.out _ 0 3 (Box2.new1 _ _ _ _ _) (Nat.zero_le _) (by omega) (by omega)).mono ?_
  rintro e w1 ⟨rfl, hf1, hw1⟩
  have hlow : Below (w.alloc (.cells #[.slice none 0 0, .slice none 0 0, .slice none 0 0, .slice none 0 0, .slice none 0 0, .slice none 0 0] 38)).heap.size (w.alloc (.cells #[.slice none 0 0, .slice none 0 0, .slice none 0 0, .slice none 0 0, .slice none 0 0, .slice none 0 0] 38)) w1 := ((Below.refl _ _).alloc (Nat.le_refl _) _).trans (hw1.below (by simp) (by intro k hk; simp; omega))
  have HW0 : Hid ((w.alloc (.cells #[.slice none 0 0, .slice none 0 0, .slice none 0 0, .slice none 0 0, .slice none 0 0, .slice none 0 0] 38)).heap[w.heap.size]? = some (.cells #[.slice none 0 0, .slice none 0 0, .slice none 0 0, .slice none 0 0, .slice none 0 0, .slice none 0 0] 38) ∧ Below w.heap.size w (w.alloc (.cells #[.slice none 0 0, .slice none 0 0, .slice none 0 0, .slice none 0 0, .slice none 0 0, .slice none 0 0] 38)) ∧ (w.alloc (.cells #[.slice none 0 0, .slice none 0 0, .slice none 0 0, .slice none 0 0, .slice none 0 0, .slice none 0 0] 38)).heap.size = w.heap.size + 1) := ⟨World.alloc_heap_new w _, (Below.refl _ w).alloc (Nat.le_refl _) _, by simp⟩
  have hx1 := fv_lt s 0 3 (by omega)
  have ha1 := fa_le s 0 (Nat.zero_le _)
  generalize fv s 0 3 = n at *
  generalize fa s 0 = a1 at *
  clear hw1
  generalize w.alloc (.cells #[.slice none 0 0, .slice none 0 0, .slice none 0 0, .slice none 0 0, .slice none 0 0, .slice none 0 0] 38) = W0 at hlow HW0
  have hS0 := Sm.begin hf1 ha1 (by have := HW0.out.2.2; omega) hlow 38
  clear hf1 hlow
  go_wp2_with fail
  generalize w1.alloc (.cells #[.slice none 0 0, .slice none 0 0, .slice none 0 0, .slice none 0 0, .slice none 0 0, .slice none 0 0] 38) = wB at *
  generalize w1.heap.size = gp at *
  have HLT := hide hS0.lt
  generalize hgf : w.heap.size + 1 = gf at *
  generalize hgr : w.heap.size = gr at *
  go_loopw [6] (fun iv wr => ∃ (i a : Nat) (vM vL vH : Value) (mx lo hi : List Int), iv = .int .i64 (i : Nat) ∧ i ≤ n + 1 ∧ Hid (FirstP i mx lo hi) ∧ Sm (gp + 1) gf gp W0 wr s a (sixL vM vL vH (.slice none 0 0) (.slice none 0 0) (.slice none 0 0) mx lo hi [] [] []) []) (fun iv _ => (n + 1) - (intOf iv).toNat)
  case atStart => exact ⟨0, a1, _, _, _, [], [], [], rfl, by omega, ⟨rfl, rfl, rfl, by simp, by simp, by simp, by simp⟩, hS0⟩
  case round =>
    obtain ⟨i, a, vM, vL, vH, mx, lo, hi, rfl, hi_, HF, hS⟩ := hrel
    have ha := hS.sz
    by_cases hin : i < n + 1
    · have b1 := fv_lt s a 11 (by omega)
      have a2 := fa_le s a ha
      have HN1 := hide (fun W hb => HN.out W a 11 hb ha (by omega) (by omega))
      generalize fv s a 11 = x1 at *
      generalize fa s a = c2 at *
      have b2 := fv_lt s c2 7 (by omega)
      have a3 := fa_le s c2 a2
      have HN2 := hide (fun W hb => HN.out W c2 7 hb a2 (by omega) (by omega))
      generalize fv s c2 7 = x2 at *
      generalize fa s c2 = c3 at *
      have b3 := fv_lt s c3 6 (by omega)
      have a4 := fa_le s c3 a3
      have HN3 := hide (fun W hb => HN.out W c3 6 hb a3 (by omega) (by omega))
      generalize fv s c3 6 = x3 at *
      generalize fa s c3 = c4 at *
      have b4 := fv_lt s c4 16 (by omega)
      have a5 := fa_le s c4 a4
      have HN4 := hide (fun W hb => HN.out W c4 16 hb a4 (by omega) (by omega))
      generalize fv s c4 16 = x4 at *
      generalize fa s c4 = c5 at *
      have SD := hS.ext (Ext.refl wr).drew
      have p0 := (SD.box 0 _ rfl).1
      have hml : Hid ((ivs mx).length = i) := by rw [Hid, ivs_len]; exact HF.out.m
      have wr1 : IntKind.i64.wrap ((x1 : Int) - 4) = (x1 : Int) - 4 := wrap_small _ (by omega) (by omega)
      go_wp2_with fail
      go_cut [6] (fun iv wc => iv = .int .i64 (i : Nat) ∧ ∃ vM', Sm (gp + 1) gf gp W0 wc s c2 (sixL vM' vL vH (.slice none 0 0) (.slice none 0 0) (.slice none 0 0) (mx ++ [(x1 : Int) - 4]) lo hi [] [] []) [])
      case first =>
        go_region_law (first | (have hJ := SB.le; refine step_append_lies _ rfl (.tmp 23) (.tmp 27) 35 rfl (gp + 1) 3 i0 (.int .i64 0) 1 8 Tryz.underlying35 hi0 hz0 hz1 hz2 rfl (by decide) vM (ivs mx).length (ivs mx) rfl (SB.pen.own 0 _ _ _ rfl) ⟨wA.heap.size, 0, none⟩ 1 1 [.int .i64 ((x1 : Int) - 4)] rfl rfl (cell_one_new _ _ _) (by simp [Value.oneCell']) (by omega) (by have := hml.out; unfold maxLen; omega) (by have := hml.out; omega) SB.le (wA.heap.size + 1) (by simp) ?_; intro g2 cap2 w2 hown2 hgrow hat hlt2; obtain ⟨q0, q0f⟩ := SB.far (k := 0) rfl hgrow (j := 0) rfl) | (go_simp; go_at_call 43; refine (HN1.out _ (by exact SD.fd)).mono ?_; rintro e wA ⟨rfl, hfA, hwA⟩; have SA := SD.next hfA a2 hwA; have pA := (SA.box 0 _ rfl).1; have SB := SA.ext ((Ext.refl wA).alloc (.cells #[.int .i64 ((x1 : Int) - 4)] 3)); have pB := (SB.box 0 _ rfl).1; go_wp2_with fail))
        all_goals
          have hZ := SB.field (k := 0) rfl hgrow hown2 (hat.imp id (fun e => by rw [e]; simp))
          rw [ivs_snoc] at hZ
          go_wp2_with fail
          go_meet
          exact ⟨rfl, _, hZ⟩
      case rest =>
        obtain ⟨rfl, vM', hS2⟩ := hcut
        clear hS SD p0 hml wr1 HN1
        have wr2 : IntKind.i64.wrap ((x2 : Int) - 3) = (x2 : Int) - 3 := wrap_small _ (by omega) (by omega)
        go_wp2_with fail
        refine (HN2.out _ hS2.fd).mono ?_
        rintro e wC ⟨rfl, hfC, hwC⟩
        have SC := hS2.next hfC a3 hwC
        have pC := (SC.box 1 _ rfl).1
        have SE := SC.ext ((Ext.refl wC).alloc (.cells #[.int .i64 ((x2 : Int) - 3)] 3))
        have hll : Hid ((ivs lo).length = i) := by rw [Hid, ivs_len]; exact HF.out.l
        clear hS2 hfC hwC
        go_wp2_with (at_builtin; refine wpList_append_lies _ rfl _ _ 35 rfl (gp + 1) 3 i0 (.int .i64 0) 1 8 Tryz.underlying35 hi0 hz0 hz1 hz2 rfl (by decide) vL (ivs lo).length (ivs lo) rfl (SE.pen.own 1 _ _ _ rfl) ⟨wC.heap.size, 0, none⟩ 1 1 [.int .i64 ((x2 : Int) - 3)] rfl rfl (cell_one_new _ _ _) (by simp [Value.oneCell']) (by omega) (by have := hll.out; unfold maxLen; omega) (by have := hll.out; omega) SE.le (wC.heap.size + 1) (by simp) ?_)
        intro g3 cap3 w3 hown3 hgrow3 hat3 hlt3
        obtain ⟨q1, q1f⟩ := SE.far (k := 1) rfl hgrow3 (j := 1) rfl
        have hY := SE.field (k := 1) rfl hgrow3 hown3 (hat3.imp id (fun e => by rw [e]; simp))
        rw [ivs_snoc] at hY
        go_wp2_with fail
        generalize w3.setCell ⟨gp, 1, none⟩ (.slice (some ⟨g3, 0, none⟩) ((ivs lo).length + 1) cap3) = w4 at *
        generalize (.slice (some ⟨g3, 0, none⟩) ((ivs lo).length + 1) cap3 : Value) = vL' at *
        have hY2 : Sm (gp + 1) gf gp W0 w4 s c3 (sixL vM' vL' vH (.slice none 0 0) (.slice none 0 0) (.slice none 0 0) (mx ++ [(x1 : Int) - 4]) (lo ++ [(x2 : Int) - 3]) hi [] [] []) [] := hY
        clear hY q1 q1f hlt3 hat3 hgrow3 hown3 SE SC pC hll wr2 HN2
        have hhl : Hid ((ivs hi).length = i) := by rw [Hid, ivs_len]; exact HF.out.h
        have SF := hY2.ext (Ext.refl w4).drew
        have p2 := (SF.box 2 _ rfl).1
        have HFN := hide (HF.out.more x1 x2 x3 x4 b1 b2 b3 b4)
        have hq0 : (x4 : Int).tdiv 15 = ((x4 / 15 : Nat) : Int) := by rw [Int.tdiv_eq_ediv_of_nonneg (by omega)]; rfl
        have hy1 : x4 / 15 ≤ 1 := by omega
        generalize x4 / 15 = y at *
        have wr3 : IntKind.i64.wrap ((x2 : Int) - 3 + (x3 : Int)) = (x2 : Int) - 3 + (x3 : Int) := wrap_small _ (by omega) (by omega)
        have wr4 : IntKind.i64.wrap (y : Int) = (y : Int) := wrap_small _ (by omega) (by omega)
        have wr5 : IntKind.i64.wrap ((x2 : Int) - 3 + (x3 : Int) - (y : Int)) = (x2 : Int) - 3 + (x3 : Int) - (y : Int) := wrap_small _ (by omega) (by omega)
        clear hY2
        go_region_law (first | (have hJ := SJ.le; refine step_append_lies _ rfl (.tmp 40) (.tmp 49) 35 rfl (gp + 1) 3 i0 (.int .i64 0) 1 8 Tryz.underlying35 hi0 hz0 hz1 hz2 rfl (by decide) vH (ivs hi).length (ivs hi) rfl (SJ.pen.own 2 _ _ _ rfl) ⟨wH.heap.size, 0, none⟩ 1 1 [.int .i64 ((x2 : Int) - 3 + (x3 : Int) - (y : Int))] rfl rfl (cell_one_new _ _ _) (by simp [Value.oneCell']) (by omega) (by have := hhl.out; unfold maxLen; omega) (by have := hhl.out; omega) SJ.le (wH.heap.size + 1) (by simp) ?_; intro g2 cap2 w2 hown2 hgrow hat hlt2; obtain ⟨q0, q0f⟩ := SJ.far (k := 2) rfl hgrow (j := 2) rfl) | (have hG := SG.le; go_simp; go_at_call 43; refine (HN4.out _ (by exact SG.fd)).mono ?_; rintro e wH ⟨rfl, hfH, hwH⟩; have SH := SG.next hfH a5 hwH; have pH := (SH.box 2 _ rfl).1; have SJ := SH.ext ((Ext.refl wH).alloc (.cells #[.int .i64 ((x2 : Int) - 3 + (x3 : Int) - (y : Int))] 3)); have pJ := (SJ.box 2 _ rfl).1; go_wp2_with fail) | (go_simp; go_at_call 43; refine (HN3.out _ (by exact SF.fd)).mono ?_; rintro e wG ⟨rfl, hfG, hwG⟩; have SG := SF.next hfG a4 hwG; have pG := (SG.box 2 _ rfl).1; go_wp2_with fail))
        all_goals
          have hZ := SJ.field (k := 2) rfl hgrow hown2 (hat.imp id (fun e => by rw [e]; simp))
          rw [ivs_snoc] at hZ
          go_wp2_with fail
          go_roundw
        all_goals first | exact ⟨i + 1, c5, vM', vL', _, _, _, _, by go_num, by omega, HFN, hZ⟩ | (simp [intOf]; omega)
    · obtain rfl : i = n + 1 := by omega
      have HFF := HF
      clear HF hS0
      have b5 := fv_lt s a 4 (by omega)
      have a6 := fa_le s a ha
      have HN5 := hide (fun W hb => HN.out W a 4 hb ha (by omega) (by omega))
      generalize fv s a 4 = x5 at *
      generalize fa s a = c6 at *
      go_wp2_with fail
      refine (HN5.out _ hS.fd).mono ?_
      rintro e w5 ⟨rfl, hf5, hw5⟩
      have S5 := hS.next hf5 a6 hw5
      clear hf5 hw5 hS HN5
      go_wp2_with fail
      go_loopw [8] (fun kv wr => ∃ (k a : Nat) (vG vS vR : Value) (gv : List Value) (gs : List (List Int)) (ss rs : List Int), kv = .int .i64 (k : Nat) ∧ k + gs.length ≤ 3 ∧ Hid (gv.length = gs.length) ∧ Hid (SecP (n + 1) gs ss rs) ∧ Sm (gp + 1) gf gp W0 wr s a (sixL vM vL vH vG vS vR mx lo hi gv ss rs) (rowsL gv gs)) (fun kv _ => (intOf kv).toNat)
      case atStart => exact ⟨x5, c6, _, _, _, [], [], [], [], rfl, by simp; omega, rfl, ⟨rfl, rfl, by simp, by simp, by simp⟩, S5⟩
      case round =>
        clear S5
        obtain ⟨k, a, vG, vS, vR, gv, gs, ss, rs, rfl, hk3, hgl, HSP, hS⟩ := hrel
        have ha := hS.sz
        by_cases hk0 : 0 < k
        · have hkI : (0 : Int) < (k : Int) := by omega
          have hS1 := hS.start 3
          clear hS
          go_wp2_with fail
          go_loopw [9, 10] (fun gvv jv wr => ∃ (j a : Nat) (vg : Value) (zs : List Int), gvv = vg ∧ jv = .int .i64 (j : Nat) ∧ j ≤ n + 1 ∧ Hid (zs.length = j ∧ ∀ z ∈ zs, z.natAbs ≤ 99) ∧ Sm (gp + 1) gf gp W0 wr s a (sixL vM vL vH vG vS vR mx lo hi gv ss rs) (rowsL gv gs ++ [(vg, 3, ivs zs)])) (fun _ jv _ => (n + 1) - (intOf jv).toNat)
          case atStart => exact ⟨0, a, _, [], rfl, rfl, by omega, ⟨rfl, by simp⟩, hS1⟩
          case round =>
            clear hS1 ha
            obtain ⟨j, a, vg, zs, hvg, rfl, hj, HZ, hS⟩ := hrel
            replace hvg := hvg.symm
            subst hvg
            have ha := hS.sz
            by_cases hjn : j < n + 1
            · have b7 := fv_lt s a 13 (by omega)
              have a7 := fa_le s a ha
              have HN7 := hide (fun W hb => HN.out W a 13 hb ha (by omega) (by omega))
              generalize fv s a 13 = x7 at *
              generalize fa s a = c7 at *
              have wr7 : IntKind.i64.wrap ((x7 : Int) - 4) = (x7 : Int) - 4 := wrap_small _ (by omega) (by omega)
              go_wp2_with fail
              refine (HN7.out _ hS.fd).mono ?_
              rintro e w7 ⟨rfl, hf7, hw7⟩
              have S7 := hS.next hf7 a7 hw7
              have S8 := S7.ext ((Ext.refl w7).alloc (.cells #[.int .i64 ((x7 : Int) - 4)] 3))
              have hzl : Hid ((ivs zs).length = j) := by rw [Hid, ivs_len]; exact HZ.out.1
              clear hS hf7 hw7
              go_wp2_with (at_builtin; refine wpList_append_lies _ rfl _ _ 35 rfl (gp + 1) 3 i0 (.int .i64 0) 1 8 Tryz.underlying35 hi0 hz0 hz1 hz2 rfl (by decide) vg (ivs zs).length (ivs zs) rfl S8.lastOwn ⟨w7.heap.size, 0, none⟩ 1 1 [.int .i64 ((x7 : Int) - 4)] rfl rfl (cell_one_new _ _ _) (by simp [Value.oneCell']) (by omega) (by have := hzl.out; unfold maxLen; omega) (by have := hzl.out; omega) S8.le (w7.heap.size + 1) (by simp) ?_)
              intro g3 cap3 w3 hown3 hgrow3 hat3 hlt3
              have hY := S8.last hgrow3 hown3 (hat3.imp id (fun e => by rw [e]; simp))
              rw [ivs_snoc] at hY
              go_wp2_with fail
              go_roundw
              case rel => exact ⟨j + 1, c7, _, zs ++ [(x7 : Int) - 4], rfl, by go_num, by omega, ⟨by simp [HZ.out.1], mem_snoc HZ.out.2 (by omega)⟩, hY⟩
              case measure => simp [intOf]; omega
            · obtain rfl : j = n + 1 := by omega
              obtain ⟨ao, gl, gc, rfl⟩ := owns_form hS.lastOwn
              obtain ⟨i1, hi1, hy0, hy1, hy2⟩ := info_parts Tryz.infoIs
              have S9 := hS.ext ((Ext.refl wr).alloc (.cells #[.slice ao gl gc] 35))
              have p3 := (hS.box 3 _ rfl).1
              go_wp2_with (at_builtin; refine wpList_append_lies _ rfl _ _ 36 rfl (gp + 1) 35 i1 (.slice none 0 0) 1 24 Tryz.underlying36 hi1 hy0 hy1 hy2 rfl (by decide) vG gv.length gv rfl (S9.pen.own 3 _ _ _ rfl) ⟨wr.heap.size, 0, none⟩ 1 1 [.slice ao gl gc] rfl rfl (cell_one_new _ _ _) (by simp [Value.oneCell']) (by omega) (by have := hgl.out; unfold maxLen; omega) (by have := hgl.out; omega) S9.le (wr.heap.size + 1) (by simp) ?_)
              intro g3 cap3 w3 hown3 hgrow3 hat3 hlt3
              obtain ⟨q1, q1f⟩ := S9.far (k := 3) rfl hgrow3 (j := 3) rfl
              have hY := S9.field (k := 3) rfl hgrow3 hown3 (hat3.imp id (fun e => by rw [e]; simp))
              rw [rowsL_snoc hgl.out] at hY
              go_wp2_with fail
              generalize w3.setCell ⟨gp, 3, none⟩ (.slice (some ⟨g3, 0, none⟩) (gv.length + 1) cap3) = w6 at *
              generalize (.slice (some ⟨g3, 0, none⟩) (gv.length + 1) cap3 : Value) = vG' at *
              have hY2 : Sm (gp + 1) gf gp W0 w6 s a (sixL vM vL vH vG' vS vR mx lo hi (gv ++ [.slice ao gl gc]) ss rs) (rowsL (gv ++ [.slice ao gl gc]) (gs ++ [zs])) := hY
              clear hY q1 q1f hlt3 hat3 hgrow3 hown3 S9 p3 hS
              have hgl2 : Hid ((gv ++ [(.slice ao gl gc : Value)]).length = (gs ++ [zs]).length) := by rw [Hid, List.length_append, List.length_append, hgl.out]; rfl
              have hg2 : (gs ++ [zs]).length = gs.length + 1 := by simp
              generalize gv ++ [.slice ao gl gc] = gv2 at *
              have hss : Hid ((ivs ss).length ≤ 3) := by rw [Hid, ivs_len, HSP.out.s]; omega
              have hrr : Hid ((ivs rs).length ≤ 3) := by rw [Hid, ivs_len, HSP.out.r]; omega
              have b8 := fv_lt s a 5 (by omega)
              have a8 := fa_le s a ha
              have HN8 := hide (fun W hb => HN.out W a 5 hb ha (by omega) (by omega))
              generalize fv s a 5 = x8 at *
              generalize fa s a = c8 at *
              have b9 := fv_lt s c8 31 (by omega)
              have a9 := fa_le s c8 a8
              have HN9 := hide (fun W hb => HN.out W c8 31 hb a8 (by omega) (by omega))
              generalize fv s c8 31 = x9 at *
              generalize fa s c8 = c9 at *
              have HSN := hide (HSP.out.more HZ.out.1 HZ.out.2 (sgF_is x8) b9)
              have HFV := hide (fun W => five_cell W x8 b8)
              generalize sgF x8 = sg at *
              generalize gs ++ [zs] = gs2 at *
              clear HSP hgl HZ
              have i5 : (x8 : Int) < 5 := by omega
              have SF := hY2.ext (Ext.refl w6).drew
              have p4 := (SF.box 4 _ rfl).1
              have SF5 := hY2.ext (((Ext.refl w6).alloc (.cells #[.int .i64 0, .int .i64 0, .int .i64 0, .int .i64 1, .int .i64 2] 3)).drew)
              have p45 := (SF5.box 4 _ rfl).1
              have hB6 := SF.le
              have five5 : (w6.alloc (.cells #[.int .i64 0, .int .i64 0, .int .i64 0, .int .i64 1, .int .i64 2] 3)).drew.cell? ⟨w6.heap.size, x8, none⟩ = some (.int .i64 sg) := HFV.out w6
              have hne6 : ¬ (w6.heap.size = gf) := by have h1 := HLT.out; have h2 : gp + 1 ≤ w6.heap.size := hB6; omega
              clear hY2 hB6
              go_cut [8] (fun kv wc => kv = .int .i64 (k : Nat) ∧ ∃ vS', Sm (gp + 1) gf gp W0 wc s c8 (sixL vM vL vH vG' vS' vR mx lo hi gv2 (ss ++ [sg]) rs) (rowsL gv2 gs2))
              case first =>
                go_region_law (first | (have hJ := SJ1.le; refine step_append_lies _ rfl (.tmp 76) (.tmp 82) 35 rfl (gp + 1) 3 i0 (.int .i64 0) 1 8 Tryz.underlying35 hi0 hz0 hz1 hz2 rfl (by decide) vS (ivs ss).length (ivs ss) rfl (SJ1.pen.own 4 _ _ _ rfl) ⟨wK.heap.size + 1, 0, none⟩ 1 1 [.int .i64 sg] rfl rfl hn1 (by simp [Value.oneCell']) (by omega) (by have := hss.out; unfold maxLen; omega) (by have := hss.out; omega) hJ (wK.heap.size + 1 + 1) (by simp) ?_; intro g2 cap2 w2 hown2 hgrow hat hlt2; obtain ⟨q0, q0f⟩ := SJ1.far (k := 4) rfl hgrow (j := 4) rfl) | (have hJ := SJ2.le; refine step_append_lies _ rfl (.tmp 76) (.tmp 82) 35 rfl (gp + 1) 3 i0 (.int .i64 0) 1 8 Tryz.underlying35 hi0 hz0 hz1 hz2 rfl (by decide) vS (ivs ss).length (ivs ss) rfl (SJ2.pen.own 4 _ _ _ rfl) ⟨wK.heap.size, 0, none⟩ 1 1 [.int .i64 sg] rfl rfl (cell_one_new _ _ _) (by simp [Value.oneCell']) (by omega) (by have := hss.out; unfold maxLen; omega) (by have := hss.out; omega) hJ (wK.heap.size + 1) (by simp) ?_; intro g2 cap2 w2 hown2 hgrow hat hlt2; obtain ⟨q0, q0f⟩ := SJ2.far (k := 4) rfl hgrow (j := 4) rfl) | (go_simp; go_at_call 43; refine (HN8.out _ (by with_reducible exact SF.fd)).mono ?_; rintro e wK ⟨rfl, hfK, hwK⟩; have SK := SF.next hfK a8 hwK; have pK := (SK.box 4 _ rfl).1; have SK5 := SK.ext ((Ext.refl wK).alloc (.cells #[.int .i64 0, .int .i64 0, .int .i64 0, .int .i64 1, .int .i64 2] 3)); have pK5 := (SK5.box 4 _ rfl).1; have fiveK := HFV.out wK; have SJ1 := SK5.ext ((Ext.refl _).alloc (.cells #[.int .i64 sg] 3)); have pJ := (SJ1.box 4 _ rfl).1; have hn1 := two_news wK (.cells #[.int .i64 0, .int .i64 0, .int .i64 0, .int .i64 1, .int .i64 2] 3) (.int .i64 sg) 3; go_wp2_with fail) | (go_simp; go_at_call 43; refine (HN8.out _ (by with_reducible exact SF5.fd)).mono ?_; rintro e wK ⟨rfl, hfK, hwK⟩; have SK := SF5.next hfK a8 hwK; have pK := (SK.box 4 _ rfl).1; have fiveK := hwK.cell (p := ⟨w6.heap.size, x8, none⟩) hne6 five5; have SJ2 := SK.ext ((Ext.refl _).alloc (.cells #[.int .i64 sg] 3)); have pJ := (SJ2.box 4 _ rfl).1; go_wp2_with fail))
                all_goals first | (have hZ := SJ1.field (k := 4) rfl hgrow hown2 (hat.imp id (fun e => by rw [e]; simp))) | (have hZ := SJ2.field (k := 4) rfl hgrow hown2 (hat.imp id (fun e => by rw [e]; simp)))
                all_goals
                  rw [ivs_snoc] at hZ
                  go_wp2_with fail
                  go_meet
                  exact ⟨rfl, _, hZ⟩
              case rest =>
                obtain ⟨rfl, vS', hS2⟩ := hcut
                clear SF SF5 p4 p45 five5 hne6 HFV i5 HN8 hss
                obtain ⟨k', rfl⟩ : ∃ k', k = k' + 1 := ⟨k - 1, by omega⟩
                have SF := hS2.ext (Ext.refl wc).drew
                have p5 := (SF.box 5 _ rfl).1
                have wr9 : IntKind.i64.wrap ((x9 : Int) - 6) = (x9 : Int) - 6 := wrap_small _ (by omega) (by omega)
                clear hS2
                go_wp2_with fail
                go_region_law (first | (have hJ := SB.le; refine step_append_lies _ rfl (.tmp 86) (.tmp 90) 35 rfl (gp + 1) 3 i0 (.int .i64 0) 1 8 Tryz.underlying35 hi0 hz0 hz1 hz2 rfl (by decide) vR (ivs rs).length (ivs rs) rfl (SB.pen.own 5 _ _ _ rfl) ⟨wA.heap.size, 0, none⟩ 1 1 [.int .i64 ((x9 : Int) - 6)] rfl rfl (cell_one_new _ _ _) (by simp [Value.oneCell']) (by omega) (by have := hrr.out; unfold maxLen; omega) (by have := hrr.out; omega) hJ (wA.heap.size + 1) (by simp) ?_; intro g2 cap2 w2 hown2 hgrow hat hlt2; obtain ⟨q0, q0f⟩ := SB.far (k := 5) rfl hgrow (j := 5) rfl) | (go_simp; go_at_call 43; refine (HN9.out _ (by exact SF.fd)).mono ?_; rintro e wA ⟨rfl, hfA, hwA⟩; have SA := SF.next hfA a9 hwA; have pA := (SA.box 5 _ rfl).1; have SB := SA.ext ((Ext.refl wA).alloc (.cells #[.int .i64 ((x9 : Int) - 6)] 3)); have pB := (SB.box 5 _ rfl).1; go_wp2_with fail))
                all_goals
                  have hZ := SB.field (k := 5) rfl hgrow hown2 (hat.imp id (fun e => by rw [e]; simp))
                  rw [ivs_snoc] at hZ
                  go_wp2_with fail
                  go_roundw
                all_goals first | exact ⟨k', c9, vG', vS', _, gv2, gs2, _, _, by go_num, by omega, hgl2, HSN, hZ⟩ | (simp [intOf]; done) | (simp [intOf]; omega)
        · obtain rfl : k = 0 := by omega
          obtain ⟨hb0, hlowW, hsz0⟩ := HW0.out
          have hbk : wr.heap[gr]? = some (.cells #[.slice none 0 0, .slice none 0 0, .slice none 0 0, .slice none 0 0, .slice none 0 0, .slice none 0 0] 38) := (hS.low.block gr (by omega)).trans hb0
          have r0 := cell_of_row _ _ 0 _ _ _ hbk
          have r1 := cell_of_row _ _ 1 _ _ _ hbk
          have r2 := cell_of_row _ _ 2 _ _ _ hbk
          have r3 := cell_of_row _ _ 3 _ _ _ hbk
          have r4 := cell_of_row _ _ 4 _ _ _ hbk
          have r5 := cell_of_row _ _ 5 _ _ _ hbk
          have hfz : ∀ j, wr.frozen? ⟨gr, j, none⟩ = false := by intro j; simp [World.frozen?, hbk]
          have z0 := hfz 0
          have z1 := hfz 1
          have z2 := hfz 2
          have z3 := hfz 3
          have z4 := hfz 4
          have z5 := hfz 5
          obtain ⟨aM, lM, cM, rfl⟩ := owns_form (hS.pen.own 0 _ _ _ rfl)
          obtain ⟨aL, lL, cL, rfl⟩ := owns_form (hS.pen.own 1 _ _ _ rfl)
          obtain ⟨aH, lH, cH, rfl⟩ := owns_form (hS.pen.own 2 _ _ _ rfl)
          obtain ⟨aG, lG, cG, rfl⟩ := owns_form (hS.pen.own 3 _ _ _ rfl)
          obtain ⟨aS, lS, cS, rfl⟩ := owns_form (hS.pen.own 4 _ _ _ rfl)
          obtain ⟨aR, lR, cR, rfl⟩ := owns_form (hS.pen.own 5 _ _ _ rfl)
          have hWF : Wr (fun k => k = gr) wr ((((((wr.setCell ⟨gr, 0, none⟩ (.slice aM lM cM)).setCell ⟨gr, 1, none⟩ (.slice aL lL cL)).setCell ⟨gr, 2, none⟩ (.slice aH lH cH)).setCell ⟨gr, 3, none⟩ (.slice aG lG cG)).setCell ⟨gr, 4, none⟩ (.slice aS lS cS)).setCell ⟨gr, 5, none⟩ (.slice aR lR cR)) := ((((((Wr.refl (fun k => k = gr) wr).setCell (p := ⟨gr, 0, none⟩) rfl _).setCell (p := ⟨gr, 1, none⟩) rfl _).setCell (p := ⟨gr, 2, none⟩) rfl _).setCell (p := ⟨gr, 3, none⟩) rfl _).setCell (p := ⟨gr, 4, none⟩) rfl _).setCell (p := ⟨gr, 5, none⟩) rfl _
          have hPF := hS.pen.same hWF.size (fun b hb hlt => hWF.block b hlt (by have := HLT.out; omega))
          have hBF : Below gr w _ := (hlowW.trans (hS.low.mono (by omega))).trans (hWF.below (by have := hS.le; have := HLT.out; omega) (by intro k hk; omega))
          have HRES := hide (And.intro hPF hBF)
          clear hPF hBF hWF
          have p0 := (hS.box 0 _ rfl).1
          have p1 := (hS.box 1 _ rfl).1
          have p2 := (hS.box 2 _ rfl).1
          have p3 := (hS.box 3 _ rfl).1
          have p4 := (hS.box 4 _ rfl).1
          have p5 := (hS.box 5 _ rfl).1
          clear hfz hbk
          go_wp2_with fail
          exact bodyPost_ret (v := .agg #[.slice aM lM cM, .slice aL lL cL, .slice aH lH cH, .slice aG lG cG, .slice aS lS cS, .slice aR lR cR]) (by simp [results, Tryz.results23, go_sem, r0, r1, r2, r3, r4, r5]) rfl ⟨_, n, _, _, _, _, _, _, mx, lo, hi, gv, gs, ss, rs, rfl, hx1, HFF.out, HSP.out, by omega, hgl.out, HRES.out.1, by rw [hgr]; exact HRES.out.2⟩
end Go.Proofs.YtnhfdcfnojnofaaGreatDoor
