import Derived.Deep.AppendLies
import Derived.Deep.DeepAppendRoom
import Derived.Deep.DeepAppendWide
import Derived.Deep.RegionHeld3
import Derived.LaidMore
import Derived.Laws.AppendOwnNone
import Derived.Laws.CopyOwn
import Derived.Laws.EntriesVeiled
import Derived.Lay
import Derived.Lib.AppendIntMem
import Derived.LoopIn
import Derived.LoopNIn
import Derived.OpenShut
import Derived.OwnWalkIn
import Derived.ProofKit
import Derived.RangeFuncBound
import Derived.RangeFuncNested
import Derived.SevenTiedAt
import Derived.Shelf.RegionOpen
import Derived.Shelf.Slices.SearchI
import Derived.Shelf.Small.Bits
import Derived.Shelf.Small.Utf8
import Derived.Shelf.Small.Wraps
import Derived.Shelf.Strconv.Itoa3
import Derived.Shelf.Strings.AsciiSet
import Derived.Shelf.Strings.BuilderCap
import Derived.Shelf.Strings.OnBuilder
import Derived.Shelf.Strings.Repeat
import Derived.Shelf.Strings.Runes
import Derived.Shelf.Strings.Shaped
import Derived.Shelf.Strings.Trim
import Derived.Shelf.Unicode.Decode
import Derived.Stop.LaidErr
import Derived.WalkLawsBesides
import Derived.WalkSpells
import Derived.Test.YtikmppijocpamaaGreatDoorProg
open Go.World renaming cell?->AT,heap->IT
open Array renaming size->IS
namespace Go.Proofs.YtikmppijocpamaaGreatDoor
abbrev zd:=@Array.getElem?_eq_some_iff
abbrev ze:=@Go.cell_of_row
abbrev zg:=@List.getElem?_eq_getElem
abbrev zh:=@Nat.le_refl
abbrev zk:=@List.getD_eq_getElem?_getD
abbrev zm:=@List.length_map
abbrev zo:=@List.getElem?_eq_some_iff
abbrev zq:=@Go.callsIn_wide
abbrev zw:=@Go.block_lt_of_cell
abbrev zx:=@List.mem_of_getElem?
abbrev zA:=@Go.World.cell?_setCell_other
abbrev zC:=@Go.heap_alloc_new
abbrev zD:=@Go.Oper.semAt_some
abbrev zF:=@Nat.le_trans
abbrev zG:=@List.getElem?_append_right
abbrev zH:=@Go.bodyPost_ret
abbrev zI:=@List.mem_cons
abbrev zJ:=@List.getElem_mem
abbrev zK:=@Nat.lt_of_lt_of_le
abbrev zL:=@Go.World.size_alloc
abbrev zM:=@List.length_append
abbrev zN:=@Go.World.cell?_setCell_same
abbrev zO:=@if_neg
abbrev zP:=@List.take_of_length_le
abbrev zQ:=@if_pos
abbrev zR:=@List.getElem?_map
abbrev zS:=@List.getElem?_append_left
abbrev zU:=@List.mem_append
abbrev zV:=@Go.wpAnyH_done
abbrev zX:=@List.length_take
abbrev zY:=@List.not_mem_nil
abbrev zZ:=@Nat.mul_le_mul_right
abbrev qf:=@Go.RowKit.Below.refl
abbrev qg:=@List.mem_singleton
abbrev qi:=@List.length_cons
abbrev qj:=@Go.World.cell?_setCell_far
abbrev qm:=@congrArg
abbrev qo:=@Nat.zero_le
abbrev qp:=@Go.Value.slice.injEq
abbrev qq:=@List.mem_cons_of_mem
abbrev qt:=@Nat.zero_add
abbrev qu:=@Nat.lt_of_le_of_lt
abbrev qw:=@Go.World.frozen?_of_block
abbrev qA:=@List.mem_cons_self
abbrev qB:=@Option.getD_some
abbrev qC:=@Go.RowKit.Below.heap_setCell
abbrev qD:=@Array.getElem?_eq_getElem
abbrev qH:=@Go.RowKit.Below.heap_alloc
abbrev qI:=@Go.results_none
abbrev qL:=@List.getElem?_eq_none
abbrev qM:=@List.getElem_of_mem
abbrev qN:=@Option.some.injEq
abbrev qP:=@List.mem_map
abbrev qR:=@Go.World.alloc_heap_new
abbrev qV:=@Nat.add_zero
abbrev qX:=@List.length_set
abbrev qY:=@Option.map_some
abbrev Za:=@List.length_drop
abbrev Ze:=@Decidable.byContradiction
abbrev Zf:=@List.getElem?_zip_eq_some
abbrev Zg:=@Nat.add_mul
abbrev Zi:=@List.all_eq_true
abbrev Zj:=@Go.World.cell?_of_block
abbrev Zk:=@List.map_cons
abbrev Zl:=@List.append_assoc
abbrev Zn:=@Go.info_parts
abbrev Zp:=@or_false
abbrev Zq:=@Go.CallsIn.inRound
abbrev Zr:=@Nat.mul_le_mul_left
abbrev Zs:=@Nat.mul_add
abbrev Zt:=@Nat.mul_assoc
abbrev Zv:=@Nat.pow_succ
abbrev Zw:=@Array.getD_eq_getD_getElem?
abbrev Zx:=@List.take_length
abbrev ZB:=@List.take_add_one
abbrev ZC:=@List.length_pos_iff
abbrev ZD:=@Nat.pow_le_pow_right
abbrev ZF:=@List.mem_filter
abbrev ZH:=@List.length_singleton
abbrev ZI:=@Int.mul_le_mul_of_nonneg_left
abbrev ZK:=@Go.frozen_of_row
abbrev ZN:=@beq_eq_false_iff_ne
abbrev ZO:=@Go.wp_region_held_drew
abbrev ZP:=@Go.ByteArray.mk_append_mk
abbrev ZQ:=@List.take_succ_eq_append_getElem
abbrev ZR:=@List.append_nil
abbrev ZU:=@Go.Boxed.new
abbrev ZW:=@Go.wpIn_block
abbrev ZX:=@List.flatMap_append
abbrev ZY:=@List.mem_of_mem_take
abbrev ZZ:=@List.cons_append
abbrev Z0:=@Nat.mod_lt
abbrev Z3:=@Nat.pos_of_ne_zero
abbrev Z4:=@Go.World.putObj_heap_other
abbrev Z5:=@Nat.mul_comm
abbrev Z6:=@List.map_append
abbrev Z7:=@Nat.mul_le_mul
abbrev Z8:=@List.mem_range
abbrev Z9:=@decide_eq_true_eq
abbrev Qb:=@Iff.rfl
abbrev Qc:=@Nat.lt_or_ge
abbrev Qd:=@Nat.eq_zero_or_pos
abbrev Qg:=@Go.RowKit.Below.trans
abbrev Qi:=@Int.sign_eq_neg_one_of_neg
abbrev Qj:=@Bool.and_eq_true
abbrev Qk:=@List.length_eq_zero_iff
abbrev Ql:=@Nat.mul_zero
abbrev Qn:=@Nat.sub_self
abbrev Qo:=@List.flatMap_cons
abbrev Qp:=@Int.mul_comm
abbrev Qq:=@List.take_append_of_le_length
abbrev Qr:=@Ne.symm
abbrev Qs:=@Int.sign_eq_one_of_pos
abbrev Qw:=@Nat.min_eq_left
abbrev Qz:=@List.filter_cons
abbrev QB:=@List.map_eq_nil_iff
abbrev QC:=@Nat.div_lt_iff_lt_mul
abbrev QE:=@Nat.mul_pos
abbrev QI:=@List.sum_cons
abbrev QK:=@List.length_nil
abbrev QN:=@List.mem_append_left
abbrev QO:=@List.length_zip
abbrev QP:=@List.drop_of_length_le
abbrev QR:=@List.any_eq_true
abbrev QT:=@Int.one_mul
abbrev QU:=@Int.eq_of_mul_eq_mul_left
abbrev QZ:=@List.eq_nil_of_length_eq_zero
abbrev Q2:=@List.drop_zero
abbrev Q4:=@Go.wpAnyIn_done
abbrev Q6:=@Nat.pow_add
abbrev Q7:=@List.nil_append
abbrev Q8:=@Option.some.inj
abbrev Q9:=@Int.natAbs_natCast
abbrev jd:=@Int.lt_or_eq_of_le
abbrev je:=@List.filter_append
abbrev jg:=@List.getElem?_cons_succ
abbrev jj:=@List.mem_flatMap
abbrev jm:=@Nat.le_of_eq
abbrev jq:=@Nat.mul_left_comm
abbrev js:=@Array.length_toList
abbrev jt:=@List.drop_eq_getElem_cons
abbrev jz:=@Array.getElem?_toList
abbrev jA:=@Int.mul_ediv_add_emod
abbrev jB:=@List.length_filter_le
abbrev jC:=@List.drop_append_of_le_length
abbrev jG:=@List.getElem?_take
abbrev jH:=@Nat.div_eq_of_lt
abbrev jI:=@Int.mul_ediv_cancel_left
abbrev jM:=@Nat.mul_one
abbrev jT:=@Int.toNat_natCast
abbrev jU:=@of_decide_eq_true
abbrev jX:=@Go.wpIn_region_any
abbrev jY:=@List.length_zipWith
abbrev jZ:=@List.getElem?_set_self
abbrev Jd:=@Nat.le_mul_of_pos_left
abbrev Jg:=@Go.Addr.mk.injEq
abbrev Ji:=@List.setIfInBounds_toArray
abbrev Jk:=@Nat.mod_eq_of_lt
abbrev Jn:=@List.drop_drop
abbrev Jo:=@List.getElem?_drop
abbrev Jq:=@List.mem_iff_getElem?
abbrev Js:=@Nat.add_mul_mod_self_left
abbrev Ju:=@List.getElem?_eq_none_iff
abbrev Jv:=@Nat.one_mul
abbrev Jw:=@Go.lt_of_block
abbrev Jz:=@Nat.div_add_mod
abbrev JB:=@Array.size_replicate
abbrev JC:=@Go.cell_one_new
abbrev JM:=@Nat.le_mul_of_pos_right
abbrev JP:=@List.flatMap_nil
abbrev J0:=@Int.natCast_mul
abbrev J1:=@Go.Result.ok.injEq
abbrev J2:=@decide_eq_false
abbrev J3:=@Int.emod_nonneg
abbrev J5:=@List.mem_append_right
abbrev J6:=@List.range_succ
abbrev zad:=@Int.lt_trichotomy
abbrev NW:=@Int.mul_nonpos_of_nonneg_of_nonpos
abbrev pE:=@Go.World.ownsRow_nil
abbrev OT:=@List.length_range
abbrev I1:=@List.mem_of_mem_drop
abbrev Pw:=@List.getElem?_set_ne
abbrev NU:=@Int.sign_eq_zero_iff_zero
abbrev MV:=@List.pairwise_iff_getElem
abbrev Mo:=@Int.le_of_mul_le_mul_left
abbrev RD:=@Classical.byContradiction
abbrev Uk:=@List.eq_of_mem_replicate
abbrev zaF:=@Array.size_setIfInBounds
abbrev TK:=@List.getElem?_take_of_lt
abbrev Hq:=@decide_eq_decide
abbrev L5:=@List.getElem_map
abbrev DD:=@if_false
abbrev Uo:=@List.getElem?_range
abbrev Lt:=@List.filter_sublist
abbrev zaN:=@List.take_succ_cons
abbrev DV:=@Bool.true_and
abbrev I0:=@List.set_cons_zero
abbrev L9:=@List.set_cons_succ
abbrev IW:=@List.foldl_cons
abbrev Od:=@List.eq_nil_iff_forall_not_mem
abbrev Gr:=@Bool.false_eq_true
abbrev IU:=@List.cons.injEq
abbrev LY:=@Option.isSome_some
abbrev At:=@Nat.pow_pos
abbrev Nv:=@Int.mul_neg
abbrev zbd:=@Int.mul_add
abbrev zbf:=@Array.getElem?_eq_none
abbrev MP:=@Int.le_ediv_iff_mul_le
abbrev O6:=@Int.mul_le_mul_of_nonpos_left
abbrev Gd:=@Nat.lt_trichotomy
abbrev Lh:=@List.ext_getElem?
abbrev Hp:=@List.take_append_drop
abbrev tJ:=@Nat.lt_trans
abbrev MJ:=@Go.Lib.run_eql_slice_nil
abbrev uG:=@if_true
abbrev td:=@Int.natAbs_mul
abbrev GL:=@Int.mul_nonneg
abbrev K4:=@Array.getElem?_modify
abbrev Nw:=@List.length_replicate
abbrev Is:=@decide_eq_true
abbrev YJ:=@ByteArray.size_append
abbrev Mn:=@List.Pairwise.sublist
abbrev Nk:=@Nat.min_self
abbrev Ex:=@Go.wpIn_mono
abbrev Rs:=@Nat.add_mul_div_left
abbrev MU:=@List.getElem_zipWith
abbrev zbZ:=@Go.step_append_lies
abbrev I8:=@Nat.add_assoc
abbrev OE:=@Nat.lt_of_mul_lt_mul_right
abbrev Iw:=@Go.wpAny_of_held
abbrev Iu:=@Go.ByteArray.toList_eq
abbrev MA:=@List.mem_or_eq_of_mem_set
abbrev RV:=@Nat.lt_of_mul_lt_mul_left
abbrev Ox:=@Bool.eq_iff_iff
abbrev FP:=@Nat.gcd_comm
abbrev wW:=@Nat.le_of_lt
abbrev zcy:=@Int.mul_emod_right
abbrev wJ:=@List.map_map
abbrev Nf:=@Int.emod_lt_of_pos
abbrev LU:=@Go.YieldAt.mono
abbrev FZ:=@Go.wpIn_seq
abbrev zcG:=@Bool.true_eq_false
abbrev Wa:=@Option.toList_some
abbrev G9:=@Go.wpIn_seq_k
abbrev LA:=@Go.wpIn_cond_true
abbrev OR:=@List.getElem?_cons_zero
abbrev Kv:=@List.getElem?_replicate
abbrev Rp:=@Int.dvd_of_emod_eq_zero
abbrev pR:=@Go.wpList_append_own
abbrev I2:=@Nat.gcd_dvd_right
abbrev GC:=@List.flatten_cons
abbrev V5:=@List.getElem_drop
abbrev Nh:=@List.getElem?_set
abbrev NR:=@Nat.div_div_eq_div_mul
abbrev Fl:=@Nat.gcd_dvd_left
abbrev OX:=@Array.all_toList
abbrev LV:=@Go.Lib.extract_data
abbrev Mi:=@Go.Lib.cell_of_heap
abbrev zdq:=@Nat.le_of_not_lt
abbrev S6:=@Array.getElem?_mapIdx
abbrev S8:=@List.filterMap_append
abbrev DE:=@Nat.div_le_self
abbrev Kr:=@Int.natCast_one
abbrev ND:=@Int.le_of_lt
abbrev Ed:=@List.map_nil
abbrev V6:=@Nat.sub_zero
abbrev Lq:=@Go.Value.agg.injEq
abbrev PL:=@List.range_eq_range'
abbrev zd5:=@List.of_mem_zip
abbrev Ny:=@Go.wpIn_cond_false
abbrev Re:=@List.take_set_of_le
abbrev Rx:=@Nat.div_mul_le_self
abbrev Pm:=@Array.toList_append
abbrev SP:=@List.map_congr_left
abbrev zed:=@List.take_take
abbrev DI:=@and_true
abbrev Um:=@Int.mul_one
abbrev Kf:=@Nat.pow_mul
abbrev Oi:=@Nat.lt_or_gt_of_ne
abbrev IM:=@Int.ofNat_dvd_left
abbrev Mq:=@Nat.add_sub_cancel
abbrev OC:=@List.ne_nil_of_mem
abbrev zeM:=@Nat.lt_or_eq_of_le
abbrev Pv:=@List.find?_eq_none
abbrev Sj:=@Option.isSome_none
abbrev Mv:=@Nat.le_of_dvd
theorem om {p:Prop}(h:p:=by omega):p:=h
theorem sp {p:Prop}(h:p:=by simp):p:=h
theorem so {p:Prop}(h:p:=by simp;omega):p:=h
theorem dc {p:Prop}(h:p:=by decide):p:=h
theorem kr {p:Prop}(h:p:=by kernel_rfl):p:=h
theorem mo {p:Prop}(h:p:=by unfold maxLen;omega):p:=h
theorem ee {p:Prop}(h:p:=by repeat(first|with_reducible exact Ext.refl _|with_reducible assumption|with_reducible refine Ext.drew ?_|with_reducible refine Ext.alloc ?_ _)):p:=h
theorem ea {p:Prop}(h:p:=by with_reducible first|assumption|exact Ext.drew (by assumption)):p:=h
theorem sd {p:Prop}(h:p:=by first|(simp;done)|(simp;omega)):p:=h
theorem n3 {p:Prop}(h:p:=by intro u hu;simp at hu;rcases hu with rfl|rfl|rfl<;>(intro n e;cases e)):p:=h
theorem n1 {p:Prop}(h:p:=by intro u hu;simp at hu;subst hu;intro n e;cases e):p:=h
theorem n4 {p:Prop}(h:p:=by intro u hu;simp only[List.mem_cons,List.not_mem_nil,or_false]at hu;rcases hu with rfl|rfl|rfl<;>(intro n e;cases e)):p:=h
theorem r3 {p:Prop}(h:p:=by intro u hu;simp only[List.mem_cons,List.not_mem_nil,or_false]at hu;rcases hu with rfl|rfl|rfl<;>rfl):p:=h
theorem am {p:Prop}(h:p:=by assumption):p:=h
theorem g_ {p:Prop}(h:p:=by grind):p:=h
theorem s_ {p:Prop}(h:p:=by simp_all):p:=h
theorem fK{v:Ending}{w0:World}{Q:Ending→World→Prop}(k:Q v w0):∀e w',(e=v∧w'=w0)→Q e w':=λ_ _ h=>h.1▸h.2▸k
theorem eV{v:Ending}{B:World→Prop}{Q:Ending→World→Prop}(k:∀w',B w'→Q v w'):∀e w',(e=v∧B w')→Q e w':=λ_ w h=>h.1▸k w h.2
theorem ij{α:Type}{f:α→Ending}{B:α→World→Prop}{Q:Ending→World→Prop}(k:∀w' x,B x w'→Q (f x) w'):∀e w',(∃x,e=f x∧B x w')→Q e w':=λ_ w ⟨x,h,b⟩=>h▸k w x b
theorem eO{α:Type}{f:α→Ending}{B C:α→World→Prop}{Q:Ending→World→Prop}(k:∀w' x,B x w'→C x w'→Q (f x) w'):∀e w',(∃x,e=f x∧B x w'∧C x w')→Q e w':=λ_ w ⟨x,h,b,c⟩=>h▸k w x b c
theorem c_ {w:World}{g:Nat}{cs:Array Value}{t:TypeId}{fr:Nat×Nat}(j:Nat)(hg:w.heap[g]? =some (.cells cs t fr)):AT w ⟨g,j,none⟩=cs[j]?:=cell_of_row _ _ j _ _ _ hg
theorem eK{w w':World}{g:Nat}{o:Obj}(h:Go.RowKit.Below w.heap.size w w')(a:w.heap[g]? =some o):w'.heap[g]? =some o:=(h.block g (Array.getElem?_eq_some_iff.1 a).1).trans a
theorem d_{w:World}{g:Nat}{cs:Array Value}{t:TypeId}{fr:Nat×Nat}(h:w.heap[g]? =some (.cells cs t fr)):AT w ⟨g,0,none⟩=cs[0]?/\AT w ⟨g,1,none⟩=cs[1]?:=⟨c_ 0 h,c_ 1 h⟩
theorem e_{w:World}{g:Nat}{cs:Array Value}{t:TypeId}{fr:Nat×Nat}(h:w.heap[g]? =some (.cells cs t fr)):AT w ⟨g,0,none⟩=cs[0]?/\AT w ⟨g,1,none⟩=cs[1]?/\AT w ⟨g,2,none⟩=cs[2]?:=⟨c_ 0 h,c_ 1 h,c_ 2 h⟩
theorem eI{w:World}{g:Nat}{cs:Array Value}{t:TypeId}{fr:Nat×Nat}(h:w.heap[g]? =some (.cells cs t fr)):AT w ⟨g,0,none⟩=cs[0]?/\AT w ⟨g,1,none⟩=cs[1]?/\AT w ⟨g,2,none⟩=cs[2]?/\AT w ⟨g,3,none⟩=cs[3]?:=⟨c_ 0 h,c_ 1 h,c_ 2 h,c_ 3 h⟩
theorem eJ{w:World}{g:Nat}{cs:Array Value}{t:TypeId}{fr:Nat×Nat}(h:w.heap[g]? =some (.cells cs t fr)):AT w ⟨g,0,none⟩=cs[0]?/\AT w ⟨g,1,none⟩=cs[1]?/\AT w ⟨g,2,none⟩=cs[2]?/\AT w ⟨g,3,none⟩=cs[3]?/\AT w ⟨g,4,none⟩=cs[4]?:=⟨c_ 0 h,c_ 1 h,c_ 2 h,c_ 3 h,c_ 4 h⟩
theorem Xc{a b:Prop}(x:a)(y:b):a/\b:=⟨x,y⟩
abbrev V_:Value:=.slice none 0 0
abbrev i_ (z:Int):Value:=.int .i64 z
abbrev p_ (b i:Nat):Value:=.pointer (some ⟨b,i,none⟩)

abbrev b_ (w:World):World->Prop:=Go.RowKit.Below w.heap.size w
abbrev C_:=Calls Tryz.prog
abbrev y_ (w:World)(i:Nat):Addr:=⟨IS (IT w),i,none⟩
abbrev x_ (w:World)(i:Nat):Addr:=⟨IS (IT w)+1,i,none⟩
abbrev w_ (w:World)(i:Nat):Addr:=⟨IS (IT w)+1+1,i,none⟩
abbrev v_ (w:World)(i:Nat):Addr:=⟨IS (IT w)+1+1+1,i,none⟩
abbrev L_:=List Int
abbrev U_:=List UInt8
abbrev N_:=List Nat
abbrev A_:=Option Addr
abbrev S_:=Option Addr×Nat×Nat
abbrev R_:=List (List Int×Int)
abbrev W_:=Array Value
end Go.Proofs.YtikmppijocpamaaGreatDoor
