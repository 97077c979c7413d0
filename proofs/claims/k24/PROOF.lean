import PyProof.Rows.All
import Wide.All
import OpenK.AllK
import Wide.FinOn
import Lean
import PyProof.EqAt
import PyProof.EqKinds
import PyProof.TupleCall
import PySem.Challenge.RW_cablehouse_k24_whole_one_fault_is_read
set_option Elab.async false
set_option linter.all false
set_option maxRecDepth 100000
namespace Hd
open PySem PySem.W PyProof.Rows
theorem KR {b1 b2 b3 a:Prop} (main:a) (hl:b1) (hw:b2) (hc:b3):a:=main
structure K0 (r:Prop) where
  l1:Prop
  l2:Prop
  l3:Prop
  l4:Prop
  l5:Prop
  l6:Prop
  l7:Prop
  l8:Prop
  l9:Prop
  h:Prop
  c:Prop
  go:l1->l2->l3->l4->l5->l6->l7->l8->l9->h->c->r
theorem two {σ α β γ:Type}{x:World->OsState->Option σ}{as:List α}{f:σ->α->β}{h:σ->γ}{g:World->List β}{e:World->γ} (n:Nat)
    (h1:∀ w os,(x w os).map (fun s=>(as.take n).map (f s))=some ((g w).take n)) (h2:∀ w os,(x w os).map (fun s=>((as.drop n).map (f s),h s))=some ((g w).drop n,e w)):∀ w os,(x w os).map (fun s=>(as.map (f s),h s))=some (g w,e w):=fun w os=>by
  obtain⟨s,e0,e1⟩:=Option.map_eq_some_iff.mp (h1 w os)
  have e2:=h2 w os
  rw[e0] at e2 ⊢
  have e2:=Option.some.inj e2
  simp only[Prod.mk.injEq] at e2
  refine congrArg some (Prod.ext ?_ e2.2)
  show as.map (f s)=g w
  rw[←List.take_append_drop n as,List.map_append,e1,e2.1,List.take_append_drop]
def tree:List Obj->Nat->BT->BT
  | [],_,t=>t
  | o::l,n,t=>tree l (n+1) (t.ins n o)
def goT (st:SharedT->Thread->Option (SharedT×Thread)) (ok:Thread->Bool):Nat->SharedT->Thread->Option SharedT
  | 0,_,_=>none
  | n+1,s,t=>match through t with
    | true=>some s
    | false=>match ok t with
      | false=>none
      | true=>match st s t with
        | some (s',t')=>goT st ok n s' t'
        | none=>none
theorem Et {tb:String->Option Builtin}{p:Program}{w:World}{n₀:Nat}{ann:Option Value}:∀ {n:Nat}{s s':SharedT}{t:Thread},goT (stepT (denote tb) p w) (stepOk n₀ ann) n s t=some s'->topRun tb p w n₀ ann n s.abs t=some s'.abs
  | 0,_,_,_,h=>nomatch h
  | n+1,s,s',t,h=>by
    unfold goT at h
    unfold topRun
    cases ht:through t with
    | true=>rw[ht] at h;cases h;rfl
    | false =>
      rw[ht] at h
      cases hk:stepOk n₀ ann t with
      | false=>rw[hk] at h;cases h
      | true =>
        rw[hk] at h
        cases hs:stepT (denote tb) p w s t with
        | none=>rw[hs] at h;cases h
        | some r=>obtain⟨s₂,t₂⟩:=r;rw[hs] at h;rw[stepT_spec hs];exact Et h
noncomputable def boot (w:World) (os:OsState):SharedT:=⟨tree (boot_heap w.params).objs.toList 0 .nil,(boot_heap w.params).objs.size,(boot_heap w.params).life,#[],boot_drawn,boot_toks,os⟩
noncomputable def ran (p:Program) (N:Nat) (w:World) (os:OsState):Option SharedT:=goT (stepT (denote treeTable) p w) (stepOk 11 (some (.ref 6))) N (boot w os) (topStub p)
theorem BB (P:Params):absHeap (tree (boot_heap P).objs.toList 0 .nil) (boot_heap P).objs.size (boot_heap P).life=boot_heap P:=by kernel_rfl
theorem BA (P:Params):((boot_heap P).isNs mainGlobals,(boot_heap P).objs.size,(boot_heap P).nsMap mainGlobals "__annotations__")=(true,11,some (.ref 6)):=by kernel_rfl
theorem six {σ α β γ δ ε ζ η θ ι:Type}{x:World->OsState->Option σ}{f1:σ->α}{f2:σ->β}{f3:σ->γ}{f4:σ->δ}{f5:σ->ε}{f6:σ->ζ}{f7:σ->η}{f8:σ->θ}{f9:σ->ι}{g1:α}{g2:β}{g3:γ}{g4:δ}{g5:ε}{g6:ζ}{g7:η}{g8:θ}{g9:ι}
    (h1:∀ w os,(x w os).map (fun s=>f1 s)=some g1) (h2:∀ w os,(x w os).map (fun s=>(f2 s,f3 s))=some (g2,g3)) (h3:∀ w os,(x w os).map (fun s=>(f4 s,f5 s))=some (g4,g5)) (h4:∀ w os,(x w os).map (fun s=>f6 s)=some g6)
    (h5:∀ w os,(x w os).map (fun s=>(f7 s,f8 s))=some (g7,g8)) (h6:∀ w os,(x w os).map (fun s=>f9 s)=some g9):∀ w os,(x w os).map (fun s=>(f1 s,f2 s,f3 s,f4 s,f5 s,f6 s,f7 s,f8 s,f9 s))=some (g1,g2,g3,g4,g5,g6,g7,g8,g9):=fun w os=>by
  obtain⟨s,e,e1⟩:=Option.map_eq_some_iff.mp (h1 w os)
  have e2:=h2 w os
  have e3:=h3 w os
  have e4:=h4 w os
  have e5:=h5 w os
  have e6:=h6 w os
  rw[e] at e2 e3 e4 e5 e6 ⊢
  have e2:=Option.some.inj e2
  have e3:=Option.some.inj e3
  have e4:=Option.some.inj e4
  have e5:=Option.some.inj e5
  have e6:=Option.some.inj e6
  simp only[Prod.mk.injEq] at e2 e3 e5
  exact congrArg some (Prod.ext e1 (Prod.ext e2.1 (Prod.ext e2.2 (Prod.ext e3.1 (Prod.ext e3.2 (Prod.ext e4 (Prod.ext e5.1 (Prod.ext e5.2 e6))))))))
theorem left {p q:Program}{loose:List Str}{Xt:Shared->Bool}{α:Type}{Yf:Shared->α}{Ya:World->α}{N:Nat}{g0:Bool}
    (e:opening p=plainProg p.main.scope.names) (hN:Nat.ble 600 N=true) (f:∀ s,fenceModules? p s=some s)
    (r1:∀ w os,(ran p N w os).map (fun s=>staticsOk (importedModules p.main.body) (boot_heap w.params) s.abs.heap&&namesBound p s.abs.heap&&gensDone s.abs&&laidKept (boot_heap w.params) s.abs.heap)=some true)
    (r2:∀ w os,(ran p N w os).map (fun s=>openSeen q loose (importedModules p.main.body) Xt g0 s.abs)=some (openGood q loose))
    (r3:∀ w os,(ran p N w os).map (fun s=>Yf s.abs)=some (Ya w)):LeftO p q loose Xt Yf Ya N g0:=fun w=>by
  obtain⟨⟨h,gs,d,k,os⟩,e,e'⟩:=Option.map_eq_some_iff.mp (boot_open e hN f w)
  obtain⟨rfl,rfl,rfl,rfl⟩:h=boot_heap w.params/\gs=#[]/\d=boot_drawn/\k=boot_toks:=by simpa using e'
  obtain⟨z1,z2,z3⟩:_/\_/\_:=by simpa only[Prod.mk.injEq] using BA w.params
  obtain⟨s',r,l1⟩:=Option.map_eq_some_iff.mp (r1 w os)
  have l2:=r2 w os
  have l3:=r3 w os
  rw[r] at l2 l3
  have l2:=Option.some.inj l2
  have l3:=Option.some.inj l3
  unfold ran at r
  have r:=Et r
  have hB:(boot w os).abs=⟨boot_heap w.params,#[],boot_drawn,boot_toks,os⟩:=by
    unfold boot SharedT.abs
    rw[BB]
  rw[hB] at r
  have t:topFrom treeTable p w N ⟨boot_heap w.params,#[],boot_drawn,boot_toks,os⟩=some s'.abs:=by
    unfold topFrom
    dsimp only
    rw[z1,z2,z3,r]
    show (match staticsOk (importedModules p.main.body) (boot_heap w.params) s'.abs.heap&&namesBound p s'.abs.heap&&gensDone s'.abs&&laidKept (boot_heap w.params) s'.abs.heap with | true=>_ | false=>_)=_
    rw[l1]
  unfold openEnds
  rw[e]
  show (topFrom treeTable p w N _).map _=_
  rw[t]
  exact congrArg some (Prod.ext l2 l3)
theorem kX:@ran=fun p N w os=>goT (PySem.W.Fast.tw10156331382660048174 (denote PySem.W.Fast.tw14364793385576792824) p w) (PySem.W.Fast.tw6613529449190102663 11 (some (.ref 6))) N (boot w os) (topStub p):=by
  unfold ran
  rw[PySem.W.Fast.te10156331382660048174,PySem.W.Fast.te6613529449190102663,PySem.W.Fast.te14364793385576792824]
end Hd

section
open PySem PySem.W PyProof.Rows
set_option maxHeartbeats 0
noncomputable def Hk.top:Hd.K0 PySem.Challenge.rw_cablehouse_k24_whole_one_fault_is_read.Holds:=by
  apply Hd.K0.mk
  case go =>
    intro x1 x2 x3 x4 x5 x6 x7 x8 x9 y z
    w_on;refine PySem.W.holds_law (by kernel_rfl) fun said=>?_
    apply Hd.KR
    case main=>k_head
    case hl=>exact Hd.left (by kernel_rfl) (by decide) (fun _=>by kernel_rfl) x1 (Hd.six x2 x4 x5 x6 x7 x8) (Hd.two 180 x3 x9)
    case hw=>exact y
    case hc=>exact z
theorem Hk.L6:Hk.top.l1:=by
  delta Hk.top
  dsimp only
  intro w os
  rw[Hd.kX]
  kernel_rfl
theorem Hk.L7:Hk.top.l2:=by
  delta Hk.top
  dsimp only
  intro w os
  rw[Hd.kX]
  kernel_rfl
theorem Hk.L8:Hk.top.l3:=by
  delta Hk.top
  dsimp only
  intro w os
  rw[Hd.kX]
  kernel_rfl
theorem Hk.L9:Hk.top.l4:=by
  delta Hk.top
  dsimp only
  intro w os
  rw[Hd.kX]
  kernel_rfl
theorem Hk.LA:Hk.top.l5:=by
  delta Hk.top
  dsimp only
  intro w os
  rw[Hd.kX]
  kernel_rfl
theorem Hk.LB:Hk.top.l6:=by
  delta Hk.top
  dsimp only
  intro w os
  rw[Hd.kX]
  kernel_rfl
theorem Hk.LC:Hk.top.l7:=by
  delta Hk.top
  dsimp only
  intro w os
  rw[Hd.kX]
  kernel_rfl
theorem Hk.LD:Hk.top.l8:=by
  delta Hk.top
  dsimp only
  intro w os
  rw[Hd.kX]
  kernel_rfl
theorem Hk.LF:Hk.top.l9:=by
  delta Hk.top
  dsimp only
  intro w os
  rw[Hd.kX]
  kernel_rfl
theorem Hk.LH:Hk.top.h:=by
  delta Hk.top
  dsimp only
  w_witness2
end
theorem oy:type_of%@PySem.Around.under_plainId:=@PySem.Around.under_plainId
theorem iM:type_of%@Array.getElem?_eq_getElem:=@Array.getElem?_eq_getElem
theorem mY:type_of%@Array.getElem?_eq_none:=@Array.getElem?_eq_none
theorem hZ:type_of%@Array.getElem?_toList:=@Array.getElem?_toList
theorem cP:type_of%@Array.length_toList:=@Array.length_toList
theorem bI:type_of%@Bool.and_eq_true:=@Bool.and_eq_true
theorem fW:type_of%@Bool.false_and:=@Bool.false_and
theorem ic:type_of%@Bool.false_eq_true:=@Bool.false_eq_true
theorem bE:type_of%@Bool.false_ne_true:=@Bool.false_ne_true
theorem dA:type_of%@Bool.true_and:=@Bool.true_and
theorem dN:type_of%@PySem.F.called_set:=@PySem.F.called_set
theorem qf:type_of%@PySem.F.slot_dict_keyiterator_next:=@PySem.F.slot_dict_keyiterator_next
theorem az:type_of%@PySem.Heap.get?_push_of_some:=@PySem.Heap.get?_push_of_some
theorem aZ:type_of%@PySem.Heap.get?_push_size:=@PySem.Heap.get?_push_size
theorem dw:type_of%@PySem.Heap.get?_update_other:=@PySem.Heap.get?_update_other
theorem eZ:type_of%@PySem.Heap.get?_update_self:=@PySem.Heap.get?_update_self
theorem aB:type_of%@PySem.Heap.lt_size:=@PySem.Heap.lt_size
theorem iw:type_of%@PySem.Heap.size_push:=@PySem.Heap.size_push
theorem jk:type_of%@Int.dvd_of_emod_eq_zero:=@Int.dvd_of_emod_eq_zero
theorem uh:type_of%@Int.emod_eq_emod_iff_emod_sub_eq_zero:=@Int.emod_eq_emod_iff_emod_sub_eq_zero
theorem mC:type_of%@Int.emod_eq_of_lt:=@Int.emod_eq_of_lt
theorem cH:type_of%@Int.emod_lt_of_pos:=@Int.emod_lt_of_pos
theorem c4:type_of%@Int.emod_nonneg:=@Int.emod_nonneg
theorem gE:type_of%@Int.eq_ofNat_of_zero_le:=@Int.eq_ofNat_of_zero_le
theorem iy:type_of%@Int.le_of_lt:=@Int.le_of_lt
theorem pK:type_of%@Int.mul_ediv_add_emod:=@Int.mul_ediv_add_emod
theorem pL:type_of%@Int.mul_le_mul_of_nonneg_left:=@Int.mul_le_mul_of_nonneg_left
theorem da:type_of%@Int.toNat_natCast:=@Int.toNat_natCast
theorem pM:type_of%@Int.toNat_of_nonneg:=@Int.toNat_of_nonneg
theorem km:type_of%@Int.zero_add:=@Int.zero_add
theorem jm:type_of%@List.Pairwise.filter:=@List.Pairwise.filter
theorem mD:type_of%@List.Pairwise.imp:=@List.Pairwise.imp
theorem kn:type_of%@List.Pairwise.imp_of_mem:=@List.Pairwise.imp_of_mem
theorem iz:type_of%@List.all_cons:=@List.all_cons
theorem cw:type_of%@List.all_eq_true:=@List.all_eq_true
theorem mE:type_of%@List.any_cons:=@List.any_cons
theorem df:type_of%@List.append_assoc:=@List.append_assoc
theorem fb:type_of%@List.append_nil:=@List.append_nil
theorem pN:type_of%@List.dropLast_concat:=@List.dropLast_concat
theorem pP:type_of%@List.dropLast_concat_getLast:=@List.dropLast_concat_getLast
theorem gF:type_of%@List.dropLast_subset:=@List.dropLast_subset
theorem mF:type_of%@List.drop_of_length_le:=@List.drop_of_length_le
theorem gG:type_of%@List.ext_getElem?:=@List.ext_getElem?
theorem fL:type_of%@List.filter_append:=@List.filter_append
theorem mG:type_of%@List.filter_cons_of_neg:=@List.filter_cons_of_neg
theorem mH:type_of%@List.filter_cons_of_pos:=@List.filter_cons_of_pos
theorem mI:type_of%@List.filter_map:=@List.filter_map
theorem i3:type_of%@List.find?_cons:=@List.find?_cons
theorem mJ:type_of%@List.flatMap_cons:=@List.flatMap_cons
theorem mK:type_of%@List.flatten_cons:=@List.flatten_cons
theorem i4:type_of%@List.getElem?_append_left:=@List.getElem?_append_left
theorem gH:type_of%@List.getElem?_append_right:=@List.getElem?_append_right
theorem i5:type_of%@List.getElem?_drop:=@List.getElem?_drop
theorem gJ:type_of%@List.getElem?_eq_none:=@List.getElem?_eq_none
theorem bf:type_of%@List.getElem?_eq_some_iff:=@List.getElem?_eq_some_iff
theorem aJ:type_of%@List.getElem?_map:=@List.getElem?_map
theorem pQ:type_of%@List.getElem?_of_mem:=@List.getElem?_of_mem
theorem mL:type_of%@List.getElem?_set:=@List.getElem?_set
theorem ko:type_of%@List.getElem?_set_ne:=@List.getElem?_set_ne
theorem mM:type_of%@List.getElem?_set_self:=@List.getElem?_set_self
theorem mO:type_of%@List.getElem?_take:=@List.getElem?_take
theorem i6:type_of%@List.getElem_mem:=@List.getElem_mem
theorem jo:type_of%@List.getLastD_eq_getLast?:=@List.getLastD_eq_getLast?
theorem mP:type_of%@List.idxOf_lt_length_of_mem:=@List.idxOf_lt_length_of_mem
theorem aO:type_of%@List.length_cons:=@List.length_cons
theorem bK:type_of%@List.length_drop:=@List.length_drop
theorem i7:type_of%@List.length_dropLast:=@List.length_dropLast
theorem mQ:type_of%@List.length_eq_zero_iff:=@List.length_eq_zero_iff
theorem ku:type_of%@List.length_filter_le:=@List.length_filter_le
theorem gK:type_of%@List.length_nil:=@List.length_nil
theorem eK:type_of%@List.length_set:=@List.length_set
theorem c8:type_of%@List.length_singleton:=@List.length_singleton
theorem bw:type_of%@List.length_take:=@List.length_take
theorem fe:type_of%@List.lookup_cons:=@List.lookup_cons
theorem i8:type_of%@List.map_congr_left:=@List.map_congr_left
theorem aR:type_of%@List.map_cons:=@List.map_cons
theorem fM:type_of%@List.map_drop:=@List.map_drop
theorem pR:type_of%@List.map_inj_right:=@List.map_inj_right
theorem i9:type_of%@List.map_nil:=@List.map_nil
theorem kx:type_of%@List.map_singleton:=@List.map_singleton
theorem iA:type_of%@List.map_take:=@List.map_take
theorem bz:type_of%@List.mem_append:=@List.mem_append
theorem ky:type_of%@List.mem_append_left:=@List.mem_append_left
theorem dR:type_of%@List.mem_append_right:=@List.mem_append_right
theorem aI:type_of%@List.mem_cons:=@List.mem_cons
theorem bW:type_of%@List.mem_filter:=@List.mem_filter
theorem mR:type_of%@List.mem_filterMap:=@List.mem_filterMap
theorem aE:type_of%@List.mem_map:=@List.mem_map
theorem iB:type_of%@List.mem_map_of_mem:=@List.mem_map_of_mem
theorem bG:type_of%@List.mem_of_getElem?:=@List.mem_of_getElem?
theorem bN:type_of%@List.mem_range:=@List.mem_range
theorem aV:type_of%@List.mem_singleton:=@List.mem_singleton
theorem dS:type_of%@List.nodup_cons:=@List.nodup_cons
theorem dy:type_of%@List.not_mem_nil:=@List.not_mem_nil
theorem mS:type_of%@List.of_mem_zip:=@List.of_mem_zip
theorem pT:type_of%@List.pairwise_lt_range:=@List.pairwise_lt_range
theorem gM:type_of%@List.pairwise_map:=@List.pairwise_map
theorem kz:type_of%@List.range_succ:=@List.range_succ
theorem mT:type_of%@List.replicate_succ:=@List.replicate_succ
theorem br:type_of%@List.size_toArray:=@List.size_toArray
theorem jq:type_of%@List.sum_cons:=@List.sum_cons
theorem iC:type_of%@List.take_add_one:=@List.take_add_one
theorem mU:type_of%@List.take_length:=@List.take_length
theorem fh:type_of%@List.take_of_length_le:=@List.take_of_length_le
theorem k6:type_of%@Nat.le_of_eq:=@Nat.le_of_eq
theorem aP:type_of%@Nat.le_of_lt:=@Nat.le_of_lt
theorem ak:type_of%@Nat.le_refl:=@Nat.le_refl
theorem fN:type_of%@Nat.le_succ:=@Nat.le_succ
theorem aK:type_of%@Nat.le_trans:=@Nat.le_trans
theorem eL:type_of%@Nat.lt_irrefl:=@Nat.lt_irrefl
theorem cI:type_of%@Nat.lt_of_le_of_lt:=@Nat.lt_of_le_of_lt
theorem bB:type_of%@Nat.lt_of_lt_of_le:=@Nat.lt_of_lt_of_le
theorem pU:type_of%@Nat.lt_succ_iff_lt_or_eq:=@Nat.lt_succ_iff_lt_or_eq
theorem fj:type_of%@Nat.lt_succ_of_lt:=@Nat.lt_succ_of_lt
theorem k7:type_of%@Nat.lt_succ_self:=@Nat.lt_succ_self
theorem gN:type_of%@Nat.min_eq_left:=@Nat.min_eq_left
theorem mV:type_of%@Nat.min_le_right:=@Nat.min_le_right
theorem gO:type_of%@Nat.ne_of_gt:=@Nat.ne_of_gt
theorem aS:type_of%@Nat.ne_of_lt:=@Nat.ne_of_lt
theorem pV:type_of%@Nat.pow_le_pow_left:=@Nat.pow_le_pow_left
theorem jr:type_of%@Nat.pow_le_pow_right:=@Nat.pow_le_pow_right
theorem aT:type_of%@Nat.zero_le:=@Nat.zero_le
theorem bt:type_of%@Ne.symm:=@Ne.symm
theorem dB:type_of%@Option.map_eq_some_iff:=@Option.map_eq_some_iff
theorem cf:type_of%@PySem.PassesOwn.leaving:=@PySem.PassesOwn.leaving
theorem pW:type_of%@PyProof.Rows.F.entry_set_update_loop:=@PyProof.Rows.F.entry_set_update_loop
theorem k8:type_of%@PyProof.Rows.F.plain_set_update_loop:=@PyProof.Rows.F.plain_set_update_loop
theorem mW:type_of%@PyProof.Rows.callWith_type1:=@PyProof.Rows.callWith_type1
theorem cT:type_of%@PySem.F.excBase_ValueError:=@PySem.F.excBase_ValueError
theorem eM:type_of%@PySem.F.plainAttrs_list:=@PySem.F.plainAttrs_list
theorem fO:type_of%@PySem.F.plainAttrs_str:=@PySem.F.plainAttrs_str
theorem fP:type_of%@PySem.F.slot_list_append:=@PySem.F.slot_list_append
theorem pX:type_of%@PySem.F.slot_str_join:=@PySem.F.slot_str_join
theorem pY:type_of%@PySem.F.slot_str_split:=@PySem.F.slot_str_split
theorem fQ:type_of%@PySem.F.type_list_append:=@PySem.F.type_list_append
theorem pZ:type_of%@PySem.F.type_str_join:=@PySem.F.type_str_join
theorem qa:type_of%@PySem.F.type_str_split:=@PySem.F.type_str_split
theorem qd:type_of%@PySem.W.callWith_K:=@PySem.W.callWith_K
theorem fk:type_of%@PySem.W.kia_one:=@PySem.W.kia_one
theorem cU:type_of%@PySem.W.mg_none_of:=@PySem.W.mg_none_of
theorem bX:type_of%@PySem.W.mg_of:=@PySem.W.mg_of
theorem mX:type_of%@PySem.mem_of_lookup:=@PySem.mem_of_lookup
theorem jt:type_of%@beq_eq_false_iff_ne:=@beq_eq_false_iff_ne
theorem k9:type_of%@beq_false_of_ne:=@beq_false_of_ne
theorem fq:type_of%@beq_iff_eq:=@beq_iff_eq
theorem gP:type_of%@PySem.call_meets:=@PySem.call_meets
theorem ft:type_of%@PySem.codeAny_builtin:=@PySem.codeAny_builtin
theorem fR:type_of%@PySem.codeAny_mono:=@PySem.codeAny_mono
theorem bu:type_of%@congrArg:=@congrArg
theorem aq:type_of%@decide_eq_true:=@decide_eq_true
theorem bC:type_of%@decide_eq_true_eq:=@decide_eq_true_eq
theorem dU:type_of%@if_false:=@if_false
theorem gQ:type_of%@if_true:=@if_true
theorem iD:type_of%@of_decide_eq_true:=@of_decide_eq_true
theorem dD:type_of%@or_false:=@or_false
theorem kA:type_of%@PySem.plainId_quiet:=@PySem.plainId_quiet
theorem ju:type_of%@PySem.sizeLine_eq:=@PySem.sizeLine_eq
theorem mZ:type_of%@PySem.tupleKind_room_in1:=@PySem.tupleKind_room_in1
theorem kB:type_of%@PySem.wpAny_Call_Name_kw:=@PySem.wpAny_Call_Name_kw
theorem kC:type_of%@PySem.wpAny_askSetting:=@PySem.wpAny_askSetting
theorem jv:type_of%@PySem.wpAny_attempt:=@PySem.wpAny_attempt
theorem aa:type_of%@PySem.wpAny_bind:=@PySem.wpAny_bind
theorem iE:type_of%@PySem.wpAny_call:=@PySem.wpAny_call
theorem kD:type_of%@PySem.wpAny_callSpecial?_slot:=@PySem.wpAny_callSpecial?_slot
theorem fv:type_of%@PySem.wpAny_call_entry:=@PySem.wpAny_call_entry
theorem iF:type_of%@PySem.wpAny_fieldsOf:=@PySem.wpAny_fieldsOf
theorem dE:type_of%@PySem.wpAny_holding:=@PySem.wpAny_holding
theorem nc:type_of%@PySem.wpAny_loadPart_at:=@PySem.wpAny_loadPart_at
theorem bO:type_of%@PySem.wpAny_mono:=@PySem.wpAny_mono
theorem fS:type_of%@PySem.wpAny_newObj_type:=@PySem.wpAny_newObj_type
theorem jw:type_of%@PySem.wpAny_passesOwn:=@PySem.wpAny_passesOwn
theorem ah:type_of%@PySem.wpAny_pure:=@PySem.wpAny_pure
theorem ng:type_of%@PySem.wpAny_setEntries_of:=@PySem.wpAny_setEntries_of
theorem kF:type_of%@PySem.wpAny_setState_of:=@PySem.wpAny_setState_of
theorem kH:type_of%@PySem.wpAny_standAt:=@PySem.wpAny_standAt
theorem fT:type_of%@PySem.wpAny_truthy_bool:=@PySem.wpAny_truthy_bool
theorem qh:type_of%@PySem.wpAny_typeNameOfWhole_keyiter:=@PySem.wpAny_typeNameOfWhole_keyiter
theorem qi:type_of%@PySem.wpAny_typeNameOf_keyiter:=@PySem.wpAny_typeNameOf_keyiter
theorem b7:type_of%@PyProof.Rows.wpS_bind:=@PyProof.Rows.wpS_bind
theorem cg:type_of%@PyProof.Rows.wpS_pure:=@PyProof.Rows.wpS_pure
-- CHANGE: your row's module here,as the last of these rows
set_option Elab.async false
set_option linter.all false
set_option maxRecDepth 100000
namespace L2
open PySem PySem.Spec PyProof.Rows
variable {A:Around}{C:Addr}{E:Value->Shared->Prop}{K:PySem.W.Frag}{M:Model}{P:Program}{Q:Value->Shared->Prop}{a:Addr}{b:Addr}{base:Heap}{body:List Stmt}{c:Expr}{ch:List Addr}{d':Drawn}{e:Expr}{es:List Expr}{f:Value->Value->Sem Value}{fp:List Addr}{g':Array GenState}{h:Heap}{i:Nat}{it:Addr}{kw:List (Str×Value)}{mA:Str->Option Value}{mg:Str->Option Value}{o:Obj}{op:CmpOp}{outer:List Env}{pins:List (Addr×Obj)}{pl:Sem Bool}{pos:Pos}{s:Shared}{scope:Scope}{t':Nat}{tg:Expr}{u:Value}{us:List Value}{w:World}{x:Str}
section

abbrev Key:=Sum Int Str
def jb:Key->Value->Bool
 | .inl k,v=>Value.isInt k v
 | .inr x,v=>Value.isStrOf x v
def LV (w:World):Key->Int
 | .inl k=>hashInt k
 | .inr x=>hashStr w x
theorem c9:∀ {k:Key}{v:Value},jb k v=true->(∃ i t,k=Sum.inl i/\v=Value.int i t)∨(∃ x t,k=Sum.inr x/\v=Value.str x t)
 | .inl i,v,h=>by
  obtain⟨t,e⟩:=Value.isInt_shape (k:=i) (v:=v) h
  exact .inl ⟨i,t,rfl,e⟩
 | .inr x,v,h=>by
  obtain⟨t,e⟩:=Value.isStrOf_shape (x:=x) (v:=v) h
  exact .inr ⟨x,t,rfl,e⟩
theorem C9 (i:Int) (t:Tok):jb (.inl i) (.int i t)=true:=by simp [jb,Value.isInt]
theorem nj (x:Str) (t:Tok):jb (.inr x) (.str x t)=true:=by simp [jb,Value.isStrOf]
theorem JA (a b:Int):decide ((Sum.inl a:Key)=Sum.inl b)=(a==b):=by
 by_cases e:a=b
 ·subst e;simp
 ·have h:¬ (Sum.inl a:Key)=Sum.inl b:=fun q=>e (Sum.inl.inj q)
  rw[decide_eq_false h]
  exact (jt.mpr e).symm
theorem JD (a b:Str):decide ((Sum.inr a:Key)=Sum.inr b)=decide (a=b):=by
 by_cases e:a=b
 ·subst e;simp
 ·have h:¬ (Sum.inr a:Key)=Sum.inr b:=fun q=>e (Sum.inr.inj q)
  rw[decide_eq_false h,decide_eq_false e]
theorem JB (a:Int) (b:Str):decide ((Sum.inl a:Key)=Sum.inr b)=false:=decide_eq_false (fun q=>nomatch q)
theorem JC (a:Str) (b:Int):decide ((Sum.inr a:Key)=Sum.inl b)=false:=decide_eq_false (fun q=>nomatch q)

def aX (prog:Program) (w:World):PySem.KeyKind prog w Key where
 is:=jb
 hash:=LV w
 inj:=fun v a b ha hb=>by
  rcases c9 ha with ⟨i,t,rfl,rfl⟩ | ⟨x,t,rfl,rfl⟩
  ·rcases c9 hb with ⟨j,u,rfl,e⟩ | ⟨y,u,rfl,e⟩
   ·injection e with e1 _;rw[e1]
   ·exact nomatch e
  ·rcases c9 hb with ⟨j,u,rfl,e⟩ | ⟨y,u,rfl,e⟩
   ·exact nomatch e
   ·injection e with e1 _;rw[e1]
 byValue:=fun k v h=>by
  rcases c9 h with ⟨i,t,rfl,rfl⟩ | ⟨x,t,rfl,rfl⟩<;>rfl
 pyHash:=fun hv h=>by
  rcases c9 hv with ⟨i,t,rfl,rfl⟩ | ⟨x,t,rfl,rfl⟩
  ·exact wpAny_pyHash_int h
  ·exact wpAny_pyHash_str h
 eqBool:=fun hu hv h=>by
  rcases c9 hu with ⟨i,t,rfl,rfl⟩ | ⟨x,t,rfl,rfl⟩
  ·rcases c9 hv with ⟨j,u,rfl,rfl⟩ | ⟨y,u,rfl,rfl⟩
   ·rw[JA] at h;exact wpAny_eqBool_int h
   ·rw[JB] at h;exact SeqAt.EqAt.int_str i t y u _ _ _ _ h
  ·rcases c9 hv with ⟨j,u,rfl,rfl⟩ | ⟨y,u,rfl,rfl⟩
   ·rw[JC] at h;exact SeqAt.EqAt.str_int x t j u _ _ _ _ h
   ·rw[JD] at h;exact wpAny_eqBool_str h
 «strs»:=fun k x t v h=>by
  rcases c9 h with ⟨i,u,rfl,e⟩ | ⟨y,u,rfl,e⟩
  ·exact nomatch e
  ·injection e with e1 _
   subst e1
   cases v<;>rfl

theorem xo (prog:Program) (w:World) (i:Int) (t:Tok):(aX prog w).is (.inl i) (.int i t)=true:=C9 i t
theorem xp (prog:Program) (w:World) (x:Str) (t:Tok):(aX prog w).is (.inr x) (.str x t)=true:=nj x t
end
section

inductive V where
 | non | bl (b:Bool) | int (i:Int) | str (x:Str) | byt (b:Array UInt8) | flt (b:UInt64) | ref (a:Addr) | ty (n:String)
 deriving DecidableEq

def RelV:V->Value->Prop
 | .non,u=>u=Value.none
 | .bl b,u=>u=Value.bool b
 | .int i,u=>∃ t,u=Value.int i t
 | .str x,u=>∃ t,u=Value.str x t
 | .byt b,u=>∃ t,u=Value.bytes b t
 | .flt b,u=>∃ t,u=Value.float b t
 | .ref a,u=>u=Value.ref a
 | .ty n,u=>u=Value.type n

abbrev Vals:List V->List Value->Prop:=Paired RelV
theorem Vals.length {xs:List V}{us:List Value} (r:Vals xs us):xs.length=us.length:=Paired.length r
theorem Vals.get:∀ {xs:List V}{us:List Value}{i:Nat}{x:V},Vals xs us->xs[i]?=some x->∃ u,us[i]?=some u/\RelV x u
 | _,_,_,_,.nil,e=>by simp at e
 | _,_,0,_,.cons r _,e=>by simp at e;subst e;exact⟨_,rfl,r⟩
 | _,_,i+1,x,.cons _ t,e=>by
  obtain⟨u,h1,h2⟩:=Vals.get (i:=i) (x:=x) t (by simpa using e)
  exact⟨u,by simpa using h1,h2⟩
theorem Vals.set {x:V}{u:Value} (r:RelV x u):∀ {xs:List V}{us:List Value} (i:Nat),Vals xs us->Vals (xs.set i x) (us.set i u)
 | _,_,_,.nil=>.nil
 | _,_,0,.cons _ t=>.cons r t
 | _,_,i+1,.cons q t=>.cons q (Vals.set r i t)
theorem Vals.append:∀ {xs ys:List V}{us ws:List Value},Vals xs us->Vals ys ws->Vals (xs++ys) (us++ws)
 | _,_,_,_,.nil,s=>s
 | _,_,_,_,.cons r t,s=>.cons r (Vals.append t s)
theorem Vals.take:∀ {xs:List V}{us:List Value} (n:Nat),Vals xs us->Vals (xs.take n) (us.take n)
 | _,_,0,_=>.nil
 | _,_,_+1,.nil=>.nil
 | _,_,n+1,.cons r t=>.cons r (Vals.take n t)
theorem Vals.drop:∀ {xs:List V}{us:List Value} (n:Nat),Vals xs us->Vals (xs.drop n) (us.drop n)
 | _,_,0,r=>r
 | _,_,_+1,.nil=>.nil
 | _,_,n+1,.cons _ t=>Vals.drop n t
def lJ:Option V->Option Value->Prop
 | some v,some u=>RelV v u
 | none,none=>True
 | _,_=>False
def KV {κ:Type}:List (κ×V)->List (κ×Value)->Prop:=Paired fun (p:κ×V) (q:κ×Value)=>p.1=q.1/\RelV p.2 q.2

def kV:Key->V
 | .inl i=>.int i
 | .inr x=>.str x

inductive HO where
  | lst (xs:List V)
  | tup (xs:List V)
  | dK (kvs:List (Key×V)) | dT (kvs:List (List Key×V))
  | set (S:Int->Bool) (n:Nat)
  | ins (C dx:Addr) (fs:List (Str×V))
  | own (x:Addr)
  | xd (fs:List (Str×V))
  | met (f x:Addr)
  | rng (lo hi:Int)
  | frz (o:Obj) (u:HO)
  | tbl (ps:Array Value)
  | ext (φ:Heap->Prop)

abbrev Hp:=Addr->Option HO
def upd (H:Hp) (a:Addr) (o:HO):Hp:=fun b=>if b=a then some o else H b
theorem a8 {H:Hp}{o:HO}:upd H a o a=some o:=by unfold upd;rw[if_pos rfl]
theorem aD {H:Hp}{a b:Addr}{o:HO} (h:b≠a):upd H a o b=H b:=by unfold upd;rw[if_neg h]
theorem iN {H:Hp}{a b:Addr}{o u:HO} (h:H a=some o) (h':H b=some u) (d:o≠u):a≠b:=by
 intro e;subst e;rw[h] at h';exact d (Option.some.inj h')
theorem bc {H:Hp}{a b:Addr}{o:HO} (h:H a=some o) (h':H b=none):a≠b:=by
 intro e;subst e;rw[h] at h';cases h'

section
variable (P:Program) (w:World)
def bM (H:Hp) (h:Heap) (a:Addr):HO->Prop
 | .lst xs=>xs.length<=sizeLine/\∃ (its:List Value) (n:Nat),Vals xs its/\h.get? a=some { cls:=.type "list",data:=.seq its.toArray n }
 | .tup xs=>xs.length<=sizeLine/\∃ its:List Value,Vals xs its/\IsTup h a its.toArray
 | .dK kvs=>kvs.length<=sizeLine/\(a==sysModules)=false/\∃ vs,KV kvs vs/\h.DictOf (aX P w) a vs
 | .dT kvs=>kvs.length<=sizeLine/\(a==sysModules)=false/\∃ xs:List (List Key×Addr×Value),
   Paired (fun (p:List Key×V) (q:List Key×Addr×Value)=>p.1=q.1/\H q.2.1=some (.tup (p.1.map kV))/\RelV p.2 q.2.2) kvs xs ∧
   ∃ o es ep,h.get? a=some o/\o.ExactDict/\o.data=.dict es ep/\es.toList=xs.map (entryOfKey (tupleKind (aX P w)))/\(xs.map (·.1)).Nodup
 | .set S n=>h.SetOf (intKind P w) a S n
 | .ins C dx fs=>H dx=some (.own a)/\fs.length<=1000/\dx≠a/\h.get? a=some (PySem.W.instObj C dx) ∧
   ∃ mA,h.Ns1 dx mA/\(∀ f,lJ (fs.lookup f) (mA f))/\PySem.Within mA (fs.map (·.1))
 | .own _=>∃ o,h.get? a=some o
 | .xd fs=>∃ mA,h.Ns1 a mA/\∀ f,lJ (fs.lookup f) (mA f)
 | .rng lo hi=>∃ t u v,h.get? a=some { cls:=.type "range",data:=.fields #[.int lo t,.int hi u,.int 1 v] }
 | .frz o u=>h.get? a=some o/\bM H h a u
 | .tbl ps=>∃ qs:Array Value,h.get? a=some { cls:=.none,data:=.fields qs }/\TriplesOk qs.toList/\∀ pos c,codeAmong pos qs.toList=some c->∃ c' oc vs t q,c=.ref c'/\H c'=some (.frz oc (.own a))/\oc.data=.fields vs/\vs[1]?=some (.str q t)/\ps=#[.str q 0]
 | .met f x=>h.get? a=some (PySem.W.methodObj (.ref f) (.ref x))
 | .ext φ=>φ h/\(∃ o,h.get? a=some o)/\∀ h1 h2:Heap,φ h1->(∀ o,h1.get? a=some o->h2.get? a=some o)->φ h2
def HOk (H:Hp) (h:Heap):Prop:=∀ a o,H a=some o->bM P w H h a o
end

section
variable {P:Program}{w:World}{H H':Hp}{h h':Heap}{a:Addr}{o:HO}
theorem bM.lt (x:bM P w H h a o):a<h.objs.size:=by
 cases o with
 | lst xs=>obtain⟨_,_,_,_,e⟩:=x;exact aB e
 | tup xs=>obtain⟨_,_,_,p⟩:=x;exact p.lt
 | dK kvs=>obtain⟨_,_,_,_,o,_,_,e,_⟩:=x;exact aB e
 | dT kvs=>obtain⟨_,_,_,_,o,_,_,e,_⟩:=x;exact aB e
 | set S n=>obtain⟨o,_,_,_,e,_⟩:=x;exact aB e
 | ins C dx fs=>obtain⟨_,_,_,e,_⟩:=x;exact aB e
 | own y=>obtain⟨_,e⟩:=x;exact aB e
 | xd fs=>obtain⟨_,⟨_,_,_,e,_⟩,_⟩:=x;exact aB e
 | rng lo hi=>obtain⟨_,_,_,e⟩:=x;exact aB e
 | frz ob u=>obtain⟨e,_⟩:=x;exact aB e
 | tbl ps=>obtain⟨_,e,_⟩:=x;exact aB e
 | met f y=>exact aB (show h.get? a=some _ from x)
 | ext φ=>obtain⟨_,⟨_,e⟩,_⟩:=x;exact aB e
theorem Paired.JK {α β:Type}{F G:α->β->Prop}:∀ {l₁:List α}{l₂:List β},Paired F l₁ l₂->(∀ a b,F a b->G a b)->Paired G l₁ l₂
 | _,_,.nil,_=>.nil
 | _,_,.cons r t,f=>.cons (f _ _ r) (Paired.JK t f)
theorem bM.lM (x:bM P w H h a o) (k:∀ b u,(b=a∨H b=some (.own a))->h.get? b=some u->h'.get? b=some u)
  (ho:∀ b,H b=some (.own a)->H' b=some (.own a)) (ht:∀ b xs,H b=some (.tup xs)->H' b=some (.tup xs))
  (hf:∀ b ob u,H b=some (.frz ob u)->H' b=some (.frz ob u):=by first | exact fun _ _ _ q=>q | exact fun c ob u q=>(aD (bc q (by assumption))).trans q):bM P w H' h' a o:=by
 induction o with
 | lst xs=>obtain⟨z,its,n,r,e⟩:=x;exact⟨z,its,n,r,k _ _ (.inl rfl) e⟩
 | tup xs=>obtain⟨z,its,r,ob,e,c⟩:=x;exact⟨z,its,r,ob,k _ _ (.inl rfl) e,c⟩
 | dK kvs=>obtain⟨z,y,vs,r,ob,es,ep,e,c⟩:=x;exact⟨z,y,vs,r,ob,es,ep,k _ _ (.inl rfl) e,c⟩
 | dT kvs =>
  obtain⟨z,y,xs,r,ob,es,ep,e,c⟩:=x
  exact⟨z,y,xs,Paired.JK r fun p q z=>⟨z.1,ht _ _ z.2.1,z.2.2⟩,ob,es,ep,k _ _ (.inl rfl) e,c⟩
 | set S n=>obtain⟨ob,es,ep,t,e,c⟩:=x;exact⟨ob,es,ep,t,k _ _ (.inl rfl) e,c⟩
 | ins C dx fs =>
  obtain⟨d,z,ne,e,mA,⟨od,es,ep,e2,c⟩,r⟩:=x
  exact⟨ho _ d,z,ne,k _ _ (.inl rfl) e,mA,⟨od,es,ep,k _ _ (.inr d) e2,c⟩,r⟩
 | own y=>obtain⟨ob,e⟩:=x;exact⟨ob,k _ _ (.inl rfl) e⟩
 | xd fs=>obtain⟨mA,⟨od,es,ep,e,c⟩,r⟩:=x;exact⟨mA,⟨od,es,ep,k _ _ (.inl rfl) e,c⟩,r⟩
 | rng lo hi=>obtain⟨t,u,v,e⟩:=x;exact⟨t,u,v,k _ _ (.inl rfl) e⟩
 | frz ob u ih=>obtain⟨e,q⟩:=x;exact⟨k _ _ (.inl rfl) e,ih q⟩
 | tbl ps =>
  obtain⟨qs,e,t,z⟩:=x
  refine⟨qs,k a _ (.inl rfl) e,t,fun pos c q=>?_⟩
  obtain⟨c',oc,vs,tk,qq,h1,h2,h3⟩:=z pos c q
  exact⟨c',oc,vs,tk,qq,h1,hf _ _ _ h2,h3⟩
 | met f y =>
  have e:h.get? a=some (PySem.W.methodObj (.ref f) (.ref y)):=x
  show h'.get? a=some (PySem.W.methodObj (.ref f) (.ref y))
  exact k a _ (.inl rfl) e
 | ext φ=>obtain⟨p,⟨o,e⟩,st⟩:=x;exact⟨st _ _ p fun o q=>k _ _ (.inl rfl) q,⟨o,k _ _ (.inl rfl) e⟩,st⟩
theorem HOk.lt (x:HOk P w H h) (e:H a=some o):a<h.objs.size:=(x a o e).lt
theorem HOk.fresh (x:HOk P w H h) (e:h.objs.size<=a):H a=none:=by
 cases q:H a with
 | none=>rfl
 | some u=>exact absurd (bB (x.lt q) e) (eL _)
theorem HOk.kept (x:HOk P w H h) (k:∀ b u,h.get? b=some u->h'.get? b=some u):HOk P w H h':=fun a o e =>
 (x a o e).lM (fun b u _ q=>k b u q) (fun _ q=>q) fun _ _ q=>q
theorem HOk.laid (x:HOk P w H h) (k:∀ b u,h.get? b=some u->h'.get? b=some u) (hp:h.objs.size<=a) (new:bM P w (upd H a o) h' a o):HOk P w (upd H a o) h':=fun b u e=>by
 have hn:=x.fresh hp
 by_cases hb:b=a
 ·subst hb;rw[a8] at e;cases e;exact new
 ·rw[aD hb] at e
  exact (x b u e).lM (fun c v _ q=>k c v q) (fun c q=>by rw[aD (bc q hn)];exact q) fun c xs q=>by rw[aD (bc q hn)];exact q
end

def Rd (H:Hp) (a:Addr) (u:HO):Prop:=H a=some u∨∃ o,H a=some (.frz o u)
theorem Rd.ok {H:Hp}{u:HO} (r:Rd H a u) (x:HOk P w H h):bM P w H h a u:=by
 rcases r with r | ⟨o,r⟩
 ·exact x a u r
 ·obtain⟨_,q⟩:=x a _ r
  exact q
def Mut:Option HO->Prop
 | some (.lst _)=>True
 | some (.dK _)=>True
 | some (.dT _)=>True
 | some (.set _ _)=>True
 | some (.ins _ _ _)=>True
 | some (.ext _)=>True
 | _=>False
section
variable {P:Program}{w:World}{H:Hp}{h h':Heap}{x e:Addr}{o':HO}
theorem HOk.write (ok:HOk P w H h) (mu:Mut (H x)) (he:e=x∨H e=some (.own x)) (k:∀ b u,b≠e->h.get? b=some u->h'.get? b=some u) (heo:∃ u,h'.get? e=some u)
  (new:bM P w (upd H x o') h' x o'):HOk P w (upd H x o') h':=fun b u q=>by
 have nown:∀ c y,H c=some (.own y)->c≠x:=fun c y r z=>by subst z;rw[r] at mu;exact mu
 have ntup:∀ c xs,H c=some (.tup xs)->c≠x:=fun c xs r z=>by subst z;rw[r] at mu;exact mu
 by_cases hb:b=x
 ·subst hb;rw[a8] at q;cases q;exact new
 ·rw[aD hb] at q
  by_cases hbe:b=e
  ·have q':H b=some (.own x):=by
    rcases he with z | z
    ·exact absurd (hbe.trans z) hb
    ·rw[hbe];exact z
   rw[q] at q';cases q'
   obtain⟨v,hv⟩:=heo
   exact⟨v,by rw[hbe];exact hv⟩
  ·refine (ok b u q).lM (fun c v hc r=>k c v ?_ r) (fun c r=>by rw[aD (nown c b r)];exact r) (fun c xs r=>by rw[aD (ntup c xs r)];exact r) fun c ob u r=>(aD (fun z=>by subst z;rw[r] at mu;exact mu)).trans r
   rcases hc with rfl | hc
   ·exact hbe
   ·rintro rfl
    rcases he with z | z
    ·exact nown c b hc z
    ·rw[hc] at z;cases z;exact hb rfl
end

structure Un (fs ex:List Addr) (H H':Hp) (h h':Heap):Prop where
 keep:∀ b o,h.get? b=some o->H b=none->b∉fs->b∉ex->h'.get? b=some o
 slot:∀ b o,h.get? b=some o->H b=none->b∈fs->b∉ex->∃ sl,h'.get? b=some { o with slots:=sl }
 free:∀ b o,h.get? b=some o->H b=none->b∉ex->H' b=none
 there:∀ b o,h.get? b=some o->b∉ex->∃ o',h'.get? b=some o'
 tups:∀ b xs,H b=some (.tup xs)->H' b=some (.tup xs)
 frzs:∀ b o u,H b=some (.frz o u)->H' b=some (.frz o u)
 tbls:∀ b ps,H b=some (.tbl ps)->∃ more,H' b=some (.tbl (ps++more))
section
variable {fs fs' ex ex':List Addr}{H H1 H2:Hp}{h h1 h2 h':Heap}{a x e:Addr}{o:HO}
theorem Un.any (u:Un fs ex H H1 h h1) {ob:Obj} (q:h.get? b=some ob) (n:H b=none) (hx:b∉ex):∃ sl,h1.get? b=some { ob with slots:=sl }:=by
 by_cases hb:b∈fs
 ·exact u.slot b ob q n hb hx
 ·exact⟨ob.slots,u.keep b ob q n hb hx⟩
theorem Un.kept (k:∀ b u,h.get? b=some u->h'.get? b=some u):Un fs ex H H h h' :=
 ⟨fun b ob q _ _ _=>k b ob q,fun b ob q _ _ _=>⟨ob.slots,k b ob q⟩,fun _ _ _ n _=>n,fun b ob q _=>⟨ob,k b ob q⟩,fun _ _ q=>q,fun _ _ _ q=>q,fun _ ps q=>⟨#[],by rw[q];simp⟩⟩
theorem Un.refl:Un fs ex H H h h:=Un.kept fun _ _ q=>q
theorem Un.laid (k:∀ b u,h.get? b=some u->h'.get? b=some u) (hp:h.objs.size<=a) (hn:H a=none):Un fs ex H (upd H a o) h h' where
 keep:=fun b u q _ _ _=>k b u q
 slot:=fun b u q _ _ _=>⟨u.slots,k b u q⟩
 free:=fun b u q n _=>by rw[aD (aS (bB (aB q) hp))];exact n
 there:=fun b u q _=>⟨u,k b u q⟩
 tups:=fun b xs q=>by rw[aD (bc q hn)];exact q
 frzs:=fun b u xs q=>by rw[aD (bc q hn)];exact q
 tbls:=fun b ps q=>⟨#[],by rw[aD (bc q hn),q];simp⟩
theorem Un.write (mu:Mut (H x)) (he:e=x∨H e=some (.own x)) (k:∀ b u,b≠e->h.get? b=some u->h'.get? b=some u) (heo:∃ u,h'.get? e=some u):Un fs ex H (upd H x o) h h':=by
 have hx:∀ b,H b=none->b≠x:=fun b n z=>by subst z;rw[n] at mu;exact mu
 have hb:∀ b,H b=none->b≠e:=fun b n z=>by
  subst z
  rcases he with r | r
  ·exact hx b n r
  ·rw[n] at r;cases r
 have hm:∀ b u,H b=some u->¬ Mut (some u)->b≠x:=fun b u q nm z=>by subst z;rw[q] at mu;exact nm mu
 refine⟨fun b u q n _ _=>k b u (hb b n) q,fun b u q n _ _=>⟨u.slots,k b u (hb b n) q⟩,fun b u q n _=>by rw[aD (hx b n)];exact n,fun b u q _=>?_,
  fun b xs q=>by rw[aD (hm b _ q fun z=>z)];exact q,fun b u xs q=>by rw[aD (hm b _ q fun z=>z)];exact q,fun b ps q=>⟨#[],by rw[aD (hm b _ q fun z=>z),q];simp⟩⟩
 by_cases hbe:b=e
 ·subst hbe;exact heo
 ·exact⟨u,k b u hbe q⟩
theorem Un.mono (u:Un fs ex H H1 h h1) (hs:∀ b∈fs,b∈fs') (hx:∀ b∈ex,b∈ex'):Un fs' ex' H H1 h h1 :=
 ⟨fun b ob q n hb he=>u.keep b ob q n (fun z=>hb (hs b z)) fun z=>he (hx b z),fun _ _ q n _ he=>u.any q n fun z=>he (hx _ z),fun b ob q n he=>u.free b ob q n fun z=>he (hx b z),fun b ob q he=>u.there b ob q fun z=>he (hx b z),u.tups,u.frzs,u.tbls⟩
end

def trk (h:Heap) (H:Hp):List Addr:=(List.range h.objs.size).filter fun a=>(H a).isSome
def vA (h:Heap) (H:Hp):Heap:=PySem.W.hideAll h (trk h H)
theorem Ct (h:Heap) (H:Hp):(vA h H).objs.size=h.objs.size:=PySem.W.hideAll_size _ _
theorem Ew {H:Hp} (e:h.get? b=some o) (n:H b=none):(vA h H).get? b=some o :=
 PySem.W.hideAll_get _ e fun hm=>by
  have q:(H b).isSome=true:=(bW.mp hm).2
  rw[n] at q;simp at q
theorem Hj {H:Hp} (e:(vA h H).get? b=some o):h.get? b=some o/\H b=none:=by
 have e':h.get? b=some o:=PySem.W.of_hideAll (trk h H) e
 refine⟨e',?_⟩
 cases q:H b with
 | none=>rfl
 | some x =>
  have hm:b∈trk h H:=bW.mpr ⟨bN.mpr (aB e'),by simp [q]⟩
  have z:(vA h H).get? b=none:=PySem.W.hideAll_none (trk h H) hm
  rw[z] at e;cases e

def Ge (g h:Heap) (L:Addr):List (Addr×Obj):=(List.range h.objs.size).filterMap fun a=>if a=L∨(g.get? a).isSome=true then none else (h.get? a).map fun o=>(a,o)
def rest (g h:Heap) (L d:Addr):List (Addr×Obj):=(Ge g h L).filter fun p=>decide (p.1≠d)
end
section

structure Mod (K:PySem.W.Frag) (mg:Str->Option Value) (base:Heap):Prop where
 kin:K.In base
 glob:base.Ns mainGlobals mg
 blt:∃ mb,base.Ns builtinsNs mb/\∀ x:Str,x≠"__name__"->mb x=bootBuiltins x
 nolimit:base.NoLimit
 bmn:∃ bm ob,mg "__builtins__"=some (.ref bm)/\bm≠builtinsNs/\base.get? bm=some ob/\ob.cls=.type "module"/\ob.dict=some builtinsNs/\ob.data=.plain

structure Cx where
 prog:Program
 w:World
 K:PySem.W.Frag
 mg:Str->Option Value
 base:Heap
 A:Around
 N:List Str
 s₀:Shared
 H₀:Hp
 env:Env
 outer:List Env
 stack:List Env
 ex:List Addr
 fn:Str->Bool
 calm:Bool
 pn:List (Addr×Obj)
 xe:Value->Shared->Prop
def frs (l:List Env):List Addr:=l.filterMap (·.frame)
abbrev Cx.fs (X:Cx):List Addr:=frs X.outer

def Vis (sc:Scope) (x:Str):Prop:=sc.names.lookup x=some .local∨sc.names.lookup x=some .cell∨sc.names.lookup x=some .free
def Loc (sc:Scope) (x:Str):Prop:=sc.names.lookup x=some .local∨sc.names.lookup x=some .cell
def Look (env:Env) (h:Heap) (m:Str->Option Value) (x:Str) (u:Value):Prop :=
 (env.kindOf x=some .local/\m x=some u)∨((env.kindOf x=some .cell∨env.kindOf x=some .free)/\∃ c,env.cells.lookup x=some c/\h.IsCell c (some u))

structure Cx.Ok (X:Cx):Prop where
 mod:Mod X.K X.mg X.base
 kind:X.env.scope.kind=.function
 glob:X.env.globals=mainGlobals
 blt:X.env.builtins=builtinsNs
 above:X.s₀.heap.objs.size<=X.env.locals
 inj:∀ x y c,X.env.cells.lookup x=some c->X.env.cells.lookup y=some c->x=y
 has:∀ x,(X.env.kindOf x=some .cell∨X.env.kindOf x=some .free)->∃ c,X.env.cells.lookup x=some c
 cab:∀ x c,X.fn x=true->X.env.cells.lookup x=some c->X.s₀.heap.objs.size<=c
 hd:X.calm=true->X.A.handled=none
 frames:X.A.frames=some X.stack
 stk:X.stack=X.outer∨(X.stack=X.env::X.outer/\X.env.frame=some X.env.locals)
 exf:∀ b∈X.ex,b≠X.env.locals/\∀ x c,X.env.cells.lookup x=some c->c≠b
 bs:∀ b o,X.base.get? b=some o->X.s₀.heap.get? b=some o/\X.H₀ b=none
 bsz:X.base.objs.size<=X.s₀.heap.objs.size
 noex:∀ b o,X.base.get? b=some o->b∉X.ex
 exfs:∀ b∈X.ex,b∉X.fs
 qr:X.s₀.heap.FunFrames X.base X.outer
 frf:∀ b∈X.fs,X.H₀ b=none

structure Inv (X:Cx) (pins:List (Addr×Obj)) (σ:List (Option V)) (H:Hp) (s:Shared):Prop where
 ok:X.Ok
 os:s.os=X.s₀.os
 bare:AllBare s.gens
 base:Un X.fs X.ex X.H₀ H X.s₀.heap s.heap
 loc:∃ m,s.heap.Ns X.env.locals m/\∀ (i:Nat) (x:Str) (v:V),X.N[i]?=some x->σ[i]?=some (some v)->Vis X.env.scope x->∃ u,RelV v u/\Look X.env s.heap m x u
 cell:∀ x c,X.env.cells.lookup x=some c->∃ v,s.heap.IsCell c v
 free:H X.env.locals=none
 freeC:∀ x c,X.env.cells.lookup x=some c->H c=none
 pin:∀ p∈X.pn++pins,s.heap.get? p.1=some p.2/\H p.1=none/\p.1≠X.env.locals/\p.1∉X.fs/\∀ v,p.2.data≠.cell v
 hok:HOk X.prog X.w H s.heap
 len:σ.length=X.N.length

section
variable {X:Cx}{pins:List (Addr×Obj)}{σ:List (Option V)}{H H':Hp}{s:Shared}{h':Heap}

theorem Cx.Ok.LX (ok:X.Ok)  (e:X.base.get? b=some o):b∉X.fs:=fun hb=>by
 have:=(ok.qr.mem hb).1
 rw[e] at this;cases this
theorem Inv.bs (I:Inv X pins σ H s):∀ b o,X.base.get? b=some o->s.heap.get? b=some o/\H b=none:=fun b o e =>
 ⟨I.base.keep b o (I.ok.bs b o e).1 (I.ok.bs b o e).2 (I.ok.LX e) (I.ok.noex b o e),I.base.free b o (I.ok.bs b o e).1 (I.ok.bs b o e).2 (I.ok.noex b o e)⟩
theorem Inv.bk (I:Inv X pins σ H s):∀ b o,X.base.get? b=some o->s.heap.get? b=some o:=fun b o e=>(I.bs b o e).1
theorem Inv.mod (I:Inv X pins σ H s):Mod X.K X.mg X.base:=I.ok.mod
theorem Inv.kIn (I:Inv X pins σ H s):X.K.In s.heap:=I.ok.mod.kin.keeps I.bk
theorem Inv.nolimit (I:Inv X pins σ H s):s.heap.NoLimit:=I.ok.mod.nolimit.keeps I.bk
theorem Inv.lt (I:Inv X pins σ H s):X.env.locals<s.heap.objs.size:=let ⟨_,hn,_⟩:=I.loc;hn.lt
theorem Inv.sz (I:Inv X pins σ H s):X.s₀.heap.objs.size<=s.heap.objs.size:=aK I.ok.above (aP I.lt)
theorem Inv.LY (I:Inv X pins σ H s)  (h:s.heap.objs.size<=a):a∉X.fs:=fun hb=>by
 obtain⟨_,o,ho,_⟩:=I.ok.qr.mem hb
 exact absurd (bB (aB ho) (aK I.sz h)) (eL _)
theorem Inv.cne (I:Inv X pins σ H s):∀ x c,X.env.cells.lookup x=some c->c≠X.env.locals:=fun x c e z=>by
 obtain⟨v,o,ho,hd⟩:=I.cell x c e
 obtain⟨m,⟨o',es,ep,ho',hd',_⟩,_⟩:=I.loc
 rw[z,ho'] at ho;cases ho;rw[hd'] at hd;cases hd
theorem Inv.qr (I:Inv X pins σ H s):s.heap.FunFrames X.base X.outer:=by
 have all:∀ (l:List Env),(∀ b∈frs l,b∈X.fs)->X.s₀.heap.FunFrames X.base l->s.heap.FunFrames X.base l:=by
  intro l
  induction l with
  | nil=>intro _ _;trivial
  | cons env r ih =>
   intro hs hl
   obtain⟨hk,⟨L,o,hf,hn,ho,hd⟩,hr⟩:=hl
   have hL:L∈X.fs:=hs L (by unfold frs;rw[List.filterMap_cons,hf];exact List.mem_cons_self)
   obtain⟨sl,e⟩:=I.base.slot L o ho (I.ok.frf L hL) hL fun z=>I.ok.exfs L z hL
   exact⟨hk,⟨L,_,hf,hn,e,hd⟩,ih (fun b hb=>hs b (by unfold frs;rw[List.filterMap_cons,hf];exact List.mem_cons_of_mem _ hb)) hr⟩
 exact all X.outer (fun _ hb=>hb) I.ok.qr

theorem Inv.stack (I:Inv X pins σ H s):s.heap.FunFrames X.base X.stack:=by
 rcases I.ok.stk with e | ⟨e,hf⟩
 ·rw[e];exact I.qr
 ·rw[e]
  obtain⟨m,hn,_⟩:=I.loc
  refine .cons (by rw[I.ok.kind];decide) hf hn ?_ I.qr
  exact Heap.get?_none_of_le (aK I.ok.bsz I.ok.above)
theorem Inv.wy (I:Inv X pins σ H s):∀ b∈frs X.stack,b∈X.env.locals::X.fs:=fun b hb=>by
 rcases I.ok.stk with e | ⟨e,hf⟩
 ·rw[e] at hb;exact List.mem_cons_of_mem _ hb
 ·rw[e] at hb
  unfold frs at hb
  rw[List.filterMap_cons,hf] at hb
  exact hb
theorem Inv.rZ (I:Inv X pins σ H s):∀ b∈frs X.stack,H b=none:=fun b hb=>by
 rcases aI.mp (I.wy b hb) with e | hb
 ·rw[e];exact I.free
 ·obtain⟨_,o,ho,_⟩:=I.ok.qr.mem hb
  exact I.base.free b o ho (I.ok.frf b hb) fun z=>I.ok.exfs b z hb

theorem Inv.step {g':Array GenState}{t':Nat}{d':Drawn}{ch:List Addr} (I:Inv X pins σ H s)
  (hch:∀ b∈ch,(b∈X.ex∨X.s₀.heap.objs.size<=b)/\b≠X.env.locals/\(∀ x c,X.env.cells.lookup x=some c->c≠b)/\∀ p∈X.pn++pins,p.1≠b)
  (keep:∀ b o,b≠X.env.locals->b∉X.fs->b∉ch->s.heap.get? b=some o->H b=none->h'.get? b=some o)
  (slot:∀ b o,b≠X.env.locals->b∈X.fs->b∉ch->s.heap.get? b=some o->H b=none->∃ sl,h'.get? b=some { o with slots:=sl }) (free:∀ b o,b∉ch->s.heap.get? b=some o->H b=none->H' b=none)
  (there:∀ b o,b∉ch->s.heap.get? b=some o->∃ o',h'.get? b=some o')
  (tups:∀ b xs,H b=some (.tup xs)->H' b=some (.tup xs)) (frzs:∀ b o u,H b=some (.frz o u)->H' b=some (.frz o u)) (tbls:∀ b ps,H b=some (.tbl ps)->∃ more,H' b=some (.tbl (ps++more)))
  (ns:∀ m,s.heap.Ns X.env.locals m->h'.Ns X.env.locals m) (hok:HOk X.prog X.w H' h') (hg:AllBare g') :
  Inv X pins σ H' { s with heap:=h',gens:=g',drawn:=d',toks:=t' }:=by
 have neL:∀ b o,X.s₀.heap.get? b=some o->b≠X.env.locals:=fun b o e=>aS (bB (aB e) I.ok.above)
 have neC:∀ b o,X.s₀.heap.get? b=some o->b∉X.ex->b∉ch:=fun b o e hx hb=>by
  rcases (hch b hb).1 with z | z
  ·exact hx z
  ·exact absurd (bB (aB e) z) (eL _)
 have cellK:∀ x c,X.env.cells.lookup x=some c->∀ v,s.heap.IsCell c v->h'.IsCell c v:=fun x c e v ⟨o,ho,hd⟩=>by
  have nch:c∉ch:=fun z=>(hch c z).2.2.1 x c e rfl
  by_cases hc:c∈X.fs
  ·obtain⟨sl,q⟩:=slot c o (I.cne x c e) hc nch ho (I.freeC x c e)
   exact⟨_,q,hd⟩
  ·exact⟨o,keep c o (I.cne x c e) hc nch ho (I.freeC x c e),hd⟩
 refine⟨I.ok,I.os,hg,⟨fun b o e n hb hx=>?_,fun b o e n hb hx=>?_,fun b o e n hx=>?_,fun b o e hx=>?_,fun b xs e=>tups b xs (I.base.tups b xs e),fun b o xs e=>frzs b o xs (I.base.frzs b o xs e),fun b ps e=>?_⟩,?_,fun x c e=>?_,?_,fun x c e=>?_,fun p hp=>?_,hok,I.len⟩
 ·exact keep b o (neL b o e) hb (neC b o e hx) (I.base.keep b o e n hb hx) (I.base.free b o e n hx)
 ·obtain⟨sl,e1⟩:=I.base.slot b o e n hb hx
  obtain⟨sl',e2⟩:=slot b _ (neL b o e) hb (neC b o e hx) e1 (I.base.free b o e n hx)
  exact⟨sl',e2⟩
 ·obtain⟨o',e1⟩:=I.base.there b o e hx
  exact free b o' (neC b o e hx) e1 (I.base.free b o e n hx)
 ·obtain⟨o',e1⟩:=I.base.there b o e hx
  exact there b o' (neC b o e hx) e1
 ·obtain⟨m1,e1⟩:=I.base.tbls b ps e
  obtain⟨m2,e2⟩:=tbls b _ e1
  exact⟨m1++m2,by rw[e2,Array.append_assoc]⟩
 ·obtain⟨m,hn,hl⟩:=I.loc
  refine⟨m,ns m hn,fun i x v e1 e2 e3=>?_⟩
  obtain⟨u,r,l⟩:=hl i x v e1 e2 e3
  refine⟨u,r,?_⟩
  rcases l with l | ⟨k,c,e,z⟩
  ·exact .inl l
  ·exact .inr ⟨k,c,e,cellK x c e _ z⟩
 ·obtain⟨v,z⟩:=I.cell x c e
  exact⟨v,cellK x c e v z⟩
 ·obtain⟨m,⟨o,_,_,ho,_⟩,_⟩:=I.loc
  exact free _ o (fun z=>(hch _ z).2.1 rfl) ho I.free
 ·obtain⟨v,o,ho,hd⟩:=I.cell x c e
  exact free c o (fun z=>(hch c z).2.2.1 x c e rfl) ho (I.freeC x c e)
 ·obtain⟨e,n,ne,nf,d⟩:=I.pin p hp
  have nch:p.1∉ch:=fun z=>(hch p.1 z).2.2.2 p hp rfl
  exact⟨keep p.1 p.2 ne nf nch e n,free p.1 p.2 nch e n,ne,nf,d⟩
theorem Inv.un {t':Nat} (I:Inv X pins σ H s) (u:Un X.fs [] H H' s.heap h') (hok:HOk X.prog X.w H' h'):Inv X pins σ H' { s with heap:=h',toks:=t' }:=by
 obtain⟨m,⟨o,es,ep,ho,r⟩,_⟩:=id I.loc
 obtain⟨sl,hL⟩:=u.any ho I.free (by simp)
 exact I.step (g':=s.gens) (d':=s.drawn) (ch:=[]) (fun _ z=>nomatch z) (fun b o _ hb _ e n=>u.keep b o e n hb (by simp)) (fun b o _ hb _ e n=>u.slot b o e n hb (by simp)) (fun b o _ e n=>u.free b o e n (by simp)) (fun b o _ e=>u.there b o e (by simp)) u.tups u.frzs u.tbls (fun m' hm=>by
  obtain⟨o',es',ep',ho',r'⟩:=hm
  rw[ho] at ho';cases ho'
  exact⟨_,es',ep',hL,r'⟩) hok I.bare
theorem Inv.call {t':Nat}{d':Drawn} (I:Inv X pins σ H s) (u:Un (frs X.stack) ch H H' s.heap h') (hok:HOk X.prog X.w H' h') (hg:AllBare g')
  (hch:∀ b∈ch,(b∈X.ex∨X.s₀.heap.objs.size<=b)/\b≠X.env.locals/\(∀ x c,X.env.cells.lookup x=some c->c≠b)/\∀ p∈X.pn++pins,p.1≠b) :
  Inv X pins σ H' { s with heap:=h',gens:=g',drawn:=d',toks:=t' }:=by
 obtain⟨m,⟨o,es,ep,ho,r⟩,_⟩:=id I.loc
 obtain⟨sl,hL⟩:=u.any ho I.free fun z=>(hch _ z).2.1 rfl
 exact I.step (ch:=ch) hch (fun b o hL hb hc e n=>u.keep b o e n (fun z=>(aI.mp (I.wy b z)).elim hL hb) hc) (fun b o _ _ hc e n=>u.any e n hc) (fun b o hc e n=>u.free b o e n hc) (fun b o hc e=>u.there b o e hc) u.tups u.frzs u.tbls (fun m' hm=>by
  obtain⟨o',es',ep',ho',r'⟩:=hm
  rw[ho] at ho';cases ho'
  exact⟨_,es',ep',hL,r'⟩) hok hg
theorem Inv.turned {t':Nat} (I:Inv X pins σ H s) (k:∀ b o,b≠it->s.heap.get? b=some o->h'.get? b=some o) (hn:H it=none) (hL:it≠X.env.locals)
  (h1:it∈X.ex∨X.s₀.heap.objs.size<=it) (h2:∀ x c,X.env.cells.lookup x=some c->c≠it) (h3:∀ p∈X.pn++pins,p.1≠it):Inv X pins σ H { s with heap:=h',toks:=t' }:=by
 have nit:∀ b u,H b=some u->b≠it:=fun b u e z=>by rw[z,hn] at e;cases e
 refine I.step (g':=s.gens) (d':=s.drawn) (ch:=[it]) (fun b hb=>?_) (fun b o _ _ hc e _=>k b o (fun z=>hc (by simp [z])) e) (fun b o _ _ hc e _=>⟨o.slots,k b o (fun z=>hc (by simp [z])) e⟩) (fun _ _ _ _ n=>n)
  (fun b o hc e=>⟨o,k b o (fun z=>hc (by simp [z])) e⟩) (fun _ _ e=>e) (fun _ _ _ e=>e) (fun b ps e=>⟨#[],by rw[e];simp⟩) (fun m hm=>?_) (fun b u e=>?_) I.bare
 ·have e:b=it:=by simpa using hb
  subst e
  exact⟨h1,hL,h2,h3⟩
 ·obtain⟨o,es,ep,ho,r⟩:=hm
  exact⟨o,es,ep,k _ o (bt hL) ho,r⟩
 ·refine (I.hok b u e).lM (fun c v hc q=>k c v ?_ q) (fun _ q=>q) fun _ _ q=>q
  rcases hc with z | z
  ·rw[z];exact nit b u e
  ·exact nit c _ z
theorem Inv.tok (I:Inv X pins σ H s) (t:Nat):Inv X pins σ H { s with toks:=t }:=I.un (h':=s.heap) (t':=t) Un.refl I.hok
theorem Inv.kept {t':Nat} (I:Inv X pins σ H s) (k:∀ b u,s.heap.get? b=some u->h'.get? b=some u):Inv X pins σ H { s with heap:=h',toks:=t' }:=I.un (Un.kept k) (I.hok.kept k)
theorem Inv.laid {a:Addr}{o:HO}{t':Nat} (I:Inv X pins σ H s) (k:∀ b u,s.heap.get? b=some u->h'.get? b=some u) (hp:s.heap.objs.size<=a) (new:bM X.prog X.w (upd H a o) h' a o) :
  Inv X pins σ (upd H a o) { s with heap:=h',toks:=t' }:=I.un (Un.laid k hp (I.hok.fresh hp)) (I.hok.laid k hp new)
theorem Inv.write {x e:Addr}{o:HO}{t':Nat} (I:Inv X pins σ H s) (mu:Mut (H x)) (he:e=x∨H e=some (.own x)) (k:∀ b u,b≠e->s.heap.get? b=some u->h'.get? b=some u) (heo:∃ u,h'.get? e=some u)
  (new:bM X.prog X.w (upd H x o) h' x o):Inv X pins σ (upd H x o) { s with heap:=h',toks:=t' }:=I.un (Un.write mu he k heo) (I.hok.write mu he k heo new)
theorem Inv.Bb {pins':List (Addr×Obj)} (I:Inv X pins σ H s) (h:∀ p∈pins',s.heap.get? p.1=some p.2/\H p.1=none/\p.1≠X.env.locals/\p.1∉X.fs/\∀ v,p.2.data≠.cell v):Inv X pins' σ H s :=
 ⟨I.ok,I.os,I.bare,I.base,I.loc,I.cell,I.free,I.freeC,fun p hp=>(bz.mp hp).elim (fun z=>I.pin p (ky _ z)) (h p),I.hok,I.len⟩

theorem xq {N:List Str} (hN:N.Nodup) {i j:Nat} (a:N[i]?=some x) (b:N[j]?=some x):i=j:=by
 obtain⟨h1,e1⟩:=bf.mp a
 obtain⟨h2,e2⟩:=bf.mp b
 exact (List.getElem_inj hN).mp (e1.trans e2.symm)

theorem vc {M:Model}{A:Around}{E:Value->Shared->Prop}{v:V}{Q:Unit->Shared->Prop} (I:Inv X pins σ H s) (hN:X.N.Nodup) (hi:X.N[i]?=some x) (hx:Loc X.env.scope x) (r:RelV v u)
  (h:∀ s',Inv X pins (σ.set i (some v)) H s'->(∃ a,Heap.SameBut a s.heap s'.heap/\(a=X.env.locals∨X.env.cells.lookup x=some a))->Q () s') (hf:X.fn x=true∨X.env.scope.names.lookup x=some .local:=by first | exact .inl rfl | exact .inr rfl | assumption):wpAny M A (storeName X.env x u) Q E s:=by
 obtain⟨m,hn,hl⟩:=id I.loc
 have hcls:(X.env.scope.kind==.class||(X.env.scope.kind==.module&&X.env.locals != X.env.globals))=false:=by rw[I.ok.kind];rfl
 have hiσ:i<σ.length:=by rw[I.len];exact (bf.mp hi).1
 have cne:=I.cne
 have tracked:∀ {a:Addr}{h':Heap},(∃ o,s.heap.get? a=some o/\H a=none)->Heap.SameBut a s.heap h'->HOk X.prog X.w H h':=fun {a h'} ha hs b ob e=>by
  obtain⟨_,_,hfree⟩:=ha
  refine (I.hok b ob e).lM (fun c w' hc q=>(hs.2 c ?_).trans q) (fun _ q=>q) fun _ _ q=>q
  rintro rfl
  rcases hc with rfl | hc
  ·rw[hfree] at e;cases e
  ·rw[hfree] at hc;cases hc
 rcases hx with hk | hk
 ·refine wpAny_storeName_local hk hn (fun h' hn' hs=>?_) hcls
  obtain⟨oL,_,_,hoL,_⟩:=id hn
  refine h _ ⟨I.ok,I.os,I.bare,⟨fun b o e n hb hx=>?_,fun b o e n hb hx=>?_,I.base.free,fun b o e hx=>?_,I.base.tups,I.base.frzs,I.base.tbls⟩,⟨_,hn',fun j y v' e1 e2 e3=>?_⟩,fun y c e=>?_,I.free,I.freeC,fun p hp=>?_,tracked ⟨oL,hoL,I.free⟩ hs,by simpa using I.len⟩ ⟨_,hs,.inl rfl⟩
  ·exact (hs.2 b (aS (bB (aB e) I.ok.above))).trans (I.base.keep b o e n hb hx)
  ·obtain⟨sl,e1⟩:=I.base.slot b o e n hb hx
   exact⟨sl,(hs.2 b (aS (bB (aB e) I.ok.above))).trans e1⟩
  ·obtain⟨o',e1⟩:=I.base.there b o e hx
   exact⟨o',(hs.2 b (aS (bB (aB e) I.ok.above))).trans e1⟩
  ·by_cases hj:j=i
   ·subst hj
    rw[hi] at e1;cases e1
    rw[mM hiσ] at e2
    cases e2
    exact⟨u,r,.inl ⟨hk,by simp⟩⟩
   ·rw[ko (bt hj)] at e2
    obtain⟨u',r',q⟩:=hl j y v' e1 e2 e3
    refine⟨u',r',?_⟩
    rcases q with ⟨k,e⟩ | ⟨k,c,e,z⟩
    ·refine .inl ⟨k,?_⟩
     have:y≠x:=fun e=>hj (xq hN e1 (e ▸ hi))
     simp [this,e]
    ·exact .inr ⟨k,c,e,z.sameBut hs (cne y c e)⟩
  ·obtain⟨w',z⟩:=I.cell y c e
   exact⟨w',z.sameBut hs (cne y c e)⟩
  ·obtain⟨e,n,ne,nf,d⟩:=I.pin p hp
   exact⟨(hs.2 p.1 ne).trans e,n,ne,nf,d⟩
 ·have hfn:X.fn x=true:=by
   rcases hf with z | z
   ·exact z
   ·rw[z] at hk;cases hk
  obtain⟨c,hc⟩:=I.ok.has x (.inl hk)
  obtain⟨w',z⟩:=I.cell x c hc
  refine wpAny_storeName_cell I.ok.kind hk hc z (fun h' hc' hs=>?_)
  obtain⟨oc,hoc,hocd⟩:=id z
  refine h { s with heap:=h' } ⟨I.ok,I.os,I.bare,⟨fun b o e n hb hx=>?_,fun b o e n hb hx=>?_,I.base.free,fun b o e hx=>?_,I.base.tups,I.base.frzs,I.base.tbls⟩,⟨m,hn.sameBut hs (bt (cne x c hc)),fun j y v' e1 e2 e3=>?_⟩,fun y c' e=>?_,I.free,I.freeC,fun p hp=>?_,tracked ⟨oc,hoc,I.freeC x c hc⟩ hs,by simpa using I.len⟩ ⟨c,hs,.inr hc⟩
  ·exact (hs.2 b (aS (bB (aB e) (I.ok.cab x c hfn hc)))).trans (I.base.keep b o e n hb hx)
  ·obtain⟨sl,e1⟩:=I.base.slot b o e n hb hx
   exact⟨sl,(hs.2 b (aS (bB (aB e) (I.ok.cab x c hfn hc)))).trans e1⟩
  ·obtain⟨o',e1⟩:=I.base.there b o e hx
   exact⟨o',(hs.2 b (aS (bB (aB e) (I.ok.cab x c hfn hc)))).trans e1⟩
  ·by_cases hj:j=i
   ·subst hj
    rw[hi] at e1;cases e1
    rw[mM hiσ] at e2
    cases e2
    exact⟨u,r,.inr ⟨.inl hk,c,hc,hc'⟩⟩
   ·rw[ko (bt hj)] at e2
    obtain⟨u',r',q⟩:=hl j y v' e1 e2 e3
    refine⟨u',r',?_⟩
    rcases q with q | ⟨k,c',e,z'⟩
    ·exact .inl q
    ·refine .inr ⟨k,c',e,z'.sameBut hs ?_⟩
     rintro rfl
     exact hj (xq hN e1 (I.ok.inj _ _ _ e hc ▸ hi))
  ·by_cases hcc:c'=c
   ·subst hcc;exact⟨_,hc'⟩
   ·obtain⟨w2,z2⟩:=I.cell y c' e
    exact⟨w2,z2.sameBut hs hcc⟩
  ·obtain⟨e,n,ne,nf,d⟩:=I.pin p hp
   refine⟨(hs.2 p.1 ?_).trans e,n,ne,nf,d⟩
   intro q
   rw[q,hoc] at e
   have q':oc=p.2:=Option.some.inj e
   exact d w' (by rw[←q'];exact hocd)
theorem pE {M:Model}{A:Around}{E:Value->Shared->Prop}{v:V}{Q:Unit->Shared->Prop} (I:Inv X pins σ H s) (hN:X.N.Nodup) (hi:X.N[i]?=some x) (hx:Loc X.env.scope x) (r:RelV v u)
  (h:∀ s',Inv X pins (σ.set i (some v)) H s'->Q () s') (hf:X.fn x=true∨X.env.scope.names.lookup x=some .local:=by first | exact .inl rfl | exact .inr rfl | assumption):wpAny M A (storeName X.env x u) Q E s :=
 vc I hN hi hx r (fun s' I' _=>h s' I') hf
theorem Inv.Au {s':Shared} (I:Inv X pins σ H s) (ho:s'.os=s.os) (u:Un (frs X.stack) ch H H' s.heap s'.heap) (hok:HOk X.prog X.w H' s'.heap) (hg:AllBare s'.gens)
  (hch:∀ b∈ch,(b∈X.ex∨X.s₀.heap.objs.size<=b)/\b≠X.env.locals/\(∀ x c,X.env.cells.lookup x=some c->c≠b)/\∀ p∈X.pn++pins,p.1≠b):Inv X pins σ H' s':=by
 obtain⟨h',g',d',t',o'⟩:=s'
 have e:o'=s.os:=ho
 subst e
 exact I.call (g':=g') (t':=t') (d':=d') u hok hg hch
end

abbrev XK:=Value->Option Addr->Hp->Prop
abbrev St:=List (Option V)
abbrev VK:=V->Hp->Prop
abbrev TE:=St->Hp->VK->Prop
abbrev TT:=St->Hp->(Bool->Hp->Prop)->Prop
abbrev TA:=St->Hp->(List V->Hp->Prop)->Prop
structure Ends where
 nx:St->Hp->Prop
 rt:VK
 bk:St->Hp->Prop:=fun _ _=>False
 ct:St->Hp->Prop:=fun _ _=>False
abbrev TS:=Ends->St->Hp->Prop

def EP (X:Cx) (pins:List (Addr×Obj)) (σ:St) (Q:VK) (u:Value) (s':Shared):Prop:=∃ v H',Inv X pins σ H' s'/\RelV v u/\Q v H'
def TP (X:Cx) (pins:List (Addr×Obj)) (σ:St) (Q:Bool->Hp->Prop) (b:Bool) (s':Shared):Prop:=∃ H',Inv X pins σ H' s'/\Q b H'
def AP (X:Cx) (pins:List (Addr×Obj)) (σ:St) (Q:List V->Hp->Prop) (us:List Value) (s':Shared):Prop:=∃ vs H',Inv X pins σ H' s'/\Vals vs us/\Q vs H'
def SP (X:Cx) (pins:List (Addr×Obj)) (D:Ends) (f:Flow) (s':Shared):Prop :=
 match f with
 | .next=>∃ σ' H',Inv X pins σ' H' s'/\D.nx σ' H'
 | .brk=>∃ σ' H',Inv X pins σ' H' s'/\D.bk σ' H'
 | .cont=>∃ σ' H',Inv X pins σ' H' s'/\D.ct σ' H'
 | .ret u=>∃ v σ' H',Inv X pins σ' H' s'/\RelV v u/\D.rt v H'

def PE (X:Cx) (e:Expr) (t:TE):Prop :=
 ∀ (pins:List (Addr×Obj)) (s:Shared) (σ:St) (H:Hp) (Q:VK),Inv X pins σ H s->t σ H Q->wpAny (model X.prog X.w) X.A (eval e X.env) (EP X pins σ Q) X.xe s
def PT (X:Cx) (e:Expr) (t:TT):Prop :=
 ∀ (pins:List (Addr×Obj)) (s:Shared) (σ:St) (H:Hp) (Q:Bool->Hp->Prop),Inv X pins σ H s->t σ H Q->wpAny (model X.prog X.w) X.A (isTrue e X.env (eval e X.env)) (TP X pins σ Q) X.xe s
def PW (X:Cx) (e:Expr) (t:TT):Prop :=
 ∀ (whole:Sem Value) (pins:List (Addr×Obj)) (s:Shared) (σ:St) (H:Hp) (Q:Bool->Hp->Prop),Inv X pins σ H s->t σ H Q->wpAny (model X.prog X.w) X.A (isTrue e X.env whole) (TP X pins σ Q) X.xe s
theorem PW.pt {X:Cx}{t:TT} (h:PW X e t):PT X e t:=h _
def PA (X:Cx) (es:List Expr) (t:TA):Prop :=
 ∀ (pos:Pos) (pins:List (Addr×Obj)) (s:Shared) (σ:St) (H:Hp) (Q:List V->Hp->Prop),Inv X pins σ H s->t σ H Q->wpAny (model X.prog X.w) X.A (spliced (backTo pos (starEach es X.env))) (AP X pins σ Q) X.xe s
def PS (X:Cx) (st:Stmt) (t:TS):Prop :=
 ∀ (pins:List (Addr×Obj)) (s:Shared) (σ:St) (H:Hp) (D:Ends),Inv X pins σ H s->t D σ H->wpAny (model X.prog X.w) X.A (exec st X.env) (SP X pins D) X.xe s
def PSs (X:Cx) (st:List Stmt) (t:TS):Prop :=
 ∀ (pins:List (Addr×Obj)) (s:Shared) (σ:St) (H:Hp) (D:Ends),Inv X pins σ H s->t D σ H->wpAny (model X.prog X.w) X.A (execs st X.env) (SP X pins D) X.xe s
theorem thn {α:Type}{t:Sem α}{Q Q':α->Shared->Prop} (h:wpAny M A t Q E s) (hQ:∀ a s,Q a s->Q' a s):wpAny M A t Q' E s:=bO h hQ fun _ _ x=>x
end
section
section
variable {X:Cx}

def wB (i:Nat):TE:=fun σ H Q=>∃ v,σ[i]?=some (some v)/\Q v H
def tC (v:V):TE:=fun _ H Q=>Q v H
theorem Fm (hN:X.N[i]?=some x) (hv:Vis X.env.scope x) (hd:(x==("__debug__":Str))=false:=by decide) (hcd:(x==("__classdict__":Str))=false:=by decide):PE X (.Name x pos) (wB i):=by
 intro pins s σ H Q I h
 obtain⟨v,e,h⟩:=h
 obtain⟨m,hn,hl⟩:=I.loc
 obtain⟨u,r,l⟩:=hl i x v hN e hv
 have fin:EP X pins σ Q u s:=⟨v,H,I,r,h⟩
 rcases l with ⟨hk,hm⟩ | ⟨hk,c,hc,hcell⟩
 ·exact wpAny_Name (wpAny_loadName_local I.ok.kind hk hn hm fin) hd
 ·rcases hk with hk | hk
  ·exact wpAny_Name (wpAny_loadName_cell I.ok.kind hk hc hcell fin) hd
  ·exact wpAny_Name (wpAny_loadName_free I.ok.kind hk hc hcell fin hcd) hd
theorem ao {i j pos}:PE X (.Constant (.int i) j pos) (tC (.int i)):=fun _ _ _ H _ I h=>wpAny_Constant_int ⟨.int i,H,I.tok _,⟨_,rfl⟩,h⟩
theorem kh {b j pos}:PE X (.Constant (.bool b) j pos) (tC (.bl b)):=fun _ _ _ H _ I h=>Constant_bool ⟨.bl b,H,I,rfl,h⟩
theorem fD {j pos}:PE X (.Constant .none j pos) (tC .non):=fun _ _ _ H _ I h=>Constant_none ⟨.non,H,I,rfl,h⟩
theorem aM {x j pos}:PE X (.Constant (.str x) j pos) (tC (.str x)):=fun _ _ _ H _ I h=>Calls.Constant_str ⟨.str x,H,I.tok _,⟨_,rfl⟩,h⟩

def Gl (X:Cx) (x:Str):Prop:=X.env.kindOf x=some .globalImplicit
theorem kM {E:Value->Shared->Prop}{σ:St}{H:Hp}{pos:Pos} (I:Inv X pins σ H s) (hg:Gl X x) (hm:X.mg x=some u) (h:Q u s)
  (hd:(x==("__debug__":Str))=false:=by decide):wpAny (model X.prog X.w) X.A (eval (.Name x pos) X.env) Q E s :=
 Calls.Name_function_global I.ok.kind hg (Calls.loadGlobal_global (by rw[I.ok.glob];exact I.mod.glob.keeps I.bk) hm h) hd
theorem nL {E:Value->Shared->Prop}{σ:St}{H:Hp}{pos:Pos} (I:Inv X pins σ H s) (hg:Gl X x) (hm:X.mg x=none) (hv:bootBuiltins x=some u) (h:Q u s)
  (hn:x≠"__name__":=by decide) (hd:(x==("__debug__":Str))=false:=by decide):wpAny (model X.prog X.w) X.A (eval (.Name x pos) X.env) Q E s:=by
 obtain⟨mb,h1,h2⟩:=I.mod.blt
 exact Calls.Name_function_global I.ok.kind hg (Calls.loadGlobal_builtin (by rw[I.ok.glob];exact I.mod.glob.keeps I.bk) hm (by rw[I.ok.blt];exact h1.keeps I.bk) ((h2 x hn).trans hv) h) hd
theorem Hv {v:V} (hg:Gl X x) (hm:X.mg x=some u) (r:RelV v u) (hd:(x==("__debug__":Str))=false:=by decide):PE X (.Name x pos) (tC v) :=
 fun _ _ _ H _ I h=>kM I hg hm ⟨v,H,I,r,h⟩ hd
theorem Hs {v:V} (hg:Gl X x) (hm:X.mg x=none) (hv:bootBuiltins x=some u) (r:RelV v u) (hn:x≠"__name__":=by decide) (hd:(x==("__debug__":Str))=false:=by decide):PE X (.Name x pos) (tC v) :=
 fun _ _ _ H _ I h=>nL I hg hm hv ⟨v,H,I,r,h⟩ hn hd

variable {a b:Expr}{ta tb:TE}{pos:Pos}
def tB (t:TE):TT:=fun σ H Q=>t σ H fun x H1=>∃ c,x=.bl c/\Q c H1
theorem cq {t:TE} (h:PE X e t) (he:∀ whole,isTrue e X.env whole=(do let v ←whole;standAt e.pos;holding [v] (truthy v)):=by intro _;rfl):PT X e (tB t):=by
 intro pins s σ H Q I hw
 refine isTrue_plain (thn (h pins s σ H _ I hw) fun v s1 ⟨x,H1,I1,r1,q1⟩=>?_) (he _)
 obtain⟨d,rfl,q⟩:=q1
 cases r1
 exact fT ⟨H1,I1,q⟩

variable {tA tB':TT}{rest:List Expr}
def Lv (t u:TT):TT:=fun σ H Q=>t σ H fun c H1=>if c=true then u σ H1 Q else Q false H1
def tOr (t u:TT):TT:=fun σ H Q=>t σ H fun c H1=>if c=true then Q true H1 else u σ H1 Q
def Ly (t:TT):TT:=fun σ H Q=>t σ H fun c H1=>Q (!c) H1
theorem Bd (ha:PT X a tA):PW X (.BoolOp .And [a] pos) tA:=by
 intro wh pins s σ H Q I h
 refine isTrue_and (thn (ha pins s σ H Q I h) fun c s1 e=>?_)
 cases c with
 | true=>exact isTrue_and_nil e
 | false=>exact e
theorem fF (ha:PT X a tA):PW X (.BoolOp .Or [a] pos) tA:=by
 intro wh pins s σ H Q I h
 refine isTrue_or (thn (ha pins s σ H Q I h) fun c s1 e=>?_)
 cases c with
 | false=>exact isTrue_or_nil e
 | true=>exact e
theorem zJ (ha:PT X a tA) (hb:PW X (.BoolOp .And (b::rest) pos) tB'):PW X (.BoolOp .And (a::b::rest) pos) (Lv tA tB'):=by
 intro wh pins s σ H Q I h
 refine isTrue_and (thn (ha pins s σ H _ I h) fun c s1 ⟨H1,I1,q1⟩=>?_)
 cases c with
 | true=>exact hb wh pins s1 σ H1 Q I1 q1
 | false=>exact⟨H1,I1,q1⟩
theorem gT (ha:PT X a tA) (hb:PW X (.BoolOp .Or (b::rest) pos) tB'):PW X (.BoolOp .Or (a::b::rest) pos) (tOr tA tB'):=by
 intro wh pins s σ H Q I h
 refine isTrue_or (thn (ha pins s σ H _ I h) fun c s1 ⟨H1,I1,q1⟩=>?_)
 cases c with
 | true=>exact⟨H1,I1,q1⟩
 | false=>exact hb wh pins s1 σ H1 Q I1 q1
theorem cF (ha:PT X a tA):PT X (.UnaryOp .Not a pos) (Ly tA):=by
 intro pins s σ H Q I h
 exact isTrue_not (ha pins s σ H (fun c H1=>Q (!c) H1) I h)
def IL (ta tb:TE):TE:=fun σ H Q=>ta σ H fun x H1=>∃ c,x=.bl c/\if c=true then tb σ H1 Q else Q (.bl false) H1
def Lz (ta tb:TE):TE:=fun σ H Q=>ta σ H fun x H1=>∃ c,x=.bl c/\if c=true then Q (.bl true) H1 else tb σ H1 Q
def IT (ta:TE):TE:=fun σ H Q=>ta σ H fun x H1=>∃ c,x=.bl c/\Q (.bl (!c)) H1
theorem lU {op}{t:TE} (h:PE X a t):PE X (.BoolOp op [a] pos) t:=fun pins s σ H Q I hw=>BoolOp_one (h pins s σ H Q I hw)
theorem nQ (ha:PE X a ta) (hb:PE X (.BoolOp .And (b::rest) pos) tb):PE X (.BoolOp .And (a::b::rest) pos) (IL ta tb):=by
 intro pins s σ H Q I h
 refine BoolOp_and (thn (ha pins s σ H _ I h) fun v s1 ⟨x,H1,I1,r1,q1⟩=>?_)
 obtain⟨c,rfl,q1⟩:=q1
 cases r1
 refine fT ?_
 cases c with
 | true=>exact hb pins s1 σ H1 Q I1 q1
 | false=>exact⟨.bl false,H1,I1,rfl,q1⟩
theorem Lh (ha:PE X a ta) (hb:PE X (.BoolOp .Or (b::rest) pos) tb):PE X (.BoolOp .Or (a::b::rest) pos) (Lz ta tb):=by
 intro pins s σ H Q I h
 refine BoolOp_or (thn (ha pins s σ H _ I h) fun v s1 ⟨x,H1,I1,r1,q1⟩=>?_)
 obtain⟨c,rfl,q1⟩:=q1
 cases r1
 refine fT ?_
 cases c with
 | false=>exact hb pins s1 σ H1 Q I1 q1
 | true=>exact⟨.bl true,H1,I1,rfl,q1⟩
theorem Ke (ha:PE X a ta):PE X (.UnaryOp .Not a pos) (IT ta):=by
 intro pins s σ H Q I h
 refine UnaryOp_ (thn (ha pins s σ H _ I h) fun v s1 ⟨x,H1,I1,r1,q1⟩=>?_)
 obtain⟨c,rfl,q1⟩:=q1
 cases r1
 exact not_of (fT ⟨.bl (!c),H1,I1,rfl,q1⟩)
def tIf (t:TT) (ta tb:TE):TE:=fun σ H Q=>t σ H fun c H1=>if c=true then ta σ H1 Q else tb σ H1 Q
theorem xM (hc:PT X c tA) (ha:PE X a ta) (hb:PE X b tb):PE X (.IfExp c a b pos) (tIf tA ta tb):=by
 intro pins s σ H Q I h
 refine wpAny_IfExp (thn (hc pins s σ H _ I h) fun d s1 ⟨H1,I1,q1⟩=>?_)
 cases d with
 | true=>exact ha pins s1 σ H1 Q I1 q1
 | false=>exact hb pins s1 σ H1 Q I1 q1
end
end
section

def SqL (K:PySem.W.Frag) (H:Hp) (a:Addr) (xs:List V):Prop :=
 Rd H a (.lst xs) ∨
  ∃ (o:Obj) (its:Array Value) (n:Nat),K.lookup a=some o/\o.cls=.type "list"/\o.dict=none/\o.data=.seq its n/\its.size<=sizeLine/\Vals xs its.toList
def SqT (K:PySem.W.Frag) (H:Hp) (a:Addr) (xs:List V):Prop :=
 Rd H a (.tup xs) ∨
  ∃ (o:Obj) (its:Array Value) (n:Nat),K.lookup a=some o/\o.cls=.type "tuple"/\o.data=.seq its n/\its.size<=sizeLine/\Vals xs its.toList
def LP:Value->Option V
 | .none=>some .non
 | .bool b=>some (.bl b)
 | .int i _=>some (.int i)
 | .str x _=>some (.str x)
 | .bytes b _=>some (.byt b)
 | .float b _=>some (.flt b)
 | .ref a=>some (.ref a)
 | .type n=>some (.ty n)
 | _=>none
theorem RelV.abs {x:V} (r:RelV x u):LP u=some x:=by
 cases x with
 | non=>cases r;rfl
 | bl _=>cases r;rfl
 | int _=>obtain⟨t,rfl⟩:=r;rfl
 | str _=>obtain⟨t,rfl⟩:=r;rfl
 | byt _=>obtain⟨t,rfl⟩:=r;rfl
 | flt _=>obtain⟨t,rfl⟩:=r;rfl
 | ref _=>cases r;rfl
 | ty _=>cases r;rfl
theorem RelV.inj {x y:V}{u:Value} (r:RelV x u) (q:RelV y u):x=y:=Option.some.inj (r.abs.symm.trans q.abs)
theorem Vals.inj:∀ {xs ys:List V}{us:List Value},Vals xs us->Vals ys us->xs=ys
 | _,_,_,.nil,.nil=>rfl
 | _,_,_,.cons r t,.cons r' t'=>by rw[r.inj r',Vals.inj t t']
section
variable {X:Cx}{pins:List (Addr×Obj)}{σ:St}{H:Hp}{s:Shared}{a:Addr}{xs ys:List V}
theorem SqL.of (h:H a=some (.lst xs)):SqL K H a xs:=.inl (.inl h)
theorem SqT.of (h:H a=some (.tup xs)):SqT K H a xs:=.inl (.inl h)
theorem Inv.list (I:Inv X pins σ H s) (h:SqL X.K H a xs):∃ its:List Value,Vals xs its/\PlainL s.heap a its.toArray/\xs.length<=sizeLine:=by
 rcases h with h | ⟨o,its,n,hk,hc,hd,hs,hz,r⟩
 ·obtain⟨z,its,n,r,e⟩:=h.ok I.hok
  exact⟨its,r,⟨_,n,e,rfl,rfl,rfl⟩,z⟩
 ·refine⟨its.toList,r,⟨o,n,I.kIn a o hk,hc,hd,by simpa using hs⟩,?_⟩
  have e:=r.length
  simp only[cP] at e
  omega
theorem Inv.tuple (I:Inv X pins σ H s) (h:SqT X.K H a xs):∃ its:List Value,Vals xs its/\IsTup s.heap a its.toArray/\xs.length<=sizeLine:=by
 rcases h with h | ⟨o,its,n,hk,hc,hs,hz,r⟩
 ·obtain⟨z,its,r,p⟩:=h.ok I.hok
  exact⟨its,r,p,z⟩
 ·refine⟨its.toList,r,⟨o,I.kIn a o hk,hc,n,by simpa using hs⟩,?_⟩
  have e:=r.length
  simp only[cP] at e
  omega
theorem Inv.oJ (I:Inv X pins σ H s) (h:SqL X.K H a xs) (h':SqL X.K H a ys):xs=ys:=by
 obtain⟨its,r,⟨o,n,e,_,_,d⟩,_⟩:=I.list h
 obtain⟨its',r',⟨o',n',e',_,_,d'⟩,_⟩:=I.list h'
 rw[e] at e';cases e'
 rw[d] at d'
 injection d' with d1 _
 have:its=its':=by simpa using bu Array.toList d1
 subst this
 exact r.inj r'
theorem Inv.Dn (I:Inv X pins σ H s) (h:SqT X.K H a xs) (h':SqT X.K H a ys):xs=ys:=by
 obtain⟨its,r,⟨o,e,_,n,d⟩,_⟩:=I.tuple h
 obtain⟨its',r',⟨o',e',_,n',d'⟩,_⟩:=I.tuple h'
 rw[e] at e';cases e'
 rw[d] at d'
 injection d' with d1 _
 have:its=its':=by simpa using bu Array.toList d1
 subst this
 exact r.inj r'
end

section
variable {X:Cx}{pins:List (Addr×Obj)}{σ:St}{H:Hp}{s:Shared}{E:Value->Shared->Prop}
end

section
variable {X:Cx}{st:Stmt}{rest:List Stmt}{t u:TS}{e:Expr}{te:TE}{pos:Pos}
def FQ:TS:=fun D σ H=>D.nx σ H
def FR (t u:TS):TS:=fun D σ H=>t { D with nx:=u D } σ H
theorem aU:PSs X [] FQ:=fun _ _ σ H _ I h=>wpAny_execs_nil ⟨σ,H,I,h⟩
theorem af (h1:PS X st t) (h2:PSs X rest u):PSs X (st::rest) (FR t u):=by
 intro pins s σ H D I h
 refine wpAny_execs_cons (thn (h1 pins s σ H { D with nx:=u D } I h) fun f s1 q=>?_)
 cases f with
 | next =>
  obtain⟨σ',H',I',q⟩:=q
  exact h2 pins s1 σ' H' D I' q
 | ret v=>exact q
 | brk=>exact q
 | cont=>exact q
theorem ai (h1:PS X st t):PSs X [st] t:=by
 intro pins s σ H D I h
 refine wpAny_execs_cons (thn (h1 pins s σ H D I h) fun f s1 q=>?_)
 cases f with
 | next=>exact wpAny_execs_nil q
 | ret v=>exact q
 | brk=>exact q
 | cont=>exact q
theorem Inv.quiet {σ:St}{H:Hp} (I:Inv X pins σ H s):interactive X.env=false:=by simp [interactive,I.ok.kind]
def IM (te:TE):TS:=fun D σ H=>te σ H fun _ H1=>D.nx σ H1
theorem dM (he:PE X e te) (hs:swapsWith e none pos.line X.env=pure false:=by rfl):PS X (.Expr e pos) (IM te):=by
 intro pins s σ H D I h
 exact wpAny_Expr_any (thn (he pins s σ H _ I h) fun v s1 ⟨x,H1,I1,r1,q1⟩=>⟨σ,H1,I1,q1⟩) I.quiet hs
def Kv (te:TE):TS:=fun D σ H=>te σ H D.rt
theorem aF (he:PE X e te):PS X (.Return (some e) pos) (Kv te):=by
 intro pins s σ H D I h
 exact wpAny_Return_some (thn (he pins s σ H _ I h) fun v s1 ⟨x,H1,I1,r1,q1⟩=>⟨x,σ,H1,I1,r1,q1⟩)
def Ku (c:TT) (t u:TS):TS:=fun D σ H=>c σ H fun b H1=>if b=true then t D σ H1 else u D σ H1
theorem bH {a b:List Stmt}{tc:TT} (hc:PT X c tc) (ha:PSs X a t) (hb:PSs X b u):PS X (.If c a b pos) (Ku tc t u):=by
 intro pins s σ H D I h
 refine wpAny_If (thn (hc pins s σ H _ I h) fun d s1 ⟨H1,I1,q1⟩=>?_)
 cases d with
 | true=>exact ha pins s1 σ H1 D I1 q1
 | false=>exact hb pins s1 σ H1 D I1 q1
end

abbrev TG:=V->St->Hp->(St->Hp->Prop)->Prop
abbrev TGs:=List V->St->Hp->(St->Hp->Prop)->Prop
def PG (X:Cx) (target:Expr) (t:TG):Prop :=
 ∀ (pins:List (Addr×Obj)) (s:Shared) (σ:St) (H:Hp) (v:V) (u:Value) (Q:St->Hp->Prop),Inv X pins σ H s->RelV v u->t v σ H Q →
  wpAny (model X.prog X.w) X.A (assign target X.env u) (fun _ s'=>∃ σ' H',Inv X pins σ' H' s'/\Q σ' H') X.xe s
def PGs (X:Cx) (ts:List Expr) (t:TGs):Prop :=
 ∀ (pins:List (Addr×Obj)) (s:Shared) (σ:St) (H:Hp) (vs:List V) (us:List Value) (Q:St->Hp->Prop),Inv X pins σ H s->Vals vs us->t vs σ H Q →
  wpAny (model X.prog X.w) X.A (assignInOrder ((assignEach ts X.env).map (·.2)) us) (fun _ s'=>∃ σ' H',Inv X pins σ' H' s'/\Q σ' H') X.xe s
abbrev Gd:=V->V->V->Hp->(Hp->Prop)->Prop
def Jc (X:Cx) (t:Gd):Prop :=
 ∀ (pins:List (Addr×Obj)) (s:Shared) (σ:St) (H:Hp) (o i v:V) (ov iv u:Value) (Q:Hp->Prop),Inv X pins σ H s->RelV o ov->RelV i iv->RelV v u->t o i v H Q →
  wpAny (model X.prog X.w) X.A (setItem ov iv u) (fun _ s'=>∃ H',Inv X pins σ H' s'/\Q H') X.xe s
section
variable {X:Cx}{pos:Pos}
def gf (i:Nat):TG:=fun v σ H Q=>Q (σ.set i (some v)) H
theorem AX (hN:X.N.Nodup) (hi:X.N[i]?=some x) (hx:Loc X.env.scope x) (hf:X.fn x=true∨X.env.scope.names.lookup x=some .local:=by first | exact .inl rfl | exact .inr rfl | assumption):PG X (.Name x pos) (gf i):=by
 intro pins s σ H v u Q I r h
 exact wpAny_assign_Name (pE I hN hi hx r (fun s' I'=>⟨_,H,I',h⟩) hf)
def Eo:TGs:=fun vs σ H Q=>vs=[]/\Q σ H
def qV (t:TG) (u:TGs):TGs:=fun vs σ H Q=>∃ v r,vs=v::r/\t v σ H fun σ' H'=>u r σ' H' Q
theorem oT:PGs X [] Eo:=by
 intro pins s σ H vs us Q I r h
 obtain⟨e,h⟩:=h
 subst e
 cases r
 exact assignInOrder_nil ⟨σ,H,I,h⟩
theorem fH {t:TG}{u:TGs} (h1:PG X e t) (h2:PGs X es u)
  (hs:(assignEach (e::es) X.env).map (·.2)=assign e X.env::(assignEach es X.env).map (·.2):=by rfl):PGs X (e::es) (qV t u):=by
 intro pins s σ H vs us Q I r h
 obtain⟨v,vr,e1,h⟩:=h
 subst e1
 cases r with
 | cons r rr =>
  rw[hs]
  refine assignInOrder_cons (thn (h1 pins s σ H _ _ _ I r h) fun _ s1 ⟨σ1,H1,I1,q1⟩=>?_)
  exact h2 pins s1 σ1 H1 _ _ Q I1 rr q1
def Ep (K:PySem.W.Frag) (n:Nat) (t:TGs):TG:=fun v σ H Q=>∃ a xs,v=.ref a/\SqT K H a xs/\xs.length=n/\t xs σ H Q
theorem Kg {k:Nat}{t:TGs}{n:Nat} (hc:X.calm=true) (h:PGs X es t)
  (hn:(assignEach es X.env).length=n:=by rfl) (hst:(assignEach es X.env).findIdx? (·.1)=none:=by rfl):PG X (.Tuple es k pos) (Ep X.K n t):=by
 intro pins s σ H v u Q I r hw
 obtain⟨a,xs,e1,hq,hl,hw⟩:=hw
 subst e1
 cases r
 obtain⟨its,rv,ht,hz⟩:=I.tuple hq
 refine assign_Tuple_tuple (I.ok.hd hc) ht (by simp [hn,←hl,rv.length]) hst fun h' hx=>?_
 have I1:Inv X pins σ H { s with heap:=h' }:=I.kept (t':=s.toks) fun b o e=>hx b o (aS (aB e)) e
 exact h pins _ σ H xs _ Q I1 (by simpa using rv) hw
def KP (to ti:TE) (t:Gd):TG:=fun v σ H Q=>to σ H fun o H1=>ti σ H1 fun i H2=>t o i v H2 fun H3=>Q σ H3
theorem Kf {o i:Expr}{to ti:TE}{t:Gd} (ho:PE X o to) (hi:PE X i ti) (hs:Jc X t)
  (ha:∀ v,assign (.Subscript o i pos) X.env v=(do
   let ov ←holding [v] (eval o X.env)
   let iv ←holding [v,ov] (eval i X.env)
   standAt pos
   holding [v,ov,iv] (setItem ov iv v)
   release [v,ov,iv] []):=by intro _;rfl):PG X (.Subscript o i pos) (KP to ti t):=by
 intro pins s σ H v u Q I r h
 rw[ha]
 refine aa (dE (thn (ho pins s σ H _ I h) fun ov s1 ⟨x,H1,I1,r1,q1⟩=>?_))
 refine aa (dE (thn (hi pins s1 σ H1 _ I1 q1) fun iv s2 ⟨y,H2,I2,r2,q2⟩=>?_))
 refine aa (kH (aa (dE (thn (hs pins s2 σ H2 x y v ov iv u _ I2 r1 r2 r q2) fun _ s3 ⟨H3,I3,q3⟩=>?_))))
 exact wpAny_release ⟨σ,H3,I3,q3⟩
def Dl (te:TE) (g:TG):TS:=fun D σ H=>te σ H fun x H1=>g x σ H1 D.nx
theorem Kk {tg e:Expr}{te:TE}{g:TG} (he:PE X e te) (hg:PG X tg g) (hs:swapsWithSole [tg] e pos.line X.env=pure false:=by rfl) (hw:swappedStores [tg] e X.env=pure none:=by rfl)
  (h1:(assignEach [tg] X.env).map (·.2)=[assign tg X.env]:=by rfl):PS X (.Assign [tg] e pos) (Dl te g):=by
 intro pins s σ H D I h
 refine wpAny_Assign_stores (thn (he pins s σ H _ I h) fun v s1 ⟨x,H1,I1,r1,q1⟩=>?_) hs hw
 rw[h1]
 exact thn (hg pins s1 σ H1 x v _ I1 r1 q1) fun _ s2 q=>q
theorem Fs {te:TE}{pos':Pos} (hN:X.N.Nodup) (hi:X.N[i]?=some x) (hx:Loc X.env.scope x) (he:PE X e te) (hs:swapsWith e (some (.Name x pos')) pos.line X.env=pure false:=by rfl) (hf:X.fn x=true∨X.env.scope.names.lookup x=some .local:=by first | exact .inl rfl | exact .inr rfl | assumption) :
  PS X (.Assign [.Name x pos'] e pos) (Dl te (gf i)):=by
 intro pins s σ H D I h
 refine wpAny_Assign_Name (thn (he pins s σ H _ I h) fun v s1 ⟨y,H1,I1,r1,q1⟩=>?_) hs
 exact pE I1 hN hi hx r1 (fun s2 I2=>⟨_,H1,I2,q1⟩) hf
def L1 (i j:Nat) (ta:TA):TS:=fun D σ H=>ta σ H fun vs H1=>∃ v w,vs=[v,w]/\D.nx ((σ.set i (some v)).set j (some w)) H1
theorem Km {i j:Nat}{x y:Str}{a b:Expr}{ta:TA}{px py pt:Pos}{kt k2 pt2} (hc:X.calm=true) (hN:X.N.Nodup) (hi:X.N[i]?=some x) (hj:X.N[j]?=some y) (hij:i≠j)
  (hx:X.env.scope.names.lookup x=some .local) (hy:X.env.scope.names.lookup y=some .local) (ha:PA X [a,b] ta)
  (hw:swappedStores [.Tuple [.Name x px,.Name y py] kt pt] (.Tuple [a,b] k2 pt2) X.env=pure (some [x,y]))
  (hs:swapsWithSole [.Tuple [.Name x px,.Name y py] kt pt] (.Tuple [a,b] k2 pt2) pos.line X.env=pure false:=by rfl) :
  PS X (.Assign [.Tuple [.Name x px,.Name y py] kt pt] (.Tuple [a,b] k2 pt2) pos) (L1 i j ta):=by
 intro pins s σ H D I h
 rw[exec_Assign_arm]
 refine aa (kH ?_)
 rw[hs]
 refine aa (ah ?_)
 rw[if_neg (by decide)]
 refine aa (Tuple_ (thn (ha _ pins s σ H _ I h) fun us s1 ⟨vs,H1,I1,r1,q1⟩=>?_))
 obtain⟨v,w,e1,q1⟩:=q1
 subst e1
 obtain⟨u1,u2,rfl,rv,rw'⟩:∃ u1 u2,us=[u1,u2]/\RelV v u1/\RelV w u2:=by
  cases r1 with
  | cons p q =>
   cases q with
   | cons p' q' =>
    cases q'
    exact⟨_,_,rfl,p,p'⟩
 refine fS ?_ (by show 2<=sizeLine;decide)
 have I2:Inv X pins σ H1 { s1 with heap:=s1.heap.push { cls:=.type "tuple",data:=.seq [u1,u2].toArray } }:=I1.kept (t':=s1.toks) fun b o e=>az _ e
 rw[hw]
 refine aa (ah ?_)
 show wpAny (model X.prog X.w) X.A (do rule "assign.swapped-stores";let items ←unpackItems (.ref s1.heap.objs.size) 2 none;assignInOrder [fun v=>bindName X.env y v,fun v=>bindName X.env x v] items.reverse;pure Flow.next) _ _ _
 refine aa (wpAny_rule (aa (unpackItems_tuple (items:=#[u1,u2]) (I.ok.hd hc) (IsTup.new s1.heap _) fun h' hx'=>?_)))
 have I3:=I2.kept (h':=h') (t':=s1.toks) fun b o e=>hx' b o (aS (aB e)) e
 show wpAny _ _ (assignInOrder [fun v=>bindName X.env y v,fun v=>bindName X.env x v] [u2,u1] >>= fun _=>pure Flow.next) _ _ _
 refine aa (assignInOrder_cons (wpAny_bindName (pE I3 hN hj (.inl hy) rw' (fun s2 I4=>?_) (.inr hy))))
 refine assignInOrder_cons (wpAny_bindName (pE I4 hN hi (.inl hx) rv (fun s3 I5=>assignInOrder_nil (ah ?_)) (.inr hx)))
 rw[List.set_comm _ _ (bt hij)] at I5
 exact⟨_,H1,I5,q1⟩
end

section
variable {X:Cx}{pos:Pos}
def FT (c:TT) (tb:TS):TS:=fun D σ H=>∃ W:Nat->St->Hp->Prop,(∃ m,W m σ H)/\∀ m σ H,W m σ H →
 c σ H fun b H1=>if b=true then ∃ N:St->Hp->Prop,(∀ σ' H',N σ' H'->∃ m',m'<m/\W m' σ' H')/\tb { D with nx:=N,ct:=N,bk:=D.nx } σ H1 else D.nx σ H1
theorem tJ {tc:TT}{tb:TS} (hp:PassesOwn (model X.prog X.w) X.A X.env X.xe) (hc:PT X c tc) (hb:PSs X body tb):PS X (.While c body [] pos) (FT tc tb):=by
 intro pins s σ H D I h
 obtain⟨W,⟨m0,w0⟩,turn⟩:=h
 refine wpAny_While (codeAny_whileLoop (fun n s'=>∃ σ' H',Inv X pins σ' H' s'/\W n σ' H') ?_ m0 ⟨σ,H,I,w0⟩)
 rintro n s1 ⟨σ1,H1,I1,w1⟩
 refine jw hp (thn (hc pins s1 σ1 H1 _ I1 (turn n σ1 H1 w1)) fun b s2 ⟨H2,I2,q2⟩=>?_)
 cases b with
 | true =>
  obtain⟨N,hN,q2⟩:=q2
  rw[if_pos rfl]
  refine jw hp (thn (hb pins s2 σ1 H2 _ I2 q2) fun f s3 q3=>?_)
  cases f with
  | next =>
   obtain⟨σ3,H3,I3,n3⟩:=q3
   obtain⟨m',hm,w3⟩:=hN σ3 H3 n3
   exact⟨m',hm,σ3,H3,I3,w3⟩
  | cont =>
   obtain⟨σ3,H3,I3,n3⟩:=q3
   obtain⟨m',hm,w3⟩:=hN σ3 H3 n3
   exact⟨m',hm,σ3,H3,I3,w3⟩
  | brk=>exact q3
  | ret v=>exact q3
 | false =>
  rw[if_neg bE]
  exact wpAny_execs_nil ⟨σ1,H2,I2,q2⟩
end

structure It where
 go:Nat->Hp->Prop
 yld:Nat->Hp->V->Hp->Prop
 stop:Nat->Hp->Prop
def rF (X:Cx) (pins:List (Addr×Obj)) (H:Hp) (b:Addr):Prop :=
 H b=none/\b≠X.env.locals/\b∉X.fs/\(b∈X.ex∨X.s₀.heap.objs.size<=b)/\(∀ x c,X.env.cells.lookup x=some c->c≠b)/\∀ p∈X.pn++pins,p.1≠b
theorem Inv.vz {X:Cx}{σ:St}{H H':Hp} (I:Inv X pins σ H s) (hb:s.heap.objs.size<=b) (hn:H' b=none):rF X pins H' b:=by
 refine⟨hn,gO (bB I.lt hb),I.LY hb,.inr (aK I.sz hb),fun x c e z=>?_,fun p hp z=>?_⟩
 ·obtain⟨v,q⟩:=I.cell x c e
  exact absurd (bB q.lt (by rw[z];exact hb)) (eL _)
 ·exact absurd (bB (aB (I.pin p hp).1) (by rw[z];exact hb)) (eL _)
structure Turn (P:Program) (w:World) (K:PySem.W.Frag) (tg:Expr) (J:It) (fp:List Addr) (it:Addr) (tn:Nat->Heap->Prop):Prop where
 mem:it∈fp
 obj:∀ i h,tn i h->∀ b∈fp,∃ o,h.get? b=some o/\∀ v,o.data≠.cell v
 keep:∀ i h h',tn i h->(∀ b∈fp,∀ o,h.get? b=some o->h'.get? b=some o)->tn i h'
 item:∀ (X:Cx),X.prog=P->X.w=w->X.K=K->X.calm=true->∀ (i:Nat) (pins:List (Addr×Obj)) (s:Shared) (σ:St) (H:Hp) (E:Value->Shared->Prop),Inv X pins σ H s->(∀ b∈fp,rF X pins H b)->tn i s.heap->J.go i H →
  wpAny (model P w) X.A (pyNext (.ref it)) (fun r s1=>∃ u,r=some u ∧
   wpAny (model P w) X.A (letOwnedTupleGo tg (.ref it) u) (fun _ s2=>∃ x H',Inv X pins σ H' s2/\RelV x u/\J.yld i H x H'/\tn (i+1) s2.heap/\∀ b∈fp,H' b=none) E s1) E s
 done:∀ (X:Cx),X.prog=P->X.w=w->X.K=K->X.calm=true->∀ (i:Nat) (pins:List (Addr×Obj)) (s:Shared) (σ:St) (H:Hp) (E:Value->Shared->Prop),Inv X pins σ H s->(∀ b∈fp,rF X pins H b)->tn i s.heap->J.stop i H →
  wpAny (model P w) X.A (pyNext (.ref it)) (fun r s1=>r=none/\Inv X pins σ H s1) E s
 self:∀ (A:Around) (i:Nat) (s:Shared) (Q:Value->Shared->Prop) (E:Value->Shared->Prop),tn i s.heap->Q (.ref it) s->wpAny (model P w) A (pyIter (.ref it)) Q E s
abbrev TI:=St->Hp->(It->Hp->Prop)->Prop
def PIE (X:Cx) (pins:List (Addr×Obj)) (σ:St) (tg:Expr) (R:It->Hp->Prop) (itv:Value) (s2:Shared):Prop :=
 ∃ (it:Addr) (fp:List Addr) (tn:Nat->Heap->Prop) (J:It) (H':Hp),itv=.ref it/\Inv X pins σ H' s2/\Turn X.prog X.w X.K tg J fp it tn/\tn 0 s2.heap/\(∀ b∈fp,rF X pins H' b)/\R J H'
def PI (X:Cx) (tg iter:Expr) (wi:TI):Prop :=
 ∀ (pins:List (Addr×Obj)) (s:Shared) (σ:St) (H:Hp) (R:It->Hp->Prop),Inv X pins σ H s->wi σ H R →
  wpAny (model X.prog X.w) X.A (eval iter X.env) (fun v s1=>wpAny (model X.prog X.w) X.A (pyIter v) (PIE X pins σ tg R) X.xe s1) X.xe s

theorem xi {M:Model}{A:Around}{E:Value->Shared->Prop}{tg:Expr}{u:Value}{n:String}{vs:Array Value}{Q:Unit->Shared->Prop} (ho:s.heap.get? it=some o) (hc:o.cls=.type n) (hd:o.data=.fields vs)
  (hn:["enumerate","zip","dict_itemiterator","dict_reverseitemiterator","odict_iterator","itertools.zip_longest","itertools.pairwise"].contains n=false) (hQ:Q () s):wpAny M A (letOwnedTupleGo tg (.ref it) u) Q E s:=by
 unfold letOwnedTupleGo
 cases tg<;>first
  | exact ah hQ
  | (cases u<;>first
    | exact ah hQ
    | (refine aa (wpAny_load ho ?_)
       rw[hc,hd]
       show wpAny M A (if (["enumerate","zip","dict_itemiterator","dict_reverseitemiterator","odict_iterator","itertools.zip_longest","itertools.pairwise"].contains n&&vs[0]?==some (rawInt _))=true then _ else _) Q E s
       rw[if_neg (by intro h;rw[hn,fW] at h;cases h)]
       exact ah hQ))

def Itl (K:PySem.W.Frag) (a:Addr):It :=
 ⟨fun i H=>∃ xs x,SqL K H a xs/\xs[i]?=some x,fun i H x H'=>H'=H/\∀ xs,SqL K H a xs->xs[i]?=some x,fun i H=>∃ xs,SqL K H a xs/\xs.length<=i⟩
def Itt (K:PySem.W.Frag) (a:Addr):It :=
 ⟨fun i H=>∃ xs x,SqT K H a xs/\xs[i]?=some x,fun i H x H'=>H'=H/\∀ xs,SqT K H a xs->xs[i]?=some x,fun i H=>∃ xs,SqT K H a xs/\xs.length<=i⟩
def Itr (lo:Int) (n:Nat):It:=⟨fun i _=>i<n,fun i H x H'=>H'=H/\x=.int (lo+i),fun i _=>n<=i⟩
theorem Dq (a it:Addr):Turn P w K tg (Itl K a) [it] it (fun i h=>h.IsListIter it a i) where
 mem:=by simp
 obj:=fun i h st b hb=>by
  have e:b=it:=by simpa using hb
  subst e
  obtain⟨o,e,c,d⟩:=st
  exact⟨o,e,fun v z=>by rw[d] at z;cases z⟩
 keep:=fun i h h' st k=>st.at fun o e=>k it (by simp) o e
 item:=by
  intro X hP hw hK hc i pins s σ H E I hf st hg
  subst hP hw hK
  obtain⟨xs,x,hq,hx⟩:=hg
  obtain⟨its,rv,p,hz⟩:=I.list hq
  obtain⟨u,hu,ru⟩:=rv.get hx
  obtain⟨f0,f1,f2,f3,f4,f5⟩:=hf it (by simp)
  refine wpAny_pyNext_list_item st p.isList (x:=u) (by simpa using hu) fun h' st' sb=>?_
  have I1:Inv X pins σ H { s with heap:=h' }:=I.turned (t':=s.toks) (fun b o hb e=>(sb.2 b hb).trans e) f0 f1 f3 f4 f5
  obtain⟨o,e,c,d⟩:=id st'
  exact⟨u,rfl,xi (s:={ s with heap:=h' }) e c d (by decide) ⟨x,H,I1,ru,⟨rfl,fun ys hy=>by rw[I.oJ hy hq];exact hx⟩,st',fun b hb=>(hf b hb).1⟩⟩
 done:=by
  intro X hP hw hK hc i pins s σ H E I hf st hg
  subst hP hw hK
  obtain⟨xs,hq,hx⟩:=hg
  obtain⟨its,rv,p,hz⟩:=I.list hq
  obtain⟨f0,f1,f2,f3,f4,f5⟩:=hf it (by simp)
  have hl:=rv.length
  exact wpAny_pyNext_list_end (I.ok.hd hc) st p.isList (by simp;omega) fun h' eb=>⟨rfl,I.turned (t':=s.toks) (fun b o hb e=>eb b o hb e) f0 f1 f3 f4 f5⟩
 self:=fun _ _ _ _ _ st h=>wpAny_pyIter_listiter st h
theorem Ah (a it:Addr):Turn P w K tg (Itt K a) [it] it (fun i h=>h.IsTupleIter it a i) where
 mem:=by simp
 obj:=fun i h st b hb=>by
  have e:b=it:=by simpa using hb
  subst e
  obtain⟨o,e,c,d⟩:=st
  exact⟨o,e,fun v z=>by rw[d] at z;cases z⟩
 keep:=fun i h h' st k=>st.at fun o e=>k it (by simp) o e
 item:=by
  intro X hP hw hK hc i pins s σ H E I hf st hg
  subst hP hw hK
  obtain⟨xs,x,hq,hx⟩:=hg
  obtain⟨its,rv,p,hz⟩:=I.tuple hq
  obtain⟨u,hu,ru⟩:=rv.get hx
  obtain⟨f0,f1,f2,f3,f4,f5⟩:=hf it (by simp)
  refine wpAny_pyNext_tuple_item st (show s.heap.IsTuple a its.toArray from p) (x:=u) (by simpa using hu) fun h' st' sb=>?_
  have I1:Inv X pins σ H { s with heap:=h' }:=I.turned (t':=s.toks) (fun b o hb e=>(sb.2 b hb).trans e) f0 f1 f3 f4 f5
  obtain⟨o,e,c,d⟩:=id st'
  exact⟨u,rfl,xi (s:={ s with heap:=h' }) e c d (by decide) ⟨x,H,I1,ru,⟨rfl,fun ys hy=>by rw[I.Dn hy hq];exact hx⟩,st',fun b hb=>(hf b hb).1⟩⟩
 done:=by
  intro X hP hw hK hc i pins s σ H E I hf st hg
  subst hP hw hK
  obtain⟨xs,hq,hx⟩:=hg
  obtain⟨its,rv,p,hz⟩:=I.tuple hq
  obtain⟨f0,f1,f2,f3,f4,f5⟩:=hf it (by simp)
  have hl:=rv.length
  exact wpAny_pyNext_tuple_end (I.ok.hd hc) st (show s.heap.IsTuple a its.toArray from p) (by simp;omega) fun h' eb=>⟨rfl,I.turned (t':=s.toks) (fun b o hb e=>eb b o hb e) f0 f1 f3 f4 f5⟩
 self:=fun _ _ _ _ _ st h=>wpAny_pyIter_tupleiter st h
theorem Ag (it:Addr) (lo:Int) (n:Nat):Turn P w K tg (Itr lo n) [it] it (fun i h=>IsRangeIter h it (lo+(i:Nat)*1) ((n:Int)-(i:Nat)) 1) where
 mem:=by simp
 obj:=fun i h st b hb=>by
  have e:b=it:=by simpa using hb
  subst e
  exact⟨_,st,fun v z=>by
   have z':Data.fields _=Data.cell v:=z
   cases z'⟩
 keep:=fun i h h' st k=>k it (by simp) _ st
 item:=by
  intro X hP hw hK hc i pins s σ H E I hf st hg
  subst hP hw hK
  obtain⟨f0,f1,f2,f3,f4,f5⟩:=hf it (by simp)
  have W:=Walks.range (prog:=X.prog) (w:=X.w) (I.ok.hd hc) it lo 1 n
  refine W.item i s _ _ hg st fun v h' tk hv st' kk=>?_
  obtain⟨t,rfl⟩:=hv
  have I1:Inv X pins σ H { s with heap:=h',toks:=tk }:=I.turned (fun b o hb e=>kk b o (by simpa using hb) e) f0 f1 f3 f4 f5
  refine⟨_,rfl,xi (s:={ s with heap:=h',toks:=tk }) (n:="range_iterator") st' rfl rfl (by decide) ⟨.int (lo+i),H,I1,⟨t,?_⟩,⟨rfl,rfl⟩,st',fun b hb=>(hf b hb).1⟩⟩
  rw[Int.mul_one]
 done:=by
  intro X hP hw hK hc i pins s σ H E I hf st hg
  subst hP hw hK
  obtain⟨f0,f1,f2,f3,f4,f5⟩:=hf it (by simp)
  exact wpAny_pyNext_range_end (I.ok.hd hc) st (by have:n<=i:=hg;omega) fun h' eb=>⟨rfl,I.turned (t':=s.toks) (fun b o hb e=>eb b o hb e) f0 f1 f3 f4 f5⟩
 self:=fun _ _ _ _ _ st h=>wpAny_pyIter_rangeiter st h
end
section
section
variable {X:Cx}{tg:Expr}
theorem xT {σ:St}{H:Hp}{R:It->Hp->Prop}{E:Value->Shared->Prop}{lo hi:Int}{t u v:Tok}{tk:Nat} (I:Inv X pins σ H s) (h1:-(2^62)<=lo) (h2:lo<2^62) (h3:-(2^62)<=hi) (h4:hi<2^62)
  (q:R (Itr lo (hi-lo).toNat) H):wpAny (model X.prog X.w) X.A (pyIter (.ref s.heap.objs.size)) (PIE X pins σ tg R) E { s with heap:=s.heap.push { cls:=.type "range",data:=.fields #[.int lo t,.int hi u,.int 1 v] },toks:=tk }:=by
 refine wpAny_pyIter_range (IsRange.new ..) (small_one h1 h2 h3 h4) ?_
 have I1:Inv X pins σ H { s with heap:=s.heap.push { cls:=.type "range",data:=.fields #[.int lo t,.int hi u,.int 1 v] },toks:=tk }:=I.kept fun b o e=>az _ e
 refine⟨(s.heap.push { cls:=.type "range",data:=.fields #[.int lo t,.int hi u,.int 1 v] }).objs.size,[(s.heap.push { cls:=.type "range",data:=.fields #[.int lo t,.int hi u,.int 1 v] }).objs.size],_,_,H,rfl,
  I1.kept (t':=tk) fun b o e=>az _ e,Ag _ lo (hi-lo).toNat,?_,fun b hb=>?_,q⟩
 ·have e1:lo+((0:Nat):Int)*1=lo:=by simp
  have e2:(((hi-lo).toNat:Nat):Int)-((0:Nat):Int)=Builtin.Range.rangeSize lo hi 1:=by rw[rangeSize_one];split<;>omega
  show IsRangeIter _ _ (lo+((0:Nat):Int)*1) ((((hi-lo).toNat:Nat):Int)-((0:Nat):Int)) 1
  rw[e1,e2]
  exact aZ _ rfl
 ·have e:b=(s.heap.push { cls:=.type "range",data:=.fields #[.int lo t,.int hi u,.int 1 v] }).objs.size:=by simpa using hb
  subst e
  exact I1.vz (ak _) (I1.hok.fresh (ak _))
def E3 (ta:TA):TI:=fun σ H R=>ta σ H fun vs H1=>∃ j:Int,vs=[.int j]/\-(2^62)<=j/\j<2^62/\R (Itr 0 j.toNat) H1
def E4 (ta:TA):TI:=fun σ H R=>ta σ H fun vs H1=>∃ i j:Int,vs=[.int i,.int j]/\(-(2^62)<=i/\i<2^62/\-(2^62)<=j/\j<2^62)/\R (Itr i (j-i).toNat) H1
theorem CV {a:Expr}{ta:TA}{p pos:Pos} (hg:Gl X "range") (hm:X.mg "range"=none) (ha:PA X [a] ta) (hs:starEach [a] X.env=[(false,eval a X.env)]:=by rfl):PI X tg (.Call (.Name "range" p) [a] [] pos) (E3 ta):=by
 intro pins s σ H R I h
 refine Call_ (nL I hg hm boot_range (mW (thn (ha pos pins s σ H _ I h) fun us s1 ⟨vs,H1,I1,r1,q1⟩=>?_) hs rfl))
 obtain⟨j,e,q1,q2,q⟩:=q1
 subst e
 cases r1 with
 | cons r rr =>
  cases rr
  obtain⟨t,rfl⟩:=r
  exact call_range_1 (xT I1 (by omega) (by omega) q1 q2 (by simpa using q))
theorem CW {a b:Expr}{ta:TA}{p pos:Pos} (hg:Gl X "range") (hm:X.mg "range"=none) (ha:PA X [a,b] ta) (hs:starEach [a,b] X.env=[(false,eval a X.env),(false,eval b X.env)]:=by rfl) (hs2:starEach [b] X.env=[(false,eval b X.env)]:=by rfl) :
  PI X tg (.Call (.Name "range" p) [a,b] [] pos) (E4 ta):=by
 intro pins s σ H R I h
 refine Call_ (nL I hg hm boot_range (mW (thn (ha pos pins s σ H _ I h) fun us s1 ⟨vs,H1,I1,r1,q1⟩=>?_) (by rw[hs,hs2]) (by rw[hs2];rfl)))
 obtain⟨i,j,e,⟨q1,q2,q3,q4⟩,q⟩:=q1
 subst e
 cases r1 with
 | cons r rr =>
  cases rr with
  | cons r' rr =>
   cases rr
   obtain⟨t,rfl⟩:=r
   obtain⟨t',rfl⟩:=r'
   exact call_range_2 (xT I1 q1 q2 q3 q4 q)

def Lw (wi:TI) (g:TG) (tb:TS):TS:=fun D σ H=>wi σ H fun J H1=>∃ W:Nat->Nat->St->Hp->Prop,(∃ m,W 0 m σ H1)/\∀ i m σ H,W i m σ H →
 (J.stop i H/\D.nx σ H)∨(J.go i H/\∃ N:St->Hp->Prop,(∀ σ' H',N σ' H'->∃ m',m'<m/\W (i+1) m' σ' H')/\∀ x H',J.yld i H x H'->g x σ H' fun σ2 H2=>tb { D with nx:=N,ct:=N,bk:=D.nx } σ2 H2)
def tF (fp:List Addr) (h:Heap):List (Addr×Obj):=fp.filterMap fun b=>(h.get? b).map fun o=>(b,o)
theorem kN (hb:b∈fp) (e:h.get? b=some o):(b,o)∈tF fp h:=mR.mpr ⟨b,hb,by rw[e];rfl⟩
theorem CL {p:Addr×Obj} (hp:p∈tF fp h):p.1∈fp/\h.get? p.1=some p.2:=by
 obtain⟨b,hb,e⟩:=mR.mp hp
 cases q:h.get? b with
 | none=>rw[q] at e;cases e
 | some o =>
  rw[q] at e
  have e':(b,o)=p:=Option.some.inj e
  subst e'
  exact⟨hb,q⟩
theorem Inv.pinned {σ:St}{H:Hp} (I:Inv X pins σ H s) (hf:∀ b∈fp,rF X pins H b) (ho:∀ b∈fp,∃ o,s.heap.get? b=some o/\∀ v,o.data≠.cell v):Inv X (pins++tF fp s.heap) σ H s :=
 I.Bb fun p hp=>(bz.mp hp).elim (fun z=>I.pin p (dR _ z)) fun z=>by
  obtain⟨hb,e⟩:=CL z
  obtain⟨f0,f1,f2,_⟩:=hf p.1 hb
  obtain⟨o,e',d⟩:=ho p.1 hb
  rw[e] at e';cases e'
  exact⟨e,f0,f1,f2,d⟩
theorem Inv.pH {pins pl:List (Addr×Obj)}{σ:St}{H:Hp} (I:Inv X (pins++pl) σ H s):Inv X pins σ H s:=I.Bb fun p hp=>I.pin p (dR _ (ky _ hp))
theorem eQ {iter:Expr}{wi:TI}{g:TG}{tb:TS}{pos:Pos} (hp:PassesOwn (model X.prog X.w) X.A X.env X.xe) (hc:X.calm=true) (hi:PI X tg iter wi) (hg:PG X tg g) (hb:PSs X body tb)
  (hs:∀ x,foldedSetIterable iter X.env x=pure x:=by intro _;rfl):PS X (.For tg iter body [] pos) (Lw wi g tb):=by
 intro pins s σ H D I h
 refine wpAny_For (thn (hi pins s σ H _ I h) fun v s1 h1=>thn h1 fun itv s2 h2=>?_) hs
 obtain⟨it,fp,tn,J,H2,e,I2,T,st2,f2,W,⟨m0,w0⟩,turn⟩:=h2
 subst e
 -- what stays true of the iterator's objects through the loop
 have stat:∀ {H':Hp},(∀ b∈fp,H' b=none)->∀ b∈fp,rF X pins H' b:=fun hn b hb=>⟨hn b hb,(f2 b hb).2⟩
 refine codeAny_forLoop_any (fun n s'=>∃ i σ' H',Inv X pins σ' H' s'/\tn i s'.heap/\(∀ b∈fp,H' b=none)/\W i n σ' H') ?_ m0 ⟨0,σ,H2,I2,st2,fun b hb=>(f2 b hb).1,w0⟩
 rintro n s3 ⟨i,σ3,H3,I3,st3,fr3,w3⟩
 rcases turn i n σ3 H3 w3 with ⟨stop,qn⟩ | ⟨go,N,hN,step⟩
 ·refine jw hp (thn (T.done X rfl rfl rfl hc i pins s3 σ3 H3 X.xe I3 (stat fr3) st3 stop) fun r s4 ⟨hr,I4⟩=>?_)
  subst hr
  exact wpAny_execs_nil ⟨σ3,H3,I4,qn⟩
 ·refine jw hp (thn (T.item X rfl rfl rfl hc i pins s3 σ3 H3 X.xe I3 (stat fr3) st3 go) fun r s4 ⟨u,hr,h4⟩=>?_)
  subst hr
  refine jw hp (thn h4 fun _ s5 ⟨x,H5,I5,r5,y5,st5,fr5⟩=>?_)
  have I5':=I5.pinned (stat fr5) (T.obj _ _ st5)
  refine jw hp (thn (hg _ s5 σ3 H5 x u _ I5' r5 (step x H5 y5)) fun _ s6 ⟨σ6,H6,I6,q6⟩=>?_)
  refine jw hp (thn (hb _ s6 σ6 H6 _ I6 q6) fun f s7 q7=>?_)
  have again:∀ {σ7:St}{H7:Hp},Inv X (pins++tF fp s5.heap) σ7 H7 s7->N σ7 H7->∃ m,m<n/\∃ i σ' H',Inv X pins σ' H' s7/\tn i s7.heap/\(∀ b∈fp,H' b=none)/\W i m σ' H':=fun {σ7 H7} I7 n7=>by
   obtain⟨m',hm,w7⟩:=hN σ7 H7 n7
   refine⟨m',hm,i+1,σ7,H7,I7.pH,T.keep _ _ _ st5 fun b hb o e=>(I7.pin (b,o) (dR _ (dR _ (kN hb e)))).1,fun b hb=>?_,w7⟩
   obtain⟨o,e,d⟩:=T.obj _ _ st5 b hb
   exact (I7.pin (b,o) (dR _ (dR _ (kN hb e)))).2.1
  cases f with
  | next=>obtain⟨σ7,H7,I7,n7⟩:=q7;exact again I7 n7
  | cont=>obtain⟨σ7,H7,I7,n7⟩:=q7;exact again I7 n7
  | brk=>obtain⟨σ7,H7,I7,q7⟩:=q7;exact⟨σ7,H7,I7.pH,q7⟩
  | ret v=>obtain⟨x7,σ7,H7,I7,r7,q7⟩:=q7;exact⟨x7,σ7,H7,I7.pH,r7,q7⟩
end

theorem Em {xs:List V}{g:TG}{tb:TS}{D:Ends}{σ:St}{H:Hp} (Pv:Nat->St->Hp->Prop) (h0:Pv 0 σ H) (hl:∀ i σ H,i<=xs.length->Pv i σ H->SqL K H a xs)
  (hs:∀ i x σ H,xs[i]?=some x->Pv i σ H->g x σ H fun σ2 H2=>tb { D with nx:=Pv (i+1),ct:=Pv (i+1),bk:=D.nx } σ2 H2) (hd:∀ σ H,Pv xs.length σ H->D.nx σ H) :
  ∃ W:Nat->Nat->St->Hp->Prop,(∃ m,W 0 m σ H)/\∀ i m σ H,W i m σ H →
   ((Itl K a).stop i H/\D.nx σ H)∨((Itl K a).go i H/\∃ N:St->Hp->Prop,(∀ σ' H',N σ' H'->∃ m',m'<m/\W (i+1) m' σ' H')/\∀ x H',(Itl K a).yld i H x H'->g x σ H' fun σ2 H2=>tb { D with nx:=N,ct:=N,bk:=D.nx } σ2 H2):=by
 refine⟨fun i m σ H=>m=xs.length-i/\i<=xs.length/\Pv i σ H,⟨xs.length,by simp,aT _,h0⟩,?_⟩
 rintro i m σ H ⟨rfl,hi,p⟩
 have q:=hl i σ H hi p
 by_cases hlt:i<xs.length
 ·refine .inr ⟨⟨xs,xs[i],q,by simp [hlt]⟩,Pv (i+1),fun σ' H' p'=>⟨xs.length-(i+1),by omega,rfl,hlt,p'⟩,fun x H' y=>?_⟩
  obtain⟨e,y⟩:=y
  subst e
  exact hs i x σ _ (y xs q) p
 ·have e:i=xs.length:=by omega
  subst e
  exact .inl ⟨⟨xs,q,ak _⟩,hd σ H p⟩
theorem Cp {lo:Int}{n:Nat}{g:TG}{tb:TS}{D:Ends}{σ:St}{H:Hp} (Pv:Nat->St->Hp->Prop) (h0:Pv 0 σ H)
  (hs:∀ i σ H,i<n->Pv i σ H->g (.int (lo+i)) σ H fun σ2 H2=>tb { D with nx:=Pv (i+1),ct:=Pv (i+1),bk:=D.nx } σ2 H2) (hd:∀ σ H,Pv n σ H->D.nx σ H) :
  ∃ W:Nat->Nat->St->Hp->Prop,(∃ m,W 0 m σ H)/\∀ i m σ H,W i m σ H →
   ((Itr lo n).stop i H/\D.nx σ H)∨((Itr lo n).go i H/\∃ N:St->Hp->Prop,(∀ σ' H',N σ' H'->∃ m',m'<m/\W (i+1) m' σ' H')/\∀ x H',(Itr lo n).yld i H x H'->g x σ H' fun σ2 H2=>tb { D with nx:=N,ct:=N,bk:=D.nx } σ2 H2):=by
 refine⟨fun i m σ H=>m=n-i/\i<=n/\Pv i σ H,⟨n,by simp,aT _,h0⟩,?_⟩
 rintro i m σ H ⟨rfl,hi,p⟩
 by_cases hlt:i<n
 ·refine .inr ⟨hlt,Pv (i+1),fun σ' H' p'=>⟨n-(i+1),by omega,rfl,hlt,p'⟩,fun x H' y=>?_⟩
  obtain⟨e,y⟩:=y
  subst e y
  exact hs i σ _ hlt p
 ·have e:i=n:=by omega
  subst e
  exact .inl ⟨ak _,hd σ H p⟩
end
section

abbrev R2:=V->V->Hp->VK->Prop
def OpR (X:Cx) (f:Value->Value->Sem Value) (r:R2):Prop :=
 ∀ (pins:List (Addr×Obj)) (s:Shared) (σ:St) (H:Hp) (x y:V) (v u:Value) (Q:VK),Inv X pins σ H s->RelV x v->RelV y u->r x y H Q →
  wpAny (model X.prog X.w) X.A (f v u) (EP X pins σ Q) X.xe s
def UnR (X:Cx) (f:Value->Sem Value) (r:V->Hp->VK->Prop):Prop :=
 ∀ (pins:List (Addr×Obj)) (s:Shared) (σ:St) (H:Hp) (x:V) (v:Value) (Q:VK),Inv X pins σ H s->RelV x v->r x H Q →
  wpAny (model X.prog X.w) X.A (f v) (EP X pins σ Q) X.xe s
def cW (X:Cx) (f:Value) (r:List V->Hp->VK->Prop):Prop :=
 ∀ (pins:List (Addr×Obj)) (s:Shared) (σ:St) (H:Hp) (xs:List V) (us:List Value) (Q:VK),Inv X pins σ H s->Vals xs us->r xs H Q →
  wpAny (model X.prog X.w) X.A (call f us) (EP X pins σ Q) X.xe s
def tOp (r:R2) (ta tb:TE):TE:=fun σ H Q=>ta σ H fun x H1=>tb σ H1 fun y H2=>r x y H2 Q
def tUn (r:V->Hp->VK->Prop) (ta:TE):TE:=fun σ H Q=>ta σ H fun x H1=>r x H1 Q
def rI (C:Int->Int->Prop) (g:Int->Int->V):R2:=fun x y H Q=>∃ i j,x=.int i/\y=.int j/\C i j/\Q (g i j) H
def rI0 (g:Int->Int->V):R2:=fun x y H Q=>∃ i j,x=.int i/\y=.int j/\Q (g i j) H
def rU (g:Int->V):V->Hp->VK->Prop:=fun x H Q=>∃ i,x=.int i/\Q (g i) H

section
variable {X:Cx}{a b c:Expr}{ta tb tc:TE}{pos:Pos}

theorem Jr (ha:PE X a ta) (hb:PE X b tb) {σ:St}{H:Hp}{R:V->V->Hp->Prop} (I:Inv X pins σ H s)
  (h:ta σ H fun x H1=>tb σ H1 fun y H2=>R x y H2) {Q:Value->Shared->Prop}{f:Value->Value->Sem Value}
  (hf:∀ v u s2 x y H2,Inv X pins σ H2 s2->RelV x v->RelV y u->R x y H2->wpAny (model X.prog X.w) X.A (f v u) Q X.xe s2) :
  wpAny (model X.prog X.w) X.A (eval a X.env) (fun v s₁=>wpAny (model X.prog X.w) X.A (eval b X.env) (fun u s₂=>wpAny (model X.prog X.w) X.A (f v u) Q X.xe s₂) X.xe s₁) X.xe s:=by
 refine thn (ha pins s σ H _ I h) fun v s1 ⟨x,H1,I1,r1,q1⟩=>?_
 refine thn (hb pins s1 σ H1 _ I1 q1) fun u s2 ⟨y,H2,I2,r2,q2⟩=>?_
 exact hf v u s2 x y H2 I2 r1 r2 q2

theorem ax {op:Operator}{r:R2} (ho:OpR X (binaryOp op) r) (ha:PE X a ta) (hb:PE X b tb):PE X (.BinOp a op b pos) (tOp r ta tb):=by
 intro pins s σ H Q I h
 exact wpAny_BinOp (Jr ha hb I h fun v u s2 x y H2 I2 rx ry q=>ho pins s2 σ H2 x y v u Q I2 rx ry q)
theorem Fl {op:UnaryOp}{r:V->Hp->VK->Prop} (ho:UnR X (unaryOp op) r) (ha:PE X a ta):PE X (.UnaryOp op a pos) (tUn r ta):=by
 intro pins s σ H Q I h
 exact UnaryOp_ (thn (ha pins s σ H _ I h) fun v s1 ⟨x,H1,I1,r1,q1⟩=>ho pins s1 σ H1 x v Q I1 r1 q1)
theorem opI {f:Value->Value->Sem Value}{C:Int->Int->Prop}{g:Int->Int->Int}
  (rule:∀ (i j:Int) (t u:Tok) (s:Shared) (Q:Value->Shared->Prop) (E:Value->Shared->Prop),C i j->Q (.int (g i j) s.toks) { s with toks:=s.toks+1 }->wpAny (model X.prog X.w) X.A (f (.int i t) (.int j u)) Q E s) :
  OpR X f (rI C fun i j=>.int (g i j)):=by
 intro pins s σ H x y v u Q I rx ry h
 obtain⟨i,j,rfl,rfl,hc,q⟩:=h
 obtain⟨t,rfl⟩:=rx
 obtain⟨t',rfl⟩:=ry
 exact rule i j t t' s _ _ hc ⟨.int (g i j),H,I.tok _,⟨_,rfl⟩,q⟩
theorem KZ {f:Value->Value->Sem Value}{g:Int->Int->Int}
  (rule:∀ (i j:Int) (t u:Tok) (s:Shared) (Q:Value->Shared->Prop) (E:Value->Shared->Prop),Q (.int (g i j) s.toks) { s with toks:=s.toks+1 }->wpAny (model X.prog X.w) X.A (f (.int i t) (.int j u)) Q E s) :
  OpR X f (rI0 fun i j=>.int (g i j)):=by
 intro pins s σ H x y v u Q I rx ry h
 obtain⟨i,j,rfl,rfl,q⟩:=h
 obtain⟨t,rfl⟩:=rx
 obtain⟨t',rfl⟩:=ry
 exact rule i j t t' s _ _ ⟨.int (g i j),H,I.tok _,⟨_,rfl⟩,q⟩
theorem Hn {f:Value->Value->Sem Value}{g:Int->Int->Bool}
  (rule:∀ (i j:Int) (t u:Tok) (s:Shared) (Q:Value->Shared->Prop) (E:Value->Shared->Prop),Q (.bool (g i j)) s->wpAny (model X.prog X.w) X.A (f (.int i t) (.int j u)) Q E s) :
  OpR X f (rI0 fun i j=>.bl (g i j)):=by
 intro pins s σ H x y v u Q I rx ry h
 obtain⟨i,j,rfl,rfl,q⟩:=h
 obtain⟨t,rfl⟩:=rx
 obtain⟨t',rfl⟩:=ry
 exact rule i j t t' s _ _ ⟨.bl (g i j),H,I,rfl,q⟩

def LJ (i j:Int):Prop:=0<=j/\j<=1000000/\i.natAbs<2^64
theorem JP:OpR X (binaryOp .Add) (rI0 fun i j=>.int (i+j)):=KZ fun _ _ _ _ _ _ _ q=>add_int q
theorem Ka:OpR X (binaryOp .Sub) (rI0 fun i j=>.int (i-j)):=KZ fun _ _ _ _ _ _ _ q=>sub_int q
theorem JV:OpR X (binaryOp .Mod) (rI (fun _ j=>0<j) fun i j=>.int (i%j)):=opI fun i j _ _ _ _ _ hc q=>by
 have h1:(0:Int)<j:=hc
 exact mod_int' (by omega) (by rw[Int.fmod_eq_emod_of_nonneg i (by omega)];exact q)
theorem JY:OpR X (binaryOp .Pow) (rI LJ fun i j=>.int (i^j.toNat)):=opI fun _ _ _ _ _ _ _ hc q=>pow_int_small hc.1 hc.2.1 hc.2.2 q
theorem unI {f:Value->Sem Value}{g:Int->Int}
  (rule:∀ (i:Int) (t:Tok) (s:Shared) (Q:Value->Shared->Prop) (E:Value->Shared->Prop),Q (.int (g i) s.toks) { s with toks:=s.toks+1 }->wpAny (model X.prog X.w) X.A (f (.int i t)) Q E s) :
  UnR X f (rU fun i=>.int (g i)):=by
 intro pins s σ H x v Q I rx h
 obtain⟨i,rfl,q⟩:=h
 obtain⟨t,rfl⟩:=rx
 exact rule i t s _ _ ⟨.int (g i),H,I.tok _,⟨_,rfl⟩,q⟩
theorem Ai:UnR X (unaryOp .USub) (rU fun i=>.int (-i)):=unI fun _ _ _ _ _ q=>neg_int q
end

def Lu:V->V->Bool
 | .non,.non=>true | .non,.int _=>true | .int _,.non=>true | .non,.bl _=>true | .bl _,.non=>true | .non,.str _=>true | .str _,.non=>true
 | .int _,.int _=>true | .bl _,.bl _=>true | .str _,.str _=>true | .byt _,.byt _=>true
 | .int _,.str _=>true | .str _,.int _=>true | .bl _,.str _=>true | .str _,.bl _=>true
 | _,_=>false
def rEq:R2:=fun x y H Q=>Lu x y=true/\Q (.bl (decide (x=y))) H
def rNe:R2:=fun x y H Q=>Lu x y=true/\Q (.bl (!decide (x=y))) H

theorem A9 {i j:Int}:decide (V.int i=V.int j)=(i==j):=by
 rw[Bool.eq_iff_iff]
 simp
theorem DU {i j:Bool}:decide (V.bl i=V.bl j)=(i==j):=by
 rw[Bool.eq_iff_iff]
 simp
theorem AA {i j:Str}:decide (V.str i=V.str j)=(i==j):=by
 rw[Bool.eq_iff_iff]
 simp
theorem A8 {i j:Array UInt8}:decide (V.byt i=V.byt j)=(i.toList==j.toList):=by
 rw[Bool.eq_iff_iff]
 cases i
 cases j
 simp

section
variable {X:Cx}{a b c:Expr}{ta tb tc:TE}{pos:Pos}
theorem bS {σ:St}{H:Hp}{Q:VK}{k k':Bool} (I:Inv X pins σ H s) (q:Q (.bl k) H) (e:k=k'):EP X pins σ Q (.bool k') s:=by
 subst e
 exact⟨.bl k,H,I,rfl,q⟩
theorem EV:OpR X (compareOp .Eq) rEq:=by
 intro pins s σ H x y v u Q I rx ry h
 obtain⟨hs,q⟩:=h
 cases x with
 | non =>
  cases rx
  cases y with
  | non=>cases ry;exact PySem.EqNone.eq_none_none (bS I q (by simp))
  | bl j=>cases ry;exact PySem.EqNone.eq_none_bool (bS I q (by simp))
  | int j=>obtain⟨t',rfl⟩:=ry;exact PySem.EqNone.eq_none_int (bS I q (by simp))
  | str j=>obtain⟨t',rfl⟩:=ry;exact PySem.EqNone.eq_none_str (bS I q (by simp))
  | _=>exact absurd (show false=true from hs) bE
 | bl i =>
  cases rx
  cases y with
  | non=>cases ry;exact PySem.EqNone.eq_bool_none (bS I q (by simp))
  | bl j=>cases ry;exact eq_bool (bS I q DU)
  | str j=>obtain⟨t',rfl⟩:=ry;exact PySem.EqMixed.eq_bool_str (bS I q (by simp))
  | _=>exact absurd (show false=true from hs) bE
 | int i =>
  obtain⟨t,rfl⟩:=rx
  cases y with
  | non=>cases ry;exact PySem.EqNone.eq_int_none (bS I q (by simp))
  | int j=>obtain⟨t',rfl⟩:=ry;exact eq_int (bS I q A9)
  | str j=>obtain⟨t',rfl⟩:=ry;exact PySem.EqMixed.eq_int_str (bS I q (by simp))
  | _=>exact absurd (show false=true from hs) bE
 | str i =>
  obtain⟨t,rfl⟩:=rx
  cases y with
  | non=>cases ry;exact PySem.EqNone.eq_str_none (bS I q (by simp))
  | bl j=>cases ry;exact PySem.EqMixed.eq_str_bool (bS I q (by simp))
  | int j=>obtain⟨t',rfl⟩:=ry;exact PySem.EqMixed.eq_str_int (bS I q (by simp))
  | str j=>obtain⟨t',rfl⟩:=ry;exact eq_str (bS I q AA)
  | _=>exact absurd (show false=true from hs) bE
 | byt i =>
  obtain⟨t,rfl⟩:=rx
  cases y with
  | byt j=>obtain⟨t',rfl⟩:=ry;exact PySem.W.eq_bytes (bS I q A8)
  | _=>exact absurd (show false=true from hs) bE
 | _=>cases y<;>exact absurd (show false=true from hs) bE
theorem EZ:OpR X (compareOp .NotEq) rNe:=by
 intro pins s σ H x y v u Q I rx ry h
 obtain⟨hs,q⟩:=h
 cases x with
 | non =>
  cases rx
  cases y with
  | non=>cases ry;exact PySem.EqNone.ne_none_none (bS I q (by simp))
  | bl j=>cases ry;exact PySem.EqNone.ne_none_bool (bS I q (by simp))
  | int j=>obtain⟨t',rfl⟩:=ry;exact PySem.EqNone.ne_none_int (bS I q (by simp))
  | str j=>obtain⟨t',rfl⟩:=ry;exact PySem.EqNone.ne_none_str (bS I q (by simp))
  | _=>exact absurd (show false=true from hs) bE
 | bl i =>
  cases rx
  cases y with
  | non=>cases ry;exact PySem.EqNone.ne_bool_none (bS I q (by simp))
  | bl j=>cases ry;exact ne_bool (bS I q (bu not DU))
  | str j=>obtain⟨t',rfl⟩:=ry;exact PySem.EqMixed.ne_bool_str (bS I q (by simp))
  | _=>exact absurd (show false=true from hs) bE
 | int i =>
  obtain⟨t,rfl⟩:=rx
  cases y with
  | non=>cases ry;exact PySem.EqNone.ne_int_none (bS I q (by simp))
  | int j=>obtain⟨t',rfl⟩:=ry;exact ne_int (bS I q (bu not A9))
  | str j=>obtain⟨t',rfl⟩:=ry;exact PySem.EqMixed.ne_int_str (bS I q (by simp))
  | _=>exact absurd (show false=true from hs) bE
 | str i =>
  obtain⟨t,rfl⟩:=rx
  cases y with
  | non=>cases ry;exact PySem.EqNone.ne_str_none (bS I q (by simp))
  | bl j=>cases ry;exact PySem.EqMixed.ne_str_bool (bS I q (by simp))
  | int j=>obtain⟨t',rfl⟩:=ry;exact PySem.EqMixed.ne_str_int (bS I q (by simp))
  | str j=>obtain⟨t',rfl⟩:=ry;exact ne_str (bS I q (bu not AA))
  | _=>exact absurd (show false=true from hs) bE
 | byt i =>
  obtain⟨t,rfl⟩:=rx
  cases y with
  | byt j=>obtain⟨t',rfl⟩:=ry;exact PySem.W.ne_bytes (bS I q (bu not A8))
  | _=>exact absurd (show false=true from hs) bE
 | _=>cases y<;>exact absurd (show false=true from hs) bE

theorem Ld:OpR X (compareOp .Lt) (rI0 fun i j=>.bl (decide (i<j))):=Hn fun _ _ _ _ _ _ _ q=>lt_int q
theorem Lc:OpR X (compareOp .LtE) (rI0 fun i j=>.bl (decide (i<=j))):=Hn fun _ _ _ _ _ _ _ q=>le_int q
theorem Lb:OpR X (compareOp .Gt) (rI0 fun i j=>.bl (decide (j<i))):=Hn fun _ _ _ _ _ _ _ q=>gt_int q
theorem La:OpR X (compareOp .GtE) (rI0 fun i j=>.bl (decide (j<=i))):=Hn fun _ _ _ _ _ _ _ q=>ge_int q
theorem CO:OpR X (compareOp .In) (fun x y H Q=>∃ i j,x=.str i/\y=.str j/\Q (.bl (!(Builtin.Str.occurrences j i 0 j.length 1).isEmpty)) H):=by
 intro pins s σ H x y v u Q I rx ry h
 obtain⟨i,j,rfl,rfl,q⟩:=h
 obtain⟨t,rfl⟩:=rx
 obtain⟨t',rfl⟩:=ry
 exact in_str (bS I q rfl)

theorem JU:OpR X (compareOp .Is) (fun x y H Q=>y=.non/\Q (.bl (decide (x=.non))) H):=by
 intro pins s σ H x y v u Q I rx ry h
 obtain⟨rfl,q⟩:=h
 cases ry
 refine is_none_gen (bS I q ?_)
 cases x<;>first
  | (cases rx;rfl)
  | (obtain⟨t,rfl⟩:=rx;rfl)
theorem Hq:OpR X (compareOp .IsNot) (fun x y H Q=>y=.non/\Q (.bl (!decide (x=.non))) H):=by
 intro pins s σ H x y v u Q I rx ry h
 obtain⟨rfl,q⟩:=h
 cases ry
 refine isnot_none_gen (bS I q ?_)
 cases x<;>first
  | (cases rx;rfl)
  | (obtain⟨t,rfl⟩:=rx;rfl)

theorem vX:OpR X (compareOp .NotIn) (fun x y H Q=>∃ i j,x=.str i/\y=.str j/\Q (.bl (!(!(Builtin.Str.occurrences j i 0 j.length 1).isEmpty))) H):=by
 intro pins s σ H x y v u Q I rx ry h
 obtain⟨i,j,rfl,rfl,q⟩:=h
 obtain⟨t,rfl⟩:=rx
 obtain⟨t',rfl⟩:=ry
 exact notIn_str (bS I q rfl)
theorem aQ (b:Expr)  (h:op≠.In:=by decide) (h2:op≠.NotIn:=by decide):behindInMarks op b=false:=by
 have e1:(op==CmpOp.In)=false:=by cases op<;>first | rfl | exact absurd rfl h
 have e2:(op==CmpOp.NotIn)=false:=by cases op<;>first | rfl | exact absurd rfl h2
 cases b<;>simp [behindInMarks,e1,e2]
theorem dh {r:R2} (ho:OpR X (compareOp op) r) (ha:PE X a ta) (hb:PE X b tb) (hm:behindInMarks op b=false):PE X (.Compare a [op] [b] pos) (tOp r ta tb):=by
 intro pins s σ H Q I h
 exact wpAny_Compare1 (Jr ha hb I h fun v u s2 x y H2 I2 rx ry q=>ho pins s2 σ H2 x y v u Q I2 rx ry q) hm
def ym (t:TE):TT:=fun σ H Q=>t σ H fun x H'=>∃ k,x=.bl k/\Q k H'
theorem aN {r:R2} (ho:OpR X (compareOp op) r) (ha:PE X a ta) (hb:PE X b tb) (hm:behindInMarks op b=false):PT X (.Compare a [op] [b] pos) (ym (tOp r ta tb)):=by
 intro pins s σ H Q I h
 refine wpAny_isTrue_Compare1 (thn (ha pins s σ H _ I h) fun v s1 ⟨x,H1,I1,r1,q1⟩=>thn (hb pins s1 σ H1 _ I1 q1) fun u s2 ⟨y,H2,I2,r2,q2⟩ =>
  thn (ho pins s2 σ H2 x y v u _ I2 r1 r2 q2) fun c s3 ⟨z,H3,I3,r3,k,e,q3⟩=>?_) hm
 subst e
 cases r3
 exact fT ⟨H3,I3,q3⟩
def Ab (r r':R2) (ta tb tc:TE):TE:=fun σ H Q=>ta σ H fun x H1=>tb σ H1 fun y H2=>r x y H2 fun z H3=>∃ k,z=.bl k ∧
 (if k=true then tc σ H3 fun w' H4=>r' y w' H4 Q else Q (.bl false) H3)
theorem Ff {op op':CmpOp}{r r':R2} (ho:OpR X (compareOp op) r) (ho':OpR X (compareOp op') r') (ha:PE X a ta) (hb:PE X b tb) (hc:PE X c tc)
  (hm:lastMarks [op,op'] [b,c]=false:=by with_unfolding_all rfl):PE X (.Compare a [op,op'] [b,c] pos) (Ab r r' ta tb tc):=by
 intro pins s σ H Q I h
 refine Compare_chain (thn (ha pins s σ H _ I h) fun v s1 ⟨x,H1,I1,r1,q1⟩=>chain_link (thn (hb pins s1 σ H1 _ I1 q1) fun u s2 ⟨y,H2,I2,r2,q2⟩ =>
  thn (ho pins s2 σ H2 x y v u _ I2 r1 r2 q2) fun d s3 ⟨z,H3,I3,r3,k,e,q3⟩=>?_)) hm
 subst e
 cases r3
 refine fT ?_
 cases k with
 | false=>exact ite_ff ⟨.bl false,H3,I3,rfl,q3⟩
 | true=>exact ite_tt (chain_last (thn (hc pins s3 σ H3 _ I3 q3) fun w' s4 ⟨z',H4,I4,r4,q4⟩=>ho' pins s4 σ H4 y z' u w' Q I4 r2 r4 q4))
theorem oV {op op':CmpOp}{r r':R2} (ho:OpR X (compareOp op) r) (ho':OpR X (compareOp op') r') (ha:PE X a ta) (hb:PE X b tb) (hc:PE X c tc)
  (hm:lastMarks [op,op'] [b,c]=false:=by with_unfolding_all rfl):PT X (.Compare a [op,op'] [b,c] pos) (ym (Ab r r' ta tb tc)):=by
 intro pins s σ H Q I h
 refine isTrue_chain (thn (ha pins s σ H _ I h) fun v s1 ⟨x,H1,I1,r1,q1⟩=>test_link (thn (hb pins s1 σ H1 _ I1 q1) fun u s2 ⟨y,H2,I2,r2,q2⟩ =>
  thn (ho pins s2 σ H2 x y v u _ I2 r1 r2 q2) fun d s3 ⟨z,H3,I3,r3,k,e,q3⟩=>?_)) hm
 subst e
 cases r3
 refine fT ?_
 cases k with
 | false =>
  obtain⟨k',e',q'⟩:=q3
  cases e'
  exact ite_ff ⟨H3,I3,q'⟩
 | true =>
  refine ite_tt (test_last (thn (hc pins s3 σ H3 _ I3 q3) fun w' s4 ⟨z',H4,I4,r4,q4⟩=>thn (ho' pins s4 σ H4 y z' u w' _ I4 r2 r4 q4) fun d' s5 ⟨z2,H5,I5,r5,k2,e2,q5⟩=>?_))
  subst e2
  cases r5
  exact fT ⟨H5,I5,q5⟩

theorem qz:(sizeLine:Nat)<2^63:=by rw[ju];decide
theorem zB:OpR X (binaryOp .Add) (fun x y H Q=>∃ i j,x=.str i/\y=.str j/\i.length+j.length<=sizeLine/\Q (.str (i++j)) H):=by
 intro pins s σ H x y v u Q I rx ry h
 obtain⟨i,j,rfl,rfl,hz,q⟩:=h
 obtain⟨t,rfl⟩:=rx
 obtain⟨t',rfl⟩:=ry
 exact add_str (fun t' tk=>⟨.str (i++j),H,I.tok _,⟨_,rfl⟩,q⟩) hz
theorem vals1 {x:V} (r:Vals [x] us):∃ u,us=[u]/\RelV x u:=by
 cases r with
 | cons r1 r2=>cases r2;exact⟨_,rfl,r1⟩
theorem vals2 {x y:V} (r:Vals [x,y] us):∃ u w',us=[u,w']/\RelV x u/\RelV y w':=by
 cases r with
 | cons r1 r2 =>
  cases r2 with
  | cons r3 r4=>cases r4;exact⟨_,_,rfl,r1,r3⟩
theorem DP:cW X (.builtin "abs") (fun xs H Q=>∃ i,xs=[.int i]/\Q (.int (if i<0 then -i else i)) H):=by
 intro pins s σ H xs us Q I r h
 obtain⟨i,rfl,q⟩:=h
 obtain⟨u,rfl,t,rfl⟩:=vals1 r
 exact call_abs_int fun u tk=>⟨.int (if i<0 then -i else i),H,I.tok _,⟨_,rfl⟩,q⟩
theorem BG (hc:X.calm=true):cW X (.builtin "min") (fun xs H Q=>∃ i j,xs=[.int i,.int j]/\Q (.int (if j<i then j else i)) H):=by
 intro pins s σ H xs us Q I r h
 obtain⟨i,j,rfl,q⟩:=h
 obtain⟨u,w',rfl,⟨t,rfl⟩,⟨t',rfl⟩⟩:=vals2 r
 refine min_two_ints (I.ok.hd hc) fun h' tk k=>⟨_,H,I.kept k,?_,q⟩
 by_cases hj:j<i
 ·rw[if_pos hj,if_pos hj];exact⟨_,rfl⟩
 ·rw[if_neg hj,if_neg hj];exact⟨_,rfl⟩
end
end
section

structure yz (h:Heap) (x dx C:Addr) (mA:Str->Option Value):Prop where
 obj:h.get? x=some (PySem.W.instObj C dx)
 ns:h.Ns1 dx mA
 ne:dx≠x

theorem CF {dx:Addr} (n:h.Ns1 dx mA):∃ od,h.get? dx=some od/\∀ name,PySem.W.lookIn name od=some (mA name):=by
 obtain⟨o,es,ep,ho,hd,hk,_,hm⟩:=n
 refine⟨o,ho,fun name=>?_⟩
 have e:=hm name
 unfold nsFind findBy at e
 rw[←Array.find?_toList] at e
 unfold PySem.W.lookIn
 rw[hd]
 dsimp only
 split
 ·rename_i y q
  rw[q] at e
  exact bu some e
 ·rename_i q
  rw[q] at e
  have a:es.toList.any (·.refKey)=false:=by
   rw[List.any_eq_false]
   intro y hy
   obtain⟨z,t,hkey⟩:=hk y (Array.mem_toList_iff.mp hy)
   simp [DictEntry.refKey,hkey]
  have a':¬ es.toList.any (·.refKey)=true:=by rw[a];exact bE
  rw[if_neg a']
  exact bu some e

theorem yz.look {x dx C:Addr} (I:yz h x dx C mA):∃ od,PySem.W.InstAt h x (PySem.W.instObj C dx) C (some od)/\∀ name,PySem.W.lookIn name od=some (mA name) :=
 let ⟨od,ho,hl⟩:=CF I.ns
 ⟨od,⟨I.obj,rfl,rfl,ho⟩,hl⟩

section
variable {prog:Program}{w:World}{A:Around}{E:Value->Shared->Prop}{s:Shared}{K:PySem.W.Frag}{x dx C f:Addr}{mA:Str->Option Value}{name:Str}{v:Value}

theorem get_map {expr:Bool}{Q:Value->Shared->Prop} (X:K.In s.heap) (I:yz s.heap x dx C mA) (hg:PySem.W.plainGet K C name=true) (hh:PySem.W.hasDictIn K C=true)
  (ha:PySem.W.findIn K (.ref C) name=some none) (hv:mA name=some v) (hv':PySem.W.handedIn v=true) (h:Q v { s with toks:=s.toks+1 }) :
  wpAny (model prog w) A (getAttr (.ref x) name expr) Q E s:=by
 obtain⟨od,J,hl⟩:=I.look
 exact PySem.W.get_value X J (PySem.W.plainGet_of hg).1 (PySem.W.findObj_own hh ha rfl (by rw[hl,hv])) hv' h

theorem Es {pl:Sem Bool}{Q:Value×List Value->Shared->Prop} (X:K.In s.heap) (I:yz s.heap x dx C mA) (hg:PySem.W.plainGet K C name=true)
  (hf:PySem.W.findIn K (.ref C) name=some (some (.ref f))) (ht:PySem.W.isFn K (.ref f)=true) (hv:mA name=none) (h:Q (.ref f,[.ref x]) s) :
  wpAny (model prog w) A (getMethod (.ref x) name pl) Q E s:=by
 obtain⟨od,J,hl⟩:=I.look
 exact PySem.W.method_fn X J (PySem.W.plainGet_of hg).1 (PySem.W.plainGet_of hg).2 hf (fq.mp ht) (by show (PySem.W.lookIn name od).map (·.isSome)=some false;rw[hl,hv];rfl) h

theorem HV {ns:List Str}{Q:Unit->Shared->Prop} (X:K.In s.heap) (I:yz s.heap x dx C mA)
  (hs:PySem.W.findIn K (.ref C) "__setattr__"=some (some (.builtin "object.__setattr__"))) (hp:PySem.W.plainOver K C=true) (ht:PySem.W.takerIn K C name=some none) (hh:PySem.W.hasDictIn K C=true)
  (hw:PySem.Within mA ns) (hsz:ns.length<=sizeLine)
  (h:∀ h',yz h' x dx C (fun y=>if y=name then some v else mA y)->Heap.SameBut dx s.heap h'->Q () { s with heap:=h',toks:=s.toks+2 }) :
  wpAny (model prog w) A (setAttr (.ref x) name v) Q E s:=by
 obtain⟨od,J,hl⟩:=I.look
 refine PySem.W.set_plain X J hs (PySem.W.osa_open (s:={ s with toks:=s.toks+1 }) (r:=none) X J hp ht fun b=>?_)
 obtain⟨cd,hc,hd'⟩:=PySem.W.any_some hh
 have hx:s.heap.get? x=some ⟨.ref C,some dx,.plain,#[]⟩:=I.obj
 refine aa (ah (aa (aa (wpAny_loadPart hx (aa (PySem.W.Looks.here (s:={ s with toks:=s.toks+1 }) (PySem.W.looks_clsIn X hc) ?_))))))
 rw[hd']
 refine ah (a:=some dx) (aa (ah (aa ?_)))
 refine wpAny_nsSet1 (s:={ s with toks:=s.toks+1 }) I.ns fun h' hn2 hs2=>?_
 obtain⟨oD,esD,epD,hoD,hdD,hcD⟩:=hn2.count (PySem.Within.cons name v hw)
 refine aa (wpAny_lookBehind hoD (by rw[hdD];exact pastItsLine_dict (aK hcD (by rw[aO];omega))) ?_)
 exact ah (h _ ⟨(hs2.2 _ (bt I.ne)).trans I.obj,hn2,I.ne⟩ hs2)

theorem EH {R:Result->Shared->Prop}{vs:List Value}{kw:List (Str×Value)} (X:K.In s.heap) (hm:PySem.W.makesIn K C=true)
  (hi:PySem.W.findIn K (.ref C) "__init__"=some (some (.ref f))) (hf:PySem.W.typeIn K (.ref f)=some (.type "function"))
  (h:codeAny (model prog w) (A.under (.builtin "type.__call__" ⟨.ref C::vs,kw⟩)) (.call (.ref f) ⟨.ref (s.heap.objs.size+1)::vs,kw⟩) (PySem.W.InitBack (s.heap.objs.size+1) R)
   { s with heap:=(s.heap.push PySem.W.emptyDict).push (PySem.W.instObj C s.heap.objs.size) }) :
  codeAny (model prog w) A (.call (.ref C) ⟨vs,kw⟩) R s:=by
 obtain⟨hh,g,d,t,os⟩:=s
 exact PySem.W.make_core (PySem.W.makes_of X hm) (PySem.W.looks_findIn X hi) (fun self=>PySem.W.bind_fn X self hf) (.inl rfl) h
end

def lL (f:Str) (v:V):List (Str×V)->List (Str×V)
 | []=>[(f,v)]
 | (g,x)::r=>if g=f then (g,v)::r else (g,x)::lL f v r
theorem qZ (f g:Str) (v:V):∀ fs:List (Str×V),(lL f v fs).lookup g=if g=f then some v else fs.lookup g
 | []=>by
  show List.lookup g [(f,v)]=_
  by_cases h:g=f
  ·have hb:(g==f)=true:=fq.mpr h
   simp only[List.lookup,hb,if_pos h]
  ·have hb:(g==f)=false:=jt.mpr h
   simp only[List.lookup,hb,if_neg h]
 | (k,x)::r=>by
  have ih:=qZ f g v r
  rw[show lL f v ((k,x)::r)=(if k=f then (k,v)::r else (k,x)::lL f v r) from rfl]
  by_cases hk:k=f
  ·rw[if_pos hk]
   by_cases h:g=k
   ·have hb:(g==k)=true:=fq.mpr h
    simp only[List.lookup,hb,if_pos (h.trans hk)]
   ·have hb:(g==k)=false:=jt.mpr h
    simp only[List.lookup,hb,if_neg (fun e:g=f=>h (e.trans hk.symm))]
  ·rw[if_neg hk]
   by_cases h:g=k
   ·have hb:(g==k)=true:=fq.mpr h
    simp only[List.lookup,hb,if_neg (fun e:g=f=>hk (h.symm.trans e))]
   ·have hb:(g==k)=false:=jt.mpr h
    simp only[List.lookup,hb]
    exact ih
theorem qx (f:Str) (v:V):∀ fs:List (Str×V),f∈(lL f v fs).map (·.1)/\∀ g,g∈fs.map (·.1)->g∈(lL f v fs).map (·.1)
 | []=>⟨by simp [lL],fun g h=>by simp at h⟩
 | (k,x)::r=>by
  obtain⟨i1,i2⟩:=qx f v r
  rw[show lL f v ((k,x)::r)=(if k=f then (k,v)::r else (k,x)::lL f v r) from rfl]
  by_cases hk:k=f
  ·rw[if_pos hk]
   subst hk
   exact⟨by simp,fun g h=>by simpa using h⟩
  ·rw[if_neg hk]
   refine⟨?_,fun g h=>?_⟩
   ·rw[aR]
    exact List.mem_cons_of_mem _ i1
   ·rw[aR] at h ⊢
    rcases aI.mp h with e | e
    ·exact aI.mpr (.inl e)
    ·exact List.mem_cons_of_mem _ (i2 g e)
theorem qX (f:Str) (v:V):∀ fs:List (Str×V),(lL f v fs).length<=fs.length+1
 | []=>by simp [lL]
 | (k,x)::r=>by
  have ih:=qX f v r
  rw[show lL f v ((k,x)::r)=(if k=f then (k,v)::r else (k,x)::lL f v r) from rfl]
  by_cases hk:k=f
  ·rw[if_pos hk,aO,aO];omega
  ·rw[if_neg hk,aO,aO];omega

theorem lJ.some_of {v:V}{o:Option Value} (r:lJ (some v) o):∃ u,o=some u/\RelV v u:=by
 cases o with
 | none=>exact (show False from r).elim
 | some u=>exact⟨u,rfl,r⟩
theorem lJ.none_of {o:Option Value} (r:lJ none o):o=none:=by
 cases o with
 | none=>rfl
 | some u=>exact (show False from r).elim
theorem Cs {v:V} (r:RelV v u):PySem.W.handedIn u=true:=by
 cases v with
 | non=>cases (show u=Value.none from r);rfl
 | bl b=>cases (show u=Value.bool b from r);rfl
 | int i=>obtain⟨t,e⟩:=(show ∃ t,u=Value.int i t from r);cases e;rfl
 | str x=>obtain⟨t,e⟩:=(show ∃ t,u=Value.str x t from r);cases e;rfl
 | byt b=>obtain⟨t,e⟩:=(show ∃ t,u=Value.bytes b t from r);cases e;rfl
 | flt b=>obtain⟨t,e⟩:=(show ∃ t,u=Value.float b t from r);cases e;rfl
 | ref a=>cases (show u=Value.ref a from r);rfl
 | ty n=>cases (show u=Value.type n from r);rfl

section
variable {P:Program}{w:World}{H H':Hp}{h h':Heap}{a C dx:Addr}{fs fs':List (Str×V)}
theorem rT (hok:HOk P w H h) (e:H a=some (.ins C dx fs)):∃ mA,yz h a dx C mA/\(∀ f,lJ (fs.lookup f) (mA f))/\PySem.Within mA (fs.map (·.1))/\fs.length<=1000/\H dx=some (.own a):=by
 obtain⟨d,z,ne,ob,mA,n,r,q⟩:=(show bM P w H h a (.ins C dx fs) from hok a _ e)
 exact⟨mA,⟨ob,n,ne⟩,r,q,z,d⟩
end

structure Cls (K:PySem.W.Frag) (C:Addr):Prop where
 pg:PySem.W.plainGet K C Str.empty=true
 hd:PySem.W.hasDictIn K C=true
 po:PySem.W.plainOver K C=true
 sa:PySem.W.findIn K (.ref C) "__setattr__"=some (some (.builtin "object.__setattr__"))
theorem Cls.get (c:Cls K C) (f:Str):PySem.W.plainGet K C f=true:=c.pg
def gm (K:PySem.W.Frag) (C:Addr) (f:Str):Prop:=PySem.W.findIn K (.ref C) f=some none
theorem gm.L4 {f:Str} (n:gm K C f):PySem.W.takerIn K C f=some none:=by
 unfold PySem.W.takerIn
 rw[show PySem.W.findIn K (.ref C) f=some none from n]
 rfl
structure Meth (K:PySem.W.Frag) (C:Addr) (m:Str) (f:Addr):Prop where
 at_:PySem.W.findIn K (.ref C) m=some (some (.ref f))
 fn:PySem.W.isFn K (.ref f)=true
 kp:PySem.W.keepIn K (.ref f)=true

section
variable {X:Cx}{pins:List (Addr×Obj)}{σ:St}{H:Hp}{s:Shared}{a C dx:Addr}{fs:List (Str×V)}{f:Str}{v:V}{A:Around}{E:Value->Shared->Prop}

theorem zj {b:Bool}{Q:Value->Shared->Prop} (I:Inv X pins σ H s) (e:H a=some (.ins C dx fs)) (c:Cls X.K C) (n:gm X.K C f) (l:fs.lookup f=some v)
  (h:∀ u s',Inv X pins σ H s'->RelV v u->Q u s'):wpAny (model X.prog X.w) A (getAttr (.ref a) f b) Q E s:=by
 obtain⟨mA,O,r,_,_,_⟩:=rT I.hok e
 obtain⟨u,hu,ru⟩:=lJ.some_of (v:=v) (o:=mA f) (by rw[←l];exact r f)
 exact get_map I.kIn O (c.get f) c.hd n hu (Cs ru) (h u _ (I.tok _) ru)

theorem sE {m:Str}{g:Addr}{pl:Sem Bool}{Q:Value×List Value->Shared->Prop} (I:Inv X pins σ H s) (e:H a=some (.ins C dx fs)) (c:Cls X.K C) (k:Meth X.K C m g) (l:fs.lookup m=none)
  (h:Q (.ref g,[.ref a]) s):wpAny (model X.prog X.w) A (getMethod (.ref a) m pl) Q E s:=by
 obtain⟨mA,O,r,_,_,_⟩:=rT I.hok e
 have hn:mA m=none:=lJ.none_of (by rw[←l];exact r m)
 exact Es I.kIn O (c.get m) k.at_ k.fn hn h

theorem zX {y:V}{Q:Unit->Shared->Prop} (I:Inv X pins σ H s) (e:H a=some (.ins C dx fs)) (c:Cls X.K C) (n:gm X.K C f) (hl:fs.length<1000) (ry:RelV y u)
  (h:∀ s',Inv X pins σ (upd H a (.ins C dx (lL f y fs))) s'->Q () s'):wpAny (model X.prog X.w) A (setAttr (.ref a) f u) Q E s:=by
 obtain⟨mA,O,r,wi,_,ho⟩:=rT I.hok e
 have hz:(fs.map (·.1)).length<=sizeLine:=by rw[List.length_map,ju];omega
 refine HV I.kIn O c.sa c.po n.L4 c.hd wi hz fun h' O' sb=>h _ ?_
 have hd:∃ o,h'.get? dx=some o:=let ⟨o,_,_,e',_⟩:=O'.ns;⟨o,e'⟩
 refine I.write (x:=a) (e:=dx) (by rw[e];exact True.intro) (.inr ho) (fun b q hb z=>(sb.2 b hb).trans z) hd ?_
 refine⟨by rw[aD O.ne];exact ho,?_,O.ne,O'.obj,_,O'.ns,fun g=>?_,fun g hg=>?_⟩
 ·have:=qX f y fs;omega
 ·show lJ ((lL f y fs).lookup g) (if g=f then some u else mA g)
  rw[qZ]
  by_cases q:g=f
  ·rw[if_pos q,if_pos q];exact ry
  ·rw[if_neg q,if_neg q];exact r g
 ·by_cases q:g=f
  ·rw[q];exact (qx f y fs).1
  ·refine (qx f y fs).2 g (wi g fun z=>hg ?_)
   show (if g=f then some u else mA g)=none
   rw[if_neg q];exact z

theorem Inv.made (I:Inv X pins σ H s):Inv X pins σ (upd (upd H s.heap.objs.size (.own (s.heap.objs.size+1))) (s.heap.objs.size+1) (.ins C s.heap.objs.size []))
  { s with heap:=(s.heap.push PySem.W.emptyDict).push (PySem.W.instObj C s.heap.objs.size) }:=by
 have e1:(s.heap.push PySem.W.emptyDict).get? s.heap.objs.size=some PySem.W.emptyDict:=aZ s.heap rfl
 have e2:((s.heap.push PySem.W.emptyDict).push (PySem.W.instObj C s.heap.objs.size)).get? (s.heap.objs.size+1)=some (PySem.W.instObj C s.heap.objs.size):=by
  have:=aZ (s.heap.push PySem.W.emptyDict) (o:=PySem.W.instObj C s.heap.objs.size) rfl
  rwa [iw] at this
 have e3:(s.heap.push PySem.W.emptyDict).Ns s.heap.objs.size (fun _=>none):=⟨PySem.W.emptyDict,#[],_,e1,rfl,(fun e he=>absurd he (by simp)),fun _=>rfl⟩
 have I1:=I.laid (a:=s.heap.objs.size) (o:=.own (s.heap.objs.size+1)) (h':=s.heap.push PySem.W.emptyDict) (t':=s.toks) (fun b u q=>az _ q) (ak _) ⟨_,e1⟩
 refine I1.laid (a:=s.heap.objs.size+1) (o:=.ins C s.heap.objs.size []) (t':=s.toks) (fun b u q=>az _ q) (k6 (iw _ _)) ?_
 have ne:s.heap.objs.size≠s.heap.objs.size+1:=aS (k7 _)
 refine⟨by rw[aD ne,a8],aT _,ne,e2,fun _=>none,(Heap.Ns1.of_empty e3).at fun o q=>az _ q,fun _=>True.intro,fun y hy=>absurd rfl hy⟩

theorem GG {prog:Program}{w:World}{env:Env}{f:Str}{pos:Pos}{s:Shared}{Q:Value->Shared->Prop} (hb:attributeBase e f env (eval e env)=eval e env)
  (h:wpAny (model prog w) A (eval e env) (fun o s₁=>wpAny (model prog w) A (getAttr o f true) Q E s₁) E s):wpAny (model prog w) A (eval (.Attribute e f pos) env) Q E s :=
 Attribute_any_ h (by rw[arm_eval_Attribute,hb])
end

def Mo (K:PySem.W.Frag) (ta:TE) (f:Str):TE:=fun σ H Q=>ta σ H fun x H1=>∃ a C dx fs v,x=.ref a/\H1 a=some (.ins C dx fs)/\Cls K C/\gm K C f/\fs.lookup f=some v/\Q v H1
def Mm (K:PySem.W.Frag) (ta tv:TE) (f:Str):TS:=fun D σ H=>tv σ H fun y H1=>ta σ H1 fun x H2=>∃ a C dx fs,x=.ref a/\H2 a=some (.ins C dx fs)/\Cls K C/\gm K C f/\fs.length<1000 ∧
 D.nx σ (upd H2 a (.ins C dx (lL f y fs)))
section
variable {X:Cx}{o e value:Expr}{f:Str}{pos pos' tpos:Pos}{ta tv:TE}
theorem Kd (he:PE X e ta) (hb:attributeBase e f X.env (eval e X.env)=eval e X.env):PE X (.Attribute e f pos) (Mo X.K ta f):=by
 intro pins s σ H Q I h
 refine GG hb (thn (he pins s σ H _ I h) fun u s1 hz=>?_)
 obtain⟨x,H1,I1,rx,a,C,dx,fs,v,ex,ea,c,n,l,q⟩:=hz
 subst ex
 obtain rfl:u=Value.ref a:=rx
 exact zj I1 ea c n l fun u' s2 I2 ru=>⟨v,H1,I2,ru,q⟩
theorem Kl (ha:PE X o ta) (hv:PE X value tv) (hs:swapsWith value (some (.Attribute o f pos')) pos.line X.env=pure false):PS X (.Assign [.Attribute o f pos'] value pos) (Mm X.K ta tv f):=by
 intro pins s σ H D I h
 refine plainObj_wpAny_Assign_Attribute (thn (hv pins s σ H _ I h) fun u s1 ⟨y,H1,I1,ry,q⟩=>thn (ha pins s1 σ H1 _ I1 q) fun ov s2 hz=>?_) hs
 obtain⟨x,H2,I2,rx,a,C,dx,fs,ex,ea,c,n,l,q2⟩:=hz
 subst ex
 obtain rfl:ov=Value.ref a:=rx
 exact zX I2 ea c n l ry fun s3 I3=>⟨σ,_,I3,q2⟩
end

section
variable {X:Cx}{pins:List (Addr×Obj)}{σ:St}{H:Hp}{s:Shared}{A:Around}{E:Value->Shared->Prop}{Q:Value->Shared->Prop}{c:Value}{b:Bool}
inductive nF (K:PySem.W.Frag) (H:Hp):V->Value->Prop where
 | non:nF K H .non (.type "NoneType")
 | bl (x:Bool):nF K H (.bl x) (.type "bool")
 | int (i:Int):nF K H (.int i) (.type "int")
 | str (x:Str):nF K H (.str x) (.type "str")
 | flt (x:UInt64):nF K H (.flt x) (.type "float")
 | lst {a:Addr}{xs:List V} (e:H a=some (.lst xs)):nF K H (.ref a) (.type "list")
 | frz {a:Addr}{o:Obj}{xs:List V} (e:H a=some (.frz o (.lst xs))):nF K H (.ref a) (.type "list")
 | tup {a:Addr}{xs:List V} (e:H a=some (.tup xs)):nF K H (.ref a) (.type "tuple")
 | dK {a:Addr}{kvs:List (Key×V)} (e:H a=some (.dK kvs)):nF K H (.ref a) (.type "dict")
 | dT {a:Addr}{kvs:List (List Key×V)} (e:H a=some (.dT kvs)):nF K H (.ref a) (.type "dict")
 | ins {a C dx:Addr}{fs:List (Str×V)} (e:H a=some (.ins C dx fs)) (cl:Cls K C) (ha:PySem.W.findIn K (.ref C) "__class__"=some (some (.builtin "object.__class__")))
   (hn:PySem.W.specialIn K (.builtin "object.__class__") "__get__"=some (some (.builtin "getset_descriptor.__get__"))) (htk:PySem.W.takesIn K (.builtin "object.__class__")=some true)
   (hm:PySem.W.mroIn K C (.type "object")=some true):nF K H (.ref a) (.ref C)
theorem isinst_ok {x:V}{u t:Value} (I:Inv X pins σ H s) (rx:RelV x u) (ty:nF X.K H x t) (e:PySem.W.kitOne X.K t c=some b) (h:∀ tk,Q (.bool b) { s with toks:=tk }) :
  wpAny (model X.prog X.w) A (call (.builtin "isinstance") [u,c]) Q E s:=by
 cases ty with
 | non=>cases (show u=Value.none from rx);exact fk PySem.W.kitx_none I.kIn True.intro e (fun z=>nomatch z) h
 | bl y=>cases (show u=Value.bool y from rx);exact fk PySem.W.kitx_bool I.kIn True.intro e (fun z=>nomatch z) h
 | int i=>obtain⟨t,q⟩:=(show ∃ t,u=Value.int i t from rx);cases q;exact fk PySem.W.kitx_int I.kIn True.intro e (fun z=>nomatch z) h
 | str y=>obtain⟨t,q⟩:=(show ∃ t,u=Value.str y t from rx);cases q;exact fk PySem.W.kitx_str I.kIn True.intro e (fun z=>nomatch z) h
 | flt y=>obtain⟨t,q⟩:=(show ∃ t,u=Value.float y t from rx);cases q;exact fk PySem.W.kitx_float I.kIn True.intro e (fun z=>nomatch z) h
 | @lst a xs ea =>
  cases (show u=Value.ref a from rx)
  obtain⟨_,_,n,_,h1⟩:=(show bM X.prog X.w H s.heap a (.lst xs) from I.hok a _ ea)
  exact fk PySem.W.kitx_list I.kIn ⟨_,h1,rfl⟩ e (fun z=>nomatch z) h
 | @frz a ob xs ea =>
  cases (show u=Value.ref a from rx)
  obtain⟨_,_,_,n,_,h1⟩:=(show bM X.prog X.w H s.heap a (.frz ob (.lst xs)) from I.hok a _ ea)
  exact fk PySem.W.kitx_list I.kIn ⟨_,h1,rfl⟩ e (fun z=>nomatch z) h
 | @tup a xs ea =>
  cases (show u=Value.ref a from rx)
  obtain⟨_,_,_,p⟩:=(show bM X.prog X.w H s.heap a (.tup xs) from I.hok a _ ea)
  obtain⟨o,h1,h2,_⟩:=p
  exact fk PySem.W.kitx_tuple I.kIn ⟨o,h1,h2⟩ e (fun z=>nomatch z) h
 | @dK a kvs ea =>
  cases (show u=Value.ref a from rx)
  obtain⟨_,_,vs,_,p⟩:=(show bM X.prog X.w H s.heap a (.dK kvs) from I.hok a _ ea)
  obtain⟨o,es,ep,h1,h2,_⟩:=p
  exact fk PySem.W.kitx_dict I.kIn ⟨o,h1,h2.1⟩ e (fun z=>nomatch z) h
 | @dT a kvs ea =>
  cases (show u=Value.ref a from rx)
  obtain⟨_,_,xs,_,o,es,ep,h1,h2,_⟩:=(show bM X.prog X.w H s.heap a (.dT kvs) from I.hok a _ ea)
  exact fk PySem.W.kitx_dict I.kIn ⟨o,h1,h2.1⟩ e (fun z=>nomatch z) h
 | @ins a C dx fs ea cl ha hn htk hm =>
  cases (show u=Value.ref a from rx)
  obtain⟨mA,O,_⟩:=rT I.hok ea
  obtain⟨od,J,_⟩:=O.look
  exact fk (PySem.W.kitx_own (cl.get _) cl.hd ha hn htk hm) I.kIn J e (fun z=>nomatch z) h
end
end
section

structure eP (k:Nat) (A:Around):Prop where
 hd:A.handled=none
 dp:A.depth+3*k+5<recursionLimit
 un:A.units+16*k+200<cLine
theorem eP.mono {j k:Nat} (r:eP k A) (h:j<=k):eP j A:=⟨r.hd,by have:=r.dp;omega,by have:=r.un;omega⟩
theorem eP.deeper {k:Nat}{A:Around} (r:eP (k+1) A) (env:Env):eP k (A.deeper env) :=
 ⟨r.hd,by have:=r.dp;show A.depth+1+3*k+5<_;omega,by have:=r.un;show A.units+3+16*k+200<_;omega⟩
theorem zv :(A.under (.builtin "type.__call__" ⟨.ref C::us,kw⟩)).depth=A.depth+1:=by
 first | rfl | simp [Around.under,Code.weight,Code.isCreation,Code.isGuard,Code.isCaller,Code.frames,Code.isFrame,guardIds]
theorem zw :(A.under (.builtin "type.__call__" ⟨.ref C::us,kw⟩)).units=A.units+1:=by
 first | rfl | simp [Around.under,Code.cUnits,Code.frames,Code.isFrame]
theorem eP.make {k:Nat} (r:eP (k+1) A) (C:Addr) (us:List Value) (kw:List (Str×Value)):eP k (A.under (.builtin "type.__call__" ⟨.ref C::us,kw⟩)) :=
 ⟨r.hd,by have:=r.dp;rw[zv];omega,by have:=r.un;rw[zw];omega⟩
theorem eP.depth {k:Nat}{A:Around} (r:eP k A):A.depth<recursionLimit:=by have:=r.dp;omega
theorem eP.units {k:Nat}{A:Around} (r:eP k A):A.units+64<cLine:=by have:=r.un;omega
theorem eP.m8 {k:Nat} (r:eP k A):A.units<cLine:=by have:=r.un;omega

def Ae:TA:=fun _ H Q=>Q [] H
def vd (ta:TE) (tr:TA):TA:=fun σ H Q=>ta σ H fun x H1=>tr σ H1 fun xs H2=>Q (x::xs) H2
section
variable {X:Cx}{e:Expr}{es:List Expr}{te:TE}{t:TA}{pos:Pos}
theorem ae:PA X [] Ae:=fun _ _ _ _ H Q I h=>Calls.spliced_nil ⟨[],H,I,.nil,h⟩
theorem Hr (ha:PE X e te) (hr:PA X es t) (hs:starEach (e::es) X.env=(false,eval e X.env)::starEach es X.env:=by rfl):PA X (e::es) (vd te t):=by
 intro pos pins s σ H Q I h
 rw[hs]
 show wpAny _ _ (spliced ((false,eval e X.env)::backTo pos (starEach es X.env))) _ _ s
 refine Calls.spliced_cons (thn (ha pins s σ H _ I h) fun u s1 ⟨x,H1,I1,r1,q1⟩=>?_)
 exact thn (hr pos pins s1 σ H1 _ I1 q1) fun us s2 ⟨xs,H2,I2,r2,q2⟩=>⟨x::xs,H2,I2,.cons r1 r2,q2⟩

end

abbrev Sp:=List V->Hp->VK->XK->Prop
abbrev CXT:=List Env->Hp->Shared->XK->Value->Shared->Prop

structure yw (P:Program) (w:World) (K:PySem.W.Frag) (mg:Str->Option Value) (base:Heap) (A:Around) (outer:List Env) (s:Shared) (H:Hp):Prop where
 frames:A.frames=some outer
 mod:Mod K mg base
 bs:∀ b o,base.get? b=some o->s.heap.get? b=some o/\H b=none
 bsz:base.objs.size<=s.heap.objs.size
 qr:s.heap.FunFrames base outer
 frf:∀ b∈frs outer,H b=none
 hok:HOk P w H s.heap
 bare:AllBare s.gens
def CE (outer:List Env) (P:Program) (w:World) (H:Hp) (s:Shared) (Q:VK) (u:Value) (s':Shared):Prop :=
 ∃ v H',s'.os=s.os/\AllBare s'.gens/\Un (frs outer) [] H H' s.heap s'.heap/\HOk P w H' s'.heap/\RelV v u/\Q v H'
def CR (CX:CXT) (outer:List Env) (P:Program) (w:World) (H:Hp) (s:Shared) (Q:VK) (E:XK) (r:Result) (s':Shared):Prop :=
 match r with
 | .ok (.ret u)=>CE outer P w H s Q u s'
 | .ok _=>False
 | .error e=>CX outer H s E e s'
structure bJ (P:Program) (w:World) (K:PySem.W.Frag) (mg:Str->Option Value) (base:Heap) (CX:CXT) (k:Nat) (f:Addr) (fd:FuncData) (ps:List Str) (sp:Sp):Prop where
 len:∀ vs H Q E,sp vs H Q E->vs.length=ps.length
 run:∀ (A:Around) (outer:List Env) (s:Shared) (H:Hp) (args:Args) (us:List Value) (vs:List V) (Q:VK) (E:XK),eP k A->yw P w K mg base A outer s H->BindsTo s fd args (ps.zip us)->Vals vs us->sp vs H Q E →
  codeAny (model P w) A (.call (.ref f) args) (CR CX outer P w H s Q E) s
theorem bJ.mono {P:Program}{w:World}{K:PySem.W.Frag}{mg:Str->Option Value}{base:Heap}{CX:CXT}{j k:Nat}{f:Addr}{fd:FuncData}{ps:List Str}{sp:Sp} (F:bJ P w K mg base CX j f fd ps sp) (h:j<=k) :
  bJ P w K mg base CX k f fd ps sp:=⟨F.len,fun A outer s H args us vs Q E hr=>F.run A outer s H args us vs Q E (hr.mono h)⟩
theorem yw.make {H:Hp} (e:yw P w K mg base A outer s H) (C:Addr) (us:List Value) (kw:List (Str×Value)) :
  yw P w K mg base (A.under (.builtin "type.__call__" ⟨.ref C::us,kw⟩)) outer s H:=⟨by first | exact e.frames | (simpa [Around.under,Code.envs,Code.isFrame,pushEnvs] using e.frames),e.mod,e.bs,e.bsz,e.qr,e.frf,e.hok,e.bare⟩
section
variable {X:Cx}{pins:List (Addr×Obj)}{σ:St}{H:Hp}{s s':Shared}
theorem Inv.Jx (I:Inv X pins σ H s):yw X.prog X.w X.K X.mg X.base X.A X.stack s H :=
 ⟨I.ok.frames,I.ok.mod,I.bs,aK I.ok.bsz I.sz,I.stack,I.rZ,I.hok,I.bare⟩
theorem Inv.after {Q:VK} (I:Inv X pins σ H s) (h:CE X.stack X.prog X.w H s Q u s'):EP X pins σ Q u s':=by
 obtain⟨v,H',os,bare,un,hok,r,q⟩:=h
 obtain⟨hh,g,d,t,os'⟩:=s'
 obtain rfl:os'=s.os:=os
 exact⟨v,H',I.call (h':=hh) (g':=g) (d':=d) (t':=t) (ch:=[]) un hok bare (fun b z=>absurd z (by simp)),r,q⟩
end

def Bo (sp:Sp) (dvs:List V) (E:St->XK) (t:TA):TE:=fun σ H Q=>t σ H fun vs H1=>sp (vs++dvs) H1 Q (E σ)
def IS (C:Addr) (m:Str) (sp:Sp) (dvs:List V) (E:St->XK) (ta:TE) (t:TA):TE:=fun σ H Q=>ta σ H fun x H1=>∃ a dx fs,x=.ref a/\H1 a=some (.ins C dx fs)/\fs.lookup m=none ∧
 t σ H1 fun vs H2=>sp (x::(vs++dvs)) H2 Q (E σ)
def Lx (C:Addr) (sp:Sp) (dvs:List V) (E:St->XK) (t:TA):TE:=fun σ H Q=>t σ H fun vs H1=>∀ x dx,H1 x=none->H1 dx=none->dx≠x →
 sp (.ref x::(vs++dvs)) (upd (upd H1 dx (.own x)) x (.ins C dx [])) (fun v H2=>v=.non/\Q (.ref x) H2) (E σ)

def Binds (K:PySem.W.Frag) (fd:FuncData) (ps:List Str) (ds:List Value):Prop :=
 ∀ (s:Shared) (us:List Value),K.In s.heap->(us++ds).length=ps.length->BindsTo s fd ⟨us,[]⟩ (ps.zip (us++ds))
theorem Binds.all {fd:FuncData}{ps:List Str} (h:∀ us:List Value,us.length=ps.length->bindArgs fd ⟨us,[]⟩=pure (ps.zip us)):Binds K fd ps []:=fun s us _ hl=>by
 rw[fb] at hl ⊢
 exact .of_eq (h us hl)

def Passes (CX:CXT) (X:Cx) (E:St->XK):Prop:=∀ (pins:List (Addr×Obj)) (σ:St) (H:Hp) (s:Shared) (e:Value) (s':Shared),Inv X pins σ H s->CX X.stack H s (E σ) e s'->X.xe e s'

section
variable {X:Cx}{CX:CXT}{k:Nat}{f C:Addr}{fd:FuncData}{ps:List Str}{sp:Sp}{dvs:List V}{ds:List Value}{E:St->XK}{x m:Str}{p pos apos:Pos}{e o:Expr}{es:List Expr}{ta:TE}{t:TA}

theorem zO {pins:List (Addr×Obj)}{σ:St}{H:Hp}{s:Shared}{Q:VK}{us:List Value}{vs:List V} (F:bJ X.prog X.w X.K X.mg X.base CX k f fd ps sp) (hr:eP k X.A) (hb:Binds X.K fd ps ds) (hd:Vals dvs ds) (hx:Passes CX X E)
  (I:Inv X pins σ H s) (r:Vals vs us) (h:sp (vs++dvs) H Q (E σ)):wpAny (model X.prog X.w) X.A (call (.ref f) us) (EP X pins σ Q) X.xe s:=by
 have r2:Vals (vs++dvs) (us++ds):=r.append hd
 have hl:(us++ds).length=ps.length:=by rw[←r2.length];exact F.len _ _ _ _ h
 refine iE (fR (F.run X.A X.stack s H ⟨us,[]⟩ (us++ds) (vs++dvs) Q (E σ) hr I.Jx (hb s us I.kIn hl) r2 h) fun r s' hq=>?_)
 cases r with
 | error e=>exact hx pins σ H s e s' I hq
 | ok fl =>
  cases fl with
  | ret u=>exact I.after hq
  | next=>exact False.elim hq
  | brk=>exact False.elim hq
  | cont=>exact False.elim hq

theorem Ht (F:bJ X.prog X.w X.K X.mg X.base CX k f fd ps sp) (hr:eP k X.A) (hg:Gl X x) (hm:X.mg x=some (.ref f)) (hk:PySem.W.keepIn X.K (.ref f)=true) (hb:Binds X.K fd ps ds) (hd:Vals dvs ds) (hx:Passes CX X E)
  (ha:PA X (e::es) t) (hdb:(x==("__debug__":Str))=false:=by decide) (he:starEach (e::es) X.env=(false,eval e X.env)::starEach es X.env:=by rfl) (hpl:(backTo pos (starEach es X.env)).any (·.1)=false:=by rfl) :
  PE X (.Call (.Name x p) (e::es) [] pos) (Bo sp dvs E t):=by
 intro pins s σ H Q I h
 refine kB (kM I hg hm ?_ hdb)
 refine qd (h₀:=X.base) I.ok.mod.kin hk (thn (ha pos pins s σ H _ I h) fun us s1 ⟨vs,H1,I1,r,q⟩=>⟨I1.kIn,?_⟩) he hpl
 exact zO F hr hb hd hx I1 r q
theorem Hy {pl:Sem Bool} (he:PE X o ta) (c:Cls X.K C) (hm:Meth X.K C m f) (F:bJ X.prog X.w X.K X.mg X.base CX k f fd ps sp) (hr:eP k X.A) (hb:Binds X.K fd ps ds) (hd:Vals dvs ds) (hx:Passes CX X E) (ha:PA X (e::es) t)
  (hst:starEach (e::es) X.env=(false,eval e X.env)::starEach es X.env:=by rfl) (hpl:(backTo pos (starEach es X.env)).any (·.1)=false:=by rfl)
  (ht:eval (.Call (.Attribute o m apos) (e::es) [] pos) X.env=(do
   let ov ←eval o X.env
   standAt apos.atName
   let (f,first) ←holding [ov] (getMethod ov m pl)
   callWith pos f first (backTo pos (starEach (e::es) X.env)) (backToKw pos (keywordEach [] X.env))):=by rfl) :
  PE X (.Call (.Attribute o m apos) (e::es) [] pos) (IS C m sp dvs E ta t):=by
 intro pins s σ H Q I h
 refine PySem.W.methodCall_KW (pl:=pl) (thn (he pins s σ H _ I h) fun u s1 hz=>?_) ht
 obtain⟨x,H1,I1,rx,a,dx,fs,ex,ea,l,q⟩:=hz
 subst ex
 obtain rfl:u=Value.ref a:=rx
 refine sE I1 ea c hm l ?_
 refine qd (first:=[.ref a]) (h₀:=X.base) I.ok.mod.kin hm.kp (thn (ha pos pins s1 σ H1 _ I1 q) fun us s2 ⟨vs,H2,I2,r,q2⟩=>⟨I2.kIn,?_⟩) hst hpl
 exact zO (us:=.ref a::us) (vs:=.ref a::vs) F hr hb hd hx I2 (.cons rfl r) q2
theorem Fj {pl:Sem Bool} (he:PE X o ta) (c:Cls X.K C) (hm:Meth X.K C m f) (F:bJ X.prog X.w X.K X.mg X.base CX k f fd ps sp) (hr:eP k X.A) (hb:Binds X.K fd ps ds) (hd:Vals dvs ds) (hx:Passes CX X E)
  (ht:eval (.Call (.Attribute o m apos) [] [] pos) X.env=(do
   let ov ←eval o X.env
   standAt apos.atName
   let (f,first) ←holding [ov] (getMethod ov m pl)
   callWith pos f first (backTo pos (starEach [] X.env)) (backToKw pos (keywordEach [] X.env))):=by rfl) :
  PE X (.Call (.Attribute o m apos) [] [] pos) (IS C m sp dvs E ta Ae):=by
 intro pins s σ H Q I h
 refine PySem.W.methodCall_KW (pl:=pl) (thn (he pins s σ H _ I h) fun u s1 hz=>?_) ht
 obtain⟨x,H1,I1,rx,a,dx,fs,ex,ea,l,q⟩:=hz
 subst ex
 obtain rfl:u=Value.ref a:=rx
 refine sE I1 ea c hm l ?_
 exact PySem.W.callWith_K0 (first:=[.ref a]) I1.kIn hm.kp (zO (us:=[.ref a]) (vs:=[.ref a]) F hr hb hd hx I1 (.cons rfl .nil) q)

structure Mk (K:PySem.W.Frag) (C f:Addr):Prop where
 makes:PySem.W.makesIn K C=true
 init:PySem.W.findIn K (.ref C) "__init__"=some (some (.ref f))
 fn:PySem.W.isFn K (.ref f)=true
 kp:PySem.W.keepIn K (.ref C)=true

theorem FC {pins:List (Addr×Obj)}{σ:St}{H:Hp}{s:Shared}{Q:VK}{us:List Value}{vs:List V} (M:Mk X.K C f) (F:bJ X.prog X.w X.K X.mg X.base CX k f fd ps sp) (hr:eP (k+1) X.A) (hb:Binds X.K fd ps ds) (hd:Vals dvs ds)
  (hx:Passes CX X E) (I:Inv X pins σ H s) (r:Vals vs us)
  (h:∀ x dx,H x=none->H dx=none->dx≠x->sp (.ref x::(vs++dvs)) (upd (upd H dx (.own x)) x (.ins C dx [])) (fun v H2=>v=.non/\Q (.ref x) H2) (E σ)) :
  wpAny (model X.prog X.w) X.A (call (.ref C) us) (EP X pins σ Q) X.xe s:=by
 have hq:=h (s.heap.objs.size+1) s.heap.objs.size (I.hok.fresh (fN _)) (I.hok.fresh (ak _)) (aS (k7 _))
 have I2:=Inv.made (C:=C) I
 have r2:Vals (V.ref (s.heap.objs.size+1)::(vs++dvs)) (Value.ref (s.heap.objs.size+1)::(us++ds)):=.cons rfl (r.append hd)
 have hl:(Value.ref (s.heap.objs.size+1)::us++ds).length=ps.length:=by
  have e:=r2.length
  rw[F.len _ _ _ _ hq] at e
  exact e.symm
 refine iE (EH (f:=f) I.kIn M.makes M.init (fq.mp M.fn) (fR (F.run _ X.stack _ _ ⟨Value.ref (s.heap.objs.size+1)::us,[]⟩ (Value.ref (s.heap.objs.size+1)::(us++ds)) _ _ (E σ) (hr.make C us [])
  (I2.Jx.make C us []) (hb _ (Value.ref (s.heap.objs.size+1)::us) I2.kIn hl) r2 hq) fun r s' hq'=>?_))
 cases r with
 | error e=>exact hx pins σ _ _ e s' I2 hq'
 | ok fl =>
  cases fl with
  | ret u =>
   obtain⟨v,H',I3,rv,ev,q3⟩:=I2.after hq'
   subst ev
   exact⟨rv,⟨V.ref (s.heap.objs.size+1),H',I3,rfl,q3⟩⟩
  | next=>exact False.elim hq'
  | brk=>exact False.elim hq'
  | cont=>exact False.elim hq'
theorem Hx (M:Mk X.K C f) (F:bJ X.prog X.w X.K X.mg X.base CX k f fd ps sp) (hr:eP (k+1) X.A) (hg:Gl X x) (hm:X.mg x=some (.ref C)) (hb:Binds X.K fd ps ds) (hd:Vals dvs ds) (hx:Passes CX X E)
  (ha:PA X (e::es) t) (hdb:(x==("__debug__":Str))=false:=by decide) (he:starEach (e::es) X.env=(false,eval e X.env)::starEach es X.env:=by rfl) (hpl:(backTo pos (starEach es X.env)).any (·.1)=false:=by rfl) :
  PE X (.Call (.Name x p) (e::es) [] pos) (Lx C sp dvs E t):=by
 intro pins s σ H Q I h
 refine kB (kM I hg hm ?_ hdb)
 refine qd (h₀:=X.base) I.ok.mod.kin M.kp (thn (ha pos pins s σ H _ I h) fun us s1 ⟨vs,H1,I1,r,q⟩=>⟨I1.kIn,?_⟩) he hpl
 exact FC M F hr hb hd hx I1 r q
end

section
variable {X:Cx}{CX:CXT}{k:Nat}{f C:Addr}{fd:FuncData}{ps ks:List Str}{sp:Sp}{E:St->XK}{x m:Str}{p pos apos kpos:Pos}{e o:Expr}{es:List Expr}{kws:List Keyword}{te ta:TE}{t tk:TA}{nm:Option Str}
variable {g:List Value->List Value->List Value}{gV:List V->List V->List V}
end

structure aG (N P:List Str) (sc:Scope):Prop where
 kind:sc.kind=.function
 co:sc.isCoroutine=false
 gen:sc.isGenerator=false
 nd:N.Nodup
 pre:N.take P.length=P
 par:∀ x∈P,sc.names.lookup x=some .local∨sc.names.lookup x=some .cell
 nofree:∀ y∈sc.names,y.2≠.free

theorem u6 {kindOf:Str->Option NameKind}{x:Str}:∀ {binds:List (Str×Value)}{m:Str->Option Value},(∀ v,(x,v)∉binds)->bindL kindOf binds m x=m x
 | [],_,_=>rfl
 | (n,v)::r,m,h=>by
  unfold bindL
  rw[u6 fun w hw=>h w (List.mem_cons_of_mem _ hw)]
  split
  ·have:x≠n:=by rintro rfl;exact h v List.mem_cons_self
   simp [this]
  ·rfl
theorem u4 {kindOf:Str->Option NameKind}{x:Str}:∀ {binds:List (Str×Value)}{m:Str->Option Value},(∀ v,(x,v)∉binds)->bindC kindOf binds m x=m x
 | [],_,_=>rfl
 | (n,v)::r,m,h=>by
  unfold bindC
  rw[u4 fun w hw=>h w (List.mem_cons_of_mem _ hw)]
  split
  ·rfl
  ·have:x≠n:=by rintro rfl;exact h v List.mem_cons_self
   simp [this]
theorem u5 {kindOf:Str->Option NameKind}{x:Str}{v:Value}:∀ {P:List Str}{vs:List Value}{i:Nat}{m:Str->Option Value},P.Nodup->P[i]?=some x->vs[i]?=some v->kindOf x=some .local →
  bindL kindOf (P.zip vs) m x=some v
 | [],_,_,_,_,h,_,_=>by simp at h
 | _::_,[],_,_,_,_,h,_=>by simp at h
 | p::P,w::vs,0,m,nd,h1,h2,hk=>by
  simp at h1 h2;subst h1;subst h2
  show bindL kindOf ((p,w)::P.zip vs) m p=_
  unfold bindL
  rw[u6 fun v hv=>(dS.mp nd).1 (mS hv).1,if_pos hk]
  simp
 | p::P,w::vs,i+1,m,nd,h1,h2,hk=>by
  show bindL kindOf ((p,w)::P.zip vs) m x=_
  unfold bindL
  exact u5 (i:=i) (dS.mp nd).2 (by simpa using h1) (by simpa using h2) hk
theorem uz {kindOf:Str->Option NameKind}{x:Str}{v:Value}:∀ {P:List Str}{vs:List Value}{i:Nat}{m:Str->Option Value},P.Nodup->P[i]?=some x->vs[i]?=some v->kindOf x≠some .local →
  bindC kindOf (P.zip vs) m x=some v
 | [],_,_,_,_,h,_,_=>by simp at h
 | _::_,[],_,_,_,_,h,_=>by simp at h
 | p::P,w::vs,0,m,nd,h1,h2,hk=>by
  simp at h1 h2;subst h1;subst h2
  show bindC kindOf ((p,w)::P.zip vs) m p=_
  unfold bindC
  rw[u4 fun v hv=>(dS.mp nd).1 (mS hv).1,if_neg hk]
  simp
 | p::P,w::vs,i+1,m,nd,h1,h2,hk=>by
  show bindC kindOf ((p,w)::P.zip vs) m x=_
  unfold bindC
  exact uz (i:=i) (dS.mp nd).2 (by simpa using h1) (by simpa using h2) hk

def start (N:List Str) (vs:List V):St:=vs.map some++List.replicate (N.length-vs.length) none

def ui (CX:CXT) (P:Program) (w:World) (K:PySem.W.Frag) (mg:Str->Option Value) (base:Heap) (N:List Str) (qual:Str) (scope:Scope) (f:Addr) (cd:Value) (A:Around) (outer:List Env) (s:Shared) (H:Hp) (E:XK):Cx where
 prog:=P
 w:=w
 K:=K
 mg:=mg
 base:=base
 A:=A.deeper (envOfC qual scope s.heap.objs.size f cd)
 N:=N
 s₀:=s
 H₀:=H
 env:=envOfC qual scope s.heap.objs.size f cd
 outer:=outer
 stack:=envOfC qual scope s.heap.objs.size f cd::outer
 ex:=[]
 calm:=true
 fn:=fun _=>true
 pn:=[]
 xe:=fun e s'=>wpAny (model P w) (A.deeper (envOfC qual scope s.heap.objs.size f cd)) (leaving (envOfC qual scope s.heap.objs.size f cd) e) (fun _ s''=>CX outer H s E e s'') (fun e' s''=>CX outer H s E e' s'') s'

theorem wI {sc:Scope}{n:Nat} (h:sc.names.lookup x=some .cell):∃ c,(cellsFrom n sc.names []).lookup x=some c:=by
 have q:=PySem.W.cellsFrom_some sc.names n [] (.inl h)
 exact Option.isSome_iff_exists.mp q

theorem Cz {CX:CXT}{P:Program}{w:World}{K:PySem.W.Frag}{mg:Str->Option Value}{base:Heap}{N ps:List Str}{qual:Str}{scope:Scope}{f:Addr}{cd:Value}{A:Around}{outer:List Env}{s s1:Shared}{H:Hp}{E:XK}{us:List Value}{vs:List V}
  (S:aG N ps scope) (hd:A.handled=none) (e0:yw P w K mg base A outer s H) (hl:vs.length=ps.length) (r:Vals vs us)
  (x:InCallC s s.heap.objs.size (bindL (envOfC qual scope s.heap.objs.size f cd).kindOf (ps.zip us) fun _=>none) (cellsFrom (s.heap.objs.size+1) scope.names []) (bindC (envOfC qual scope s.heap.objs.size f cd).kindOf (ps.zip us) fun _=>none) s1) :
  Inv (ui CX P w K mg base N qual scope f cd A outer s H E) [] (start N vs) H s1:=by
 have hpl:ps.length<=N.length:=by have:=bu List.length S.pre;rw[bw] at this;omega
 obtain⟨h1,tk,rfl,hk⟩:=x.done
 have noA:∀ b:Addr,b∉(ui CX P w K mg base N qual scope f cd A outer s H E).ex:=fun b z=>absurd (show b∈([]:List Addr) from z) (by simp)
 refine⟨⟨e0.mod,S.kind,rfl,rfl,ak _,fun y z c h1 h2=>?_,fun y hy=>?_,fun y c _ h=>?_,fun _=>hd,Around.frames_deeper e0.frames,.inr ⟨rfl,rfl⟩,fun b z=>absurd z (noA b),e0.bs,e0.bsz,fun b _ _=>noA b,fun b z=>absurd z (noA b),e0.qr,e0.frf⟩,
  rfl,e0.bare,Un.kept hk,⟨_,x.toInCall.ns,fun i y v h1 h2 h3=>?_⟩,fun y c h=>⟨_,x.cell y c h⟩,e0.hok.fresh (ak _),fun y c h=>?_,fun p hp=>absurd (show p∈([]:List (Addr×Obj)) from hp) (by simp),e0.hok.kept hk,?_⟩
 ·exact name_of_addr x.apart (mX h1) (mX h2)
 ·have hy:scope.names.lookup y=some .cell∨scope.names.lookup y=some .free:=hy
  rcases hy with hy | hy
  ·exact wI hy
  ·exact absurd rfl (S.nofree _ (mX hy))
 ·exact aP (x.above y c (mX h))
 ·have hi:i<vs.length:=by
   unfold start at h2
   by_cases hi:i<vs.length
   ·exact hi
   ·rw[gH (by simpa using hi)] at h2
    rw[List.getElem?_replicate] at h2
    split at h2<;>cases h2
  have ha:vs[i]?=some v:=by
   unfold start at h2
   rw[i4 (by simpa using hi),aJ] at h2
   cases e:vs[i]? with
   | none=>rw[e] at h2;cases h2
   | some a=>rw[e] at h2;cases h2;rfl
  obtain⟨u,hu,rv⟩:=r.get ha
  have hp:ps[i]?=some y:=by
   rw[←S.pre,List.getElem?_take_of_lt (by omega)];exact h1
  have ndP:ps.Nodup:=by rw[←S.pre];exact S.nd.sublist (List.take_sublist _ _)
  refine⟨u,rv,?_⟩
  rcases S.par y (bG hp) with k | k
  ·exact .inl ⟨k,u5 ndP hp hu k⟩
  ·obtain⟨c,e⟩:=wI (n:=s.heap.objs.size+1) k
   refine .inr ⟨.inl k,c,e,?_⟩
   have q:=x.cell y c e
   rw[uz ndP hp hu (by show scope.names.lookup y≠_;rw[k];decide)] at q
   exact q
 ·exact e0.hok.fresh (aP (x.above y c (mX h)))
 ·unfold start
  show _=N.length
  rw[List.length_append,List.length_map,List.length_replicate]
  omega

theorem Iq {CX:CXT}{P:Program}{w:World}{K:PySem.W.Frag}{mg:Str->Option Value}{base:Heap}{k:Nat}{f:Addr}{name qual:Str}{params:Arguments}{body:List Stmt}{scope:Scope}{dV kV doc pm cdv ct oc:Value}{an od:Option Addr}
  {osl:Array (Option Value)}{N ps:List Str}{sp:Sp} (lk:K.lookup f=some ⟨oc,od,.func (PySem.W.fnOf name qual params body scope dV kV doc pm an cdv ct),osl⟩) (hcd:PySem.W.codeIn K cdv qual=true) (S:aG N ps scope)
  (len:∀ vs H Q E,sp vs H Q E->vs.length=ps.length)
  (hbody:∀ (A:Around) (outer:List Env) (s:Shared) (H:Hp) (vs:List V) (Q:VK) (E:XK),eP k (A.deeper (envOfC qual scope s.heap.objs.size f cdv))->sp vs H Q E →
   ∃ t,PSs (ui CX P w K mg base N qual scope f cdv A outer s H E) body t/\t { nx:=fun _ H'=>Q .non H',rt:=Q } (start N vs) H) :
  bJ P w K mg base CX (k+1) f (PySem.W.fnOf name qual params body scope dV kV doc pm an cdv ct) ps sp:=by
 refine⟨len,fun A outer s H args us vs Q E hr e0 hb r hsp=>?_⟩
 have hl:=len _ _ _ _ hsp
 have KX:K.In s.heap:=e0.mod.kin.keeps fun b o e=>(e0.bs b o e).1
 have lim:s.heap.NoLimit:=e0.mod.nolimit.keeps fun b o e=>(e0.bs b o e).1
 have hkind:∀ y∈ps.zip us,scope.names.lookup y.1=some .local∨(scope.names.lookup y.1=some .cell/\((cellsFrom (s.heap.objs.size+1) scope.names []).lookup y.1).isSome=true):=fun ⟨n,v⟩ hy=>by
  rcases S.par n (mS hy).1 with q | q
  ·exact .inl q
  ·exact .inr ⟨q,PySem.W.cellsFrom_some _ _ _ (.inl q)⟩
 refine codeAny_call_function hr.depth (KX _ _ lk) rfl S.co S.gen rfl (PySem.W.codeRec_of KX hcd) (hb _ _ _ _ ?_)
 refine wpAny_newFunctionEnv_cells S.kind hkind fun env he s1 x=>?_
 subst he
 refine⟨lim.keeps x.toInCall.keep,codeAny_func ?_⟩
 obtain⟨t,ht,hq⟩:=hbody A outer s H vs Q E (hr.deeper _) hsp
 have I:Inv (ui CX P w K mg base N qual scope f cdv A outer s H E) [] (start N vs) H s1:=Cz S hr.hd e0 hl r x
 refine bO (ht [] s1 (start N vs) H _ I hq) (fun fl s' hs=>?_) fun e s' hs=>hs
 have fin:∀ {σ':St}{H':Hp}{v:V}{u:Value},Inv (ui CX P w K mg base N qual scope f cdv A outer s H E) [] σ' H' s'->RelV v u->Q v H'->CE outer P w H s Q u s' :=
  fun {σ' H' v u} J rv q=>⟨v,H',J.os,J.bare,J.base,J.hok,rv,q⟩
 cases fl with
 | ret u =>
  obtain⟨v,σ',H',J,rv,q⟩:=hs
  exact fin J rv q
 | next =>
  obtain⟨σ',H',J,q⟩:=hs
  exact fin (v:=V.non) (u:=Value.none) J rfl q
 | brk =>
  obtain⟨_,_,_,q⟩:=hs
  exact False.elim q
 | cont =>
  obtain⟨_,_,_,q⟩:=hs
  exact False.elim q
end
section
section
variable {X:Cx}{x:Str}{p pos:Pos}{e:Expr}{es:List Expr}{t:TA}{id T:String}{r:List V->Hp->VK->Prop}

def tCB (r:List V->Hp->VK->Prop) (t:TA):TE:=fun σ H Q=>t σ H fun vs H1=>r vs H1 Q
theorem Fd (hc:cW X (.builtin id) r) (hg:Gl X x) (hm:X.mg x=none) (hv:bootBuiltins x=some (.builtin id)) (ha:PA X (e::es) t) (hn:x≠"__name__":=by decide) (hdb:(x==("__debug__":Str))=false:=by decide)
  (he:starEach (e::es) X.env=(false,eval e X.env)::starEach es X.env:=by rfl) (hpl:(backTo pos (starEach es X.env)).any (·.1)=false:=by rfl):PE X (.Call (.Name x p) (e::es) [] pos) (tCB r t):=by
 intro pins s σ H Q I h
 refine kB (nL I hg hm hv ?_ hn hdb)
 exact PyProof.Rows.callWith_builtin1 (thn (ha pos pins s σ H _ I h) fun us s1 ⟨vs,H1,I1,r1,q1⟩=>hc pins s1 σ H1 vs us Q I1 r1 q1) he hpl
theorem CS (hc:cW X (.type T) r) (hg:Gl X x) (hm:X.mg x=none) (hv:bootBuiltins x=some (.type T)) (ha:PA X (e::es) t) (hn:x≠"__name__":=by decide) (hdb:(x==("__debug__":Str))=false:=by decide)
  (he:starEach (e::es) X.env=(false,eval e X.env)::starEach es X.env:=by rfl) (hpl:(backTo pos (starEach es X.env)).any (·.1)=false:=by rfl):PE X (.Call (.Name x p) (e::es) [] pos) (tCB r t):=by
 intro pins s σ H Q I h
 refine kB (nL I hg hm hv ?_ hn hdb)
 exact mW (thn (ha pos pins s σ H _ I h) fun us s1 ⟨vs,H1,I1,r1,q1⟩=>hc pins s1 σ H1 vs us Q I1 r1 q1) he hpl
end
end
end L2

namespace HT
open PySem PyProof.Rows

theorem Ea (A:Around) (s:Shared) (a:Int) (t:Tok) (c:Int) (u:Tok):∃ e,SeqAt.EqAt A s (.int a t) (.int c u) e/\(e=true↔a=c) :=
 ⟨(a==c),SeqAt.EqAt.int_int a t c u,by simp⟩
section
open PySem.SeqAt
open PySem.AutoSeq1 (wpAny_loadPart')
open PySem.MeetsSeq PySem.MeetsSeq2 PySem.MeetsSeq3

end

section
variable {prog:Program}{w:World}{A:Around}{E:Value->Shared->Prop}{s:Shared}

def sIx (n d:Nat):Option Int->Nat
 | none=>d
 | some v=>if v<0 then (v+(n:Int)).toNat else min v.toNat n
theorem oW (n d:Nat):sIx n d none=d:=rfl
theorem ny (n d k:Nat):sIx n d (some (k:Int))=min k n:=by
 show (if (k:Int)<0 then ((k:Int)+(n:Int)).toNat else min (k:Int).toNat n)=min k n
 rw[if_neg (by omega),da]
theorem FE (n d:Nat) (hd:d<=n) (o:Option Int):sIx n d o<=n:=by
 cases o with
 | none=>exact hd
 | some v =>
  show (if v<0 then (v+(n:Int)).toNat else min v.toNat n)<=n
  by_cases hv:v<0
  ·rw[if_pos hv];omega
  ·rw[if_neg hv];exact mV _ _
end
end HT

namespace L2
open PySem PySem.Spec PyProof.Rows
variable {A:Around}{H:Hp}{H':Hp}{P:Program}{Q:Value->Shared->Prop}{X:Cx}{a:Addr}{h':Heap}{i:Int}{j:Nat}{kvs:List (List Key×V)}{o:Option V}{pins:List (Addr×Obj)}{s:Shared}{t':Nat}{u:Value}{us:List Value}{w:World}{x:V}{xs:List (List Key×Addr×Value)}{y:V}{α:Type}{σ:St}
section

abbrev TO:=St->Hp->(Option Int->Hp->Prop)->Prop
def PO (X:Cx) (e:Option Expr) (t:TO):Prop :=
 ∀ (pins:List (Addr×Obj)) (s:Shared) (σ:St) (H:Hp) (Q:Option Int->Hp->Prop),Inv X pins σ H s->t σ H Q →
  wpAny (model X.prog X.w) X.A (evalPart e X.env) (fun u s'=>∃ o H',Inv X pins σ H' s'/\IsPart u o/\Q o H') X.xe s
def Bq:TO:=fun _ H Q=>Q none H
def IU (t:TE):TO:=fun σ H Q=>t σ H fun x H1=>∃ i,x=.int i/\Q (some i) H1

theorem intsAre_of {ns:List Int}:∀ {us:List Value},Vals (ns.map V.int) us->IntsAre us ns:=by
 induction ns with
 | nil=>intro us r;rw[i9] at r;cases r;exact .nil
 | cons n ns ih =>
  intro us r
  rw[aR] at r
  cases r with
  | cons r1 r2 =>
   obtain⟨t,e⟩:=r1
   subst e
   exact .cons n t (ih r2)

section
variable {X:Cx}{e:Expr}{te:TE}{lo hi:Option Expr}{tl th:TO}{pos p2:Pos}

theorem dJ:PO X none Bq:=by
 intro pins s σ H Q I h
 rw[evalPart_none]
 exact ah ⟨none,H,I,.none,h⟩
theorem di (h:PE X e te):PO X (some e) (IU te):=by
 intro pins s σ H Q I hw
 rw[evalPart_some]
 refine thn (h pins s σ H _ I hw) fun u s1 ⟨x,H1,I1,r1,q1⟩=>?_
 obtain⟨i,rfl,q⟩:=q1
 obtain⟨t,rfl⟩:=r1
 exact⟨some i,H1,I1,.int i t,q⟩

def SlR (X:Cx) (r:V->Option Int->Option Int->Hp->VK->Prop):Prop :=
 ∀ (pins:List (Addr×Obj)) (s:Shared) (σ:St) (H:Hp) (x:V) (v vl vu:Value) (lo hi:Option Int) (sl:Addr) (Q:VK),Inv X pins σ H s->RelV x v->s.heap.IsSliceOf sl vl vu .none->IsPart vl lo->IsPart vu hi->r x lo hi H Q →
  ∃ T id,typeLookup (.type T) "__getitem__"=pure (some (.builtin id))/\s.TypeIs v T/\wpAny (model X.prog X.w) X.A (getItem v (.ref sl)) (EP X pins σ Q) X.xe s
def tSl (r:V->Option Int->Option Int->Hp->VK->Prop) (te:TE) (tl th:TO):TE:=fun σ H Q=>te σ H fun x H1=>tl σ H1 fun l H2=>th σ H2 fun u H3=>r x l u H3 Q
theorem cG {r:V->Option Int->Option Int->Hp->VK->Prop} (hr:SlR X r) (he:PE X e te) (hl:PO X lo tl) (hu:PO X hi th):PE X (.Subscript e (.Slice lo hi none p2) pos) (tSl r te tl th):=by
 intro pins s σ H Q I h
 refine Subscript_ (thn (he pins s σ H _ I h) fun v s1 ⟨x,H1,I1,r1,q1⟩=>?_)
 refine wpAny_Slice (thn (hl pins s1 σ H1 _ I1 q1) fun vl s2 ⟨l,H2,I2,pl,q2⟩=>thn (hu pins s2 σ H2 _ I2 q2) fun vu s3 ⟨u,H3,I3,pu,q3⟩=>?_)
 rw[evalPart_none]
 refine ah ?_
 have I4:Inv X pins σ H3 { s3 with heap:=s3.heap.push { cls:=.type "slice",data:=.fields #[vl,vu,.none] } }:=I3.kept (t':=s3.toks) fun b ob q=>az _ q
 obtain⟨T,id,hT,ht,hg⟩:=hr pins { s3 with heap:=s3.heap.push { cls:=.type "slice",data:=.fields #[vl,vu,.none] } } σ H3 x v vl vu l u s3.heap.objs.size Q I4 r1 (Heap.IsSliceOf.new ..) pl pu q3
 show wpAny (model X.prog X.w) X.A (subscriptTail e (.Slice lo hi none p2) v (.ref s3.heap.objs.size)) (EP X pins σ Q) X.xe { s3 with heap:=s3.heap.push { cls:=.type "slice",data:=.fields #[vl,vu,.none] } }
 exact tail_any (ops:=[.ref s3.heap.objs.size,v]) ht hT hg (by with_unfolding_all rfl)

def lP (xs:List V) (lo hi:Option Int):List V:=(xs.drop (HT.sIx xs.length 0 lo)).take (HT.sIx xs.length xs.length hi-HT.sIx xs.length 0 lo)
theorem wL (xs:List V) (lo hi:Option Int):(lP xs lo hi).length<=xs.length:=by
 unfold lP
 rw[bw,bK]
 omega
end
end
section

def ixN (n:Nat) (i:Int):Option Nat:=if 0<=i then (if i<n then some i.toNat else none) else if -(n:Int)<=i then some (i+n).toNat else none
def atI {α:Type} (xs:List α) (i:Int):Option α:=(ixN xs.length i).bind fun j=>xs[j]?
theorem AM {n:Nat} (h:ixN n i=some j):seqIndex? i n=some j/\j<n/\-(n:Int)<=i/\i<n:=by
 unfold ixN at h
 by_cases h0:0<=i
 ·rw[if_pos h0] at h
  by_cases h1:i<n
  ·rw[if_pos h1] at h
   have e:i.toNat=j:=Option.some.inj h
   exact⟨by rw[seqIndex_of h0 h1,e],by omega,by omega,h1⟩
  ·rw[if_neg h1] at h;cases h
 ·rw[if_neg h0] at h
  by_cases h1:-(n:Int)<=i
  ·rw[if_pos h1] at h
   have e:(i+n).toNat=j:=Option.some.inj h
   exact⟨by rw[seqIndex_neg (by omega) h1,e],by omega,h1,by omega⟩
  ·rw[if_neg h1] at h;cases h
theorem vo {xs:List α}{v:α} (h:atI xs i=some v):∃ j,seqIndex? i xs.length=some j/\xs[j]?=some v/\j<xs.length/\-(xs.length:Int)<=i/\i<xs.length:=by
 unfold atI at h
 cases e:ixN xs.length i with
 | none=>rw[e] at h;cases h
 | some j =>
  rw[e] at h
  obtain⟨h1,h2,h3,h4⟩:=AM e
  exact⟨j,h1,h,h2,h3,h4⟩
theorem bY {xs:List α}{v:α} (h:xs[j]?=some v):atI xs (j:Int)=some v:=by
 have hj:j<xs.length:=(bf.mp h).1
 have e:ixN xs.length (j:Int)=some j:=by
  unfold ixN
  rw[if_pos (by omega),if_pos (by omega)];simp
 unfold atI;rw[e];exact h
def Gb (b:Expr):Prop:=∀ o i,subscripted b false o i=operate [o,i] (getItem o i)
def IxR (X:Cx) (r:R2):Prop :=
 ∀ (value slice:Expr) (pins:List (Addr×Obj)) (s:Shared) (σ:St) (H:Hp) (x y:V) (v u:Value) (Q:VK),Inv X pins σ H s->RelV x v->RelV y u->r x y H Q →
  subscripted slice false v u=operate [v,u] (getItem v u)->wpAny (model X.prog X.w) X.A (subscriptTail value slice v u) (EP X pins σ Q) X.xe s
def MtR (X:Cx) (id:String) (r:V->List V->Hp->VK->Prop):Prop :=
 ∀ (pins:List (Addr×Obj)) (s:Shared) (σ:St) (H:Hp) (x:V) (xs:List V) (v:Value) (us:List Value) (Q:VK),Inv X pins σ H s->RelV x v->Vals xs us->r x xs H Q →
  wpAny (model X.prog X.w) X.A (call (.builtin id) (v::us)) (EP X pins σ Q) X.xe s
section
variable {X:Cx}{a b:Expr}{ta tb:TE}{pos:Pos}
theorem bP {r:R2} (hr:IxR X r) (ha:PE X a ta) (hb:PE X b tb) (hs:Gb b):PE X (.Subscript a b pos) (tOp r ta tb):=by
 intro pins s σ H Q I h
 exact Subscript_ (Jr ha hb I h fun v u s2 x y H2 I2 rx ry q=>hr a b pins s2 σ H2 x y v u Q I2 rx ry q (hs _ _))

def Me (K:PySem.W.Frag):R2:=fun x y H Q=>∃ p xs i v,x=.ref p/\y=.int i/\SqL K H p xs/\atI xs i=some v/\Q v H
def Mg (K:PySem.W.Frag):R2:=fun x y H Q=>∃ p xs i v,x=.ref p/\y=.int i/\SqT K H p xs/\atI xs i=some v/\Q v H
def Mf:R2:=fun x y H Q=>∃ z i c,x=.str z/\y=.int i/\z.length<=sizeLine/\atI z.cps.toList i=some c/\Q (.str ⟨#[c]⟩) H
theorem Hc:IxR X (Me X.K):=by
 intro value slice pins s σ H x y v u Q I rx ry h hs
 obtain⟨p,xs,i,z,rfl,rfl,hq,he,q⟩:=h
 cases rx
 obtain⟨t,rfl⟩:=ry
 obtain⟨its,r,pl,hz⟩:=I.list hq
 obtain⟨j,h1,h2,h3,h4,h5⟩:=vo he
 obtain⟨w,ew,rw'⟩:=r.get h2
 have hl:=r.length
 have hn:=qz
 have fin:EP X pins σ Q w s:=⟨z,H,I,rw',q⟩
 by_cases h0:0<=i
 ·have hj:i.toNat=j:=by
   rw[seqIndex_of h0 h5] at h1
   exact Option.some.inj h1
  exact item_listR pl.isList h0 (by omega) (by rw[hj];simpa using ew) fin hs
 ·have hj:(i+(its.toArray.size:Int)).toNat=j:=by
   rw[seqIndex_neg (by omega) h4] at h1
   rw[br,←hl]
   exact Option.some.inj h1
  exact subscriptTail_builtinR (x:=w) pl.isList.typeIs slot_list_getitem.lookup
   (wpAny_getItem_list_neg (Q:=fun r s'=>r=w/\EP X pins σ Q r s') pl.isList (by omega) (by rw[br]<;>omega) (by omega) (by rw[hj];simpa using ew) ⟨rfl,fin⟩) hs
theorem J8:IxR X (Mg X.K):=by
 intro value slice pins s σ H x y v u Q I rx ry h hs
 obtain⟨p,xs,i,z,rfl,rfl,hq,he,q⟩:=h
 cases rx
 obtain⟨t,rfl⟩:=ry
 obtain⟨its,r,pl,hz⟩:=I.tuple hq
 obtain⟨j,h1,h2,h3,h4,h5⟩:=vo he
 obtain⟨w,ew,rw'⟩:=r.get h2
 have hl:=r.length
 have hn:=qz
 have fin:EP X pins σ Q w s:=⟨z,H,I,rw',q⟩
 exact subscriptTail_builtinR (x:=w) pl.typeIs slot_tuple_getitem.lookup
  (getItem_tuple (j:=j) (Q:=fun r s'=>r=w/\EP X pins σ Q r s') pl (by omega) (by omega) (by rw[br,←hl];exact h1) (by simpa using ew) ⟨rfl,fin⟩) hs
theorem J7:IxR X Mf:=by
 intro value slice pins s σ H x y v u Q I rx ry h hs
 obtain⟨z,i,c,rfl,rfl,hz,he,q⟩:=h
 obtain⟨t,rfl⟩:=rx
 obtain⟨t',rfl⟩:=ry
 obtain⟨j,h1,h2,h3,h4,h5⟩:=vo he
 have hl:z.cps.toList.length=z.length:=by simp [Str.length]
 rw[hl] at h1 h4 h5
 have hn:=qz
 exact tail_any (typeIs_str s z t) slot_str_getitem.lookup (getItem_str (c:=c) (by
  have e1:decide (i < -(2^63:Int))=false:=decide_eq_false (by omega)
  have e2:decide (i≥2^63)=false:=decide_eq_false (by omega)
  rw[e1,e2,Bool.or_false]) (by rw[h1];simpa using h2) ⟨.str ⟨#[c]⟩,H,I.tok _,⟨_,rfl⟩,q⟩) hs
theorem zx (its:List Value) (n j:Nat) (u:Value):Obj.mapSeq (·.setIfInBounds j u) { cls:=.type "list",data:=.seq its.toArray n }={ cls:=.type "list",data:=.seq (its.set j u).toArray n }:=by
 simp [Obj.mapSeq]
theorem Inv.lst {pins:List (Addr×Obj)}{σ:St}{H:Hp}{s:Shared}{p:Addr}{xs:List V} (I:Inv X pins σ H s) (h:H p=some (.lst xs)) :
  ∃ (its:List Value) (n:Nat),Vals xs its/\s.heap.get? p=some { cls:=.type "list",data:=.seq its.toArray n }/\xs.length<=sizeLine:=by
 obtain⟨z,its,n,r,e⟩:=I.hok p _ h
 exact⟨its,n,r,e,z⟩
theorem Inv.JI {p:Addr}{xs ys:List V}{its its':List Value}{n n':Nat}{f:Obj->Obj} (I:Inv X pins σ H s) (h:H p=some (.lst xs))
  (ho:s.heap.get? p=some { cls:=.type "list",data:=.seq its.toArray n }) (hf:f { cls:=.type "list",data:=.seq its.toArray n }={ cls:=.type "list",data:=.seq its'.toArray n' }) (r:Vals ys its') (hz:ys.length<=sizeLine) (t:Nat) :
  Inv X pins σ (upd H p (.lst ys)) { s with heap:=s.heap.update p f,toks:=t }:=by
 have e:(s.heap.update p f).get? p=some { cls:=.type "list",data:=.seq its'.toArray n' }:=by
  rw[eZ f ho (by rw[hf]<;>rfl),hf]
 refine I.write (x:=p) (e:=p) (by rw[h];trivial) (.inl rfl) (fun b u hb q=>(dw _ _ (bt hb)).trans q) ⟨_,e⟩ ?_
 exact⟨hz,its',n',r,e⟩
def Lq:V->V->V->Hp->(Hp->Prop)->Prop:=fun o i v H Q=>∃ p xs k j,o=.ref p/\i=.int k/\H p=some (.lst xs)/\ixN xs.length k=some j/\Q (upd H p (.lst (xs.set j v)))
theorem set_list:Jc X Lq:=by
 intro pins s σ H o i v ov iv u Q I ro ri rv h
 obtain⟨p,xs,k,j,rfl,rfl,hp,hj,q⟩:=h
 cases ro
 obtain⟨t,rfl⟩:=ri
 obtain⟨its,n,r,ho,hz⟩:=I.lst hp
 obtain⟨h1,h2,h3,h4⟩:=AM hj
 have hl:=r.length
 have hn:=qz
 have I':Inv X pins σ (upd H p (.lst (xs.set j v))) { s with heap:=s.heap.update p (Obj.mapSeq (·.setIfInBounds j u)) } :=
  I.JI hp ho (zx its n j u) (r.set rv j) (by rw[eK];exact hz) s.toks
 by_cases h0:0<=k
 ·have hk:k.toNat=j:=by
   rw[seqIndex_of h0 h4] at h1
   exact Option.some.inj h1
  exact PySem.W.ki_setAt ho h0 (by omega) (by rw[br,←hl];exact h4) (by rw[hk];exact⟨_,I',q⟩)
 ·have hk:(k+(its.toArray.size:Int)).toNat=j:=by
   rw[seqIndex_neg (by omega) h3] at h1
   rw[br,←hl]
   exact Option.some.inj h1
  exact PySem.W.ki_setBack ho (by omega) (by rw[br,←hl];exact h3) (by omega) (by rw[hk];exact⟨_,I',q⟩)

theorem wq (lo hi:Option Int) (n:Nat):(sliceBounds lo hi none n).1=((HT.sIx n 0 lo:Nat):Int)/\(sliceBounds lo hi none n).2.1=((HT.sIx n n hi:Nat):Int)/\(sliceBounds lo hi none n).2.2=1:=by
 refine⟨?_,?_,rfl⟩
 ·cases lo with
  | none=>simp [sliceBounds,HT.sIx]
  | some i =>
   simp only[sliceBounds,HT.sIx,Option.getD_none,show (1:Int)>0 by decide,gQ]
   by_cases h:i<0
   ·simp only[h,gQ]<;>omega
   ·simp only[h,dU]<;>omega
 ·cases hi with
  | none=>simp [sliceBounds,HT.sIx]
  | some i =>
   simp only[sliceBounds,HT.sIx,Option.getD_none,show (1:Int)>0 by decide,gQ]
   by_cases h:i<0
   ·simp only[h,gQ]<;>omega
   ·simp only[h,dU]<;>omega
theorem uv (its:List Value) (lo hi:Option Int):slicePick its.toArray lo hi none=((its.drop (HT.sIx its.length 0 lo)).take (HT.sIx its.length its.length hi-HT.sIx its.length 0 lo)).toArray:=by
 obtain⟨h1,h2,h3⟩:=wq lo hi its.toArray.size
 unfold slicePick
 rw[h1,h2,h3]
 simp only[sliceRange_one,pick_run,br]<;>rfl
def Ml (K:PySem.W.Frag):V->Option Int->Option Int->Hp->VK->Prop:=fun x lo hi H Q=>∃ a xs,x=.ref a/\SqL K H a xs/\∀ p,H p=none->Q (.ref p) (upd H p (.lst (lP xs lo hi)))
theorem HX:SlR X (Ml X.K):=by
 intro pins s σ H x v vl vu lo hi sl Q I rx hs pl pu h
 obtain⟨a,xs,rfl,hx,q⟩:=h
 cases rx
 obtain⟨its,r,ht,hz⟩:=I.list hx
 have hlen:=r.length
 refine⟨"list",_,slot_list_getitem.lookup,ht.isList.typeIs,?_⟩
 refine wpAny_getItem_list_slice ht.isList hs pl pu .none (by simp) ?_ (by rw[br]<;>omega)
 rw[uv,←hlen]
 refine⟨.ref s.heap.objs.size,_,I.laid (t':=s.toks) (o:=.lst (lP xs lo hi)) (fun b ob q=>az _ q) (ak _) ?_,rfl,q _ (I.hok.fresh (ak _))⟩
 exact⟨aK (wL xs lo hi) hz,_,0,(r.drop (HT.sIx xs.length 0 lo)).take (HT.sIx xs.length xs.length hi-HT.sIx xs.length 0 lo),aZ _ rfl⟩

def dX:V->Bool
 | .non=>true
 | .bl _=>true
 | .int _=>true
 | .str _=>true
 | _=>false
def eqV:V->V->Bool
 | .non,.non=>true
 | .bl a,.bl b=>a==b
 | .bl a,.int b=>(if a then 1 else 0)==b
 | .int a,.bl b=>a==(if b then 1 else 0)
 | .int a,.int b=>a==b
 | .str a,.str b=>a==b
 | _,_=>false
theorem DZ {y x:V}{u v:Value} (ry:RelV y u) (rx:RelV x v) (fy:dX y=true) (fx:dX x=true):SeqAt.EqAt A s u v (eqV y x):=by
 cases y with
 | non =>
  cases ry
  cases x with
  | non=>cases rx;exact SeqAt.EqAt.same _
  | bl b=>cases rx;exact SeqAt.EqAt.none_bool b
  | int b=>obtain⟨t,rfl⟩:=rx;exact SeqAt.EqAt.none_int b t
  | str b=>obtain⟨t,rfl⟩:=rx;exact SeqAt.EqAt.none_str b t
  | _=>exact absurd (show false=true from fx) bE
 | bl a =>
  cases ry
  cases x with
  | non=>cases rx;exact SeqAt.EqAt.bool_none a
  | bl b=>cases rx;exact SeqAt.EqAt.bool_bool a b
  | int b=>obtain⟨t,rfl⟩:=rx;exact SeqAt.EqAt.bool_int a b t
  | str b=>obtain⟨t,rfl⟩:=rx;exact SeqAt.EqAt.bool_str a b t
  | _=>exact absurd (show false=true from fx) bE
 | int a =>
  obtain⟨t',rfl⟩:=ry
  cases x with
  | non=>cases rx;exact SeqAt.EqAt.int_none a t'
  | bl b=>cases rx;exact SeqAt.EqAt.int_bool a t' b
  | int b=>obtain⟨t,rfl⟩:=rx;exact SeqAt.EqAt.int_int a t' b t
  | str b=>obtain⟨t,rfl⟩:=rx;exact SeqAt.EqAt.int_str a t' b t
  | _=>exact absurd (show false=true from fx) bE
 | str a =>
  obtain⟨t',rfl⟩:=ry
  cases x with
  | non=>cases rx;exact SeqAt.EqAt.str_none a t'
  | bl b=>cases rx;exact SeqAt.EqAt.str_bool a t' b
  | int b=>obtain⟨t,rfl⟩:=rx;exact SeqAt.EqAt.str_int a t' b t
  | str b=>obtain⟨t,rfl⟩:=rx;exact SeqAt.EqAt.str_str a t' b t
  | _=>exact absurd (show false=true from fx) bE
 | _=>exact absurd (show false=true from fy) bE
def eqU (x:V) (u:Value):Bool:=match u with
 | .none=>eqV .non x
 | .bool b=>eqV (.bl b) x
 | .int i _=>eqV (.int i) x
 | .str z _=>eqV (.str z) x
 | _=>false
theorem Eb {x y:V} (r:RelV y u) (f:dX y=true):eqU x u=eqV y x:=by
 cases y with
 | non=>cases r;rfl
 | bl b=>cases r;rfl
 | int i=>obtain⟨t,rfl⟩:=r;rfl
 | str z=>obtain⟨t,rfl⟩:=r;rfl
 | _=>exact absurd (show false=true from f) bE
theorem oB {x:V}:∀ {xs:List V}{us:List Value},Vals xs us->xs.all dX=true->us.any (eqU x)=xs.any fun y=>eqV y x
 | _,_,.nil,_=>rfl
 | y::xs,u::us,.cons r t,f=>by
  rw[iz,bI] at f
  rw[mE,mE,Eb r f.1,oB t f.2]
theorem lS {A:Around}{s:Shared}{x:V}{v:Value} (rx:RelV x v) (fx:dX x=true):∀ {xs:List V}{us:List Value},Vals xs us->xs.all dX=true->∀ u∈us,SeqAt.EqAt A s u v (eqU x u)
 | _,_,.nil,_=>fun u hu=>by cases hu
 | y::xs,u::us,.cons r t,f=>fun u' hu=>by
  rw[iz,bI] at f
  rcases aI.mp hu with rfl | hu
  ·rw[Eb r f.1];exact DZ r rx f.1 fx
  ·exact lS rx fx t f.2 u' hu
def inV (x:V) (xs:List V):Bool:=xs.any fun y=>eqV y x
def rIn (K:PySem.W.Frag) (neg:Bool):R2:=fun x y H Q=>∃ p xs,y=.ref p/\(SqL K H p xs∨SqT K H p xs)/\dX x=true/\xs.all dX=true/\Q (.bl (if neg then !inV x xs else inV x xs)) H
theorem CN:OpR X (compareOp .In) (rIn X.K false):=by
 intro pins s σ H x y v u Q I rx ry h
 obtain⟨p,xs,rfl,hq,fx,fs,q⟩:=h
 cases ry
 rcases hq with hq | hq
 ·obtain⟨its,r,pl,hz⟩:=I.list hq
  refine SeqAt.in_listAt (eqU x) pl.isList (fun w hw=>lS rx fx r fs w (by simpa using hw)) ⟨.bl _,H,I,rfl,?_⟩
  rw[show its.toArray.any (eqU x)=its.any (eqU x) by simp,oB r fs]
  exact q
 ·obtain⟨its,r,pl,hz⟩:=I.tuple hq
  refine SeqAt.in_tupleAt (eqU x) pl (fun w hw=>lS rx fx r fs w (by simpa using hw)) ⟨.bl _,H,I,rfl,?_⟩
  rw[show its.toArray.any (eqU x)=its.any (eqU x) by simp,oB r fs]
  exact q
theorem vW:OpR X (compareOp .NotIn) (rIn X.K true):=by
 intro pins s σ H x y v u Q I rx ry h
 obtain⟨p,xs,rfl,hq,fx,fs,q⟩:=h
 cases ry
 rcases hq with hq | hq
 ·obtain⟨its,r,pl,hz⟩:=I.list hq
  refine SeqAt.notIn_listAt (eqU x) pl.isList (fun w hw=>lS rx fx r fs w (by simpa using hw)) ⟨.bl _,H,I,rfl,?_⟩
  rw[show its.toArray.any (eqU x)=its.any (eqU x) by simp,oB r fs]
  exact q
 ·obtain⟨its,r,pl,hz⟩:=I.tuple hq
  refine SeqAt.notIn_tupleAt (eqU x) pl (fun w hw=>lS rx fx r fs w (by simpa using hw)) ⟨.bl _,H,I,rfl,?_⟩
  rw[show its.toArray.any (eqU x)=its.any (eqU x) by simp,oB r fs]
  exact q
theorem vq:cW X (.builtin "len") (fun xs H Q=>∃ p ys,xs=[.ref p]/\(SqL X.K H p ys∨SqT X.K H p ys)/\Q (.int ys.length) H):=by
 intro pins s σ H xs us Q I r h
 obtain⟨p,ys,rfl,hq,q⟩:=h
 obtain⟨u,rfl,rx⟩:=vals1 r
 cases rx
 have hn:=qz
 rcases hq with hq | hq
 ·obtain⟨its,r',pl,hz⟩:=I.list hq
  have hlen:=r'.length
  exact Calls.call_len_list pl.isList (by simp only[br]<;>omega) ⟨.int ys.length,H,I.tok _,⟨s.toks+1,by rw[br,hlen]⟩,q⟩
 ·obtain⟨its,r',pl,hz⟩:=I.tuple hq
  have hlen:=r'.length
  exact len_tuple pl (by simp only[br]<;>omega) ⟨.int ys.length,H,I.tok _,⟨s.toks+1,by rw[br,hlen]⟩,q⟩
theorem vt:cW X (.builtin "len") (fun xs H Q=>∃ z,xs=[.str z]/\z.length<=sizeLine/\Q (.int z.length) H):=by
 intro pins s σ H xs us Q I r h
 obtain⟨z,rfl,hz,q⟩:=h
 obtain⟨u,rfl,t,rfl⟩:=vals1 r
 have hn:=qz
 exact len_str (by omega) ⟨.int z.length,H,I.tok _,⟨_,rfl⟩,q⟩
theorem vw:cW X (.type "list") (fun xs H Q=>∃ p ys,xs=[.ref p]/\(SqL X.K H p ys∨SqT X.K H p ys)/\∀ l,H l=none->Q (.ref l) (upd H l (.lst ys))):=by
 intro pins s σ H xs us Q I r h
 obtain⟨p,ys,rfl,hq,q⟩:=h
 obtain⟨u,rfl,rx⟩:=vals1 r
 cases rx
 have fin:∀ (its:List Value),Vals ys its->ys.length<=sizeLine->∀ (h':Heap) (c':Nat),(∀ b o',s.heap.get? b=some o'->h'.get? b=some o') →
   h'.get? s.heap.objs.size=some { cls:=.type "list",dict:=none,data:=.seq its.toArray c',slots:=#[] }->EP X pins σ Q (.ref s.heap.objs.size) { s with heap:=h' }:=fun its r' hz h' c' kp e =>
  ⟨.ref s.heap.objs.size,_,I.laid (t':=s.toks) kp (ak _) (show bM X.prog X.w _ h' _ (.lst ys) from ⟨hz,its,c',r',e⟩),rfl,q _ (I.hok.fresh (ak _))⟩
 rcases hq with hq | hq
 ·obtain⟨its,r',pl,hz⟩:=I.list hq
  have hlen:=r'.length
  obtain⟨o,ho,hc,n,hd⟩:=pl.isList
  exact call_list_seq p (.inl rfl) ho hc hd (fun h' c' kp e=>fin its r' hz h' c' kp e) (by simp only[br]<;>omega)
 ·obtain⟨its,r',pl,hz⟩:=I.tuple hq
  have hlen:=r'.length
  obtain⟨o,ho,hc,n,hd⟩:=pl
  exact call_list_seq p (.inr rfl) ho hc hd (fun h' c' kp e=>fin its r' hz h' c' kp e) (by simp only[br]<;>omega)
def tyV (K:PySem.W.Frag) (T:String) (x:V) (H:Hp):Prop:=match x with
 | .str _=>T="str"
 | .int _=>T="int"
 | .ref p=>(T="list"/\∃ xs,SqL K H p xs)∨(T="tuple"/\∃ o,K.lookup p=some o/\o.cls=.type "tuple"/\o.dict=none) ∨
   (T="dict"/\((∃ kvs,H p=some (.dK kvs))∨∃ kvs,H p=some (.dT kvs)))∨(T="set"/\∃ S n,H p=some (.set S n))
 | _=>False
theorem Ky {T:String}{v:Value} (I:Inv X pins σ H s) (r:RelV x v) (ty:tyV X.K T x H) :
  s.TypeIs v T/\∀ a,v=.ref a->∃ ob,s.heap.get? a=some ob/\ob.dict=none:=by
 cases x with
 | str z =>
  obtain⟨t,rfl⟩:=r
  cases (show T="str" from ty)
  exact⟨typeIs_str s z t,fun _ e=>nomatch e⟩
 | int i =>
  obtain⟨t,rfl⟩:=r
  cases (show T="int" from ty)
  exact⟨typeIs_int s i t,fun _ e=>nomatch e⟩
 | ref p =>
  cases r
  rcases ty with ⟨rfl,xs,hq⟩ | ⟨rfl,o,hk,hc,hd⟩ | ⟨rfl,hk⟩ | ⟨rfl,S,n,hk⟩
  ·obtain⟨its,_,pl,_⟩:=I.list hq
   refine⟨pl.isList.typeIs,fun a e=>?_⟩
   cases e
   obtain⟨o,n,e,c,hd,_⟩:=pl
   exact⟨o,e,hd⟩
  ·refine⟨⟨o,I.kIn p o hk,hc⟩,fun a e=>?_⟩
   cases e
   exact⟨o,I.kIn _ o hk,hd⟩
  ·have z:∃ o,s.heap.get? p=some o/\o.ExactDict:=by
    rcases hk with ⟨kvs,hk⟩ | ⟨kvs,hk⟩
    ·obtain⟨_,_,_,_,o,_,_,e,ex,_⟩:=I.hok p _ hk
     exact⟨o,e,ex⟩
    ·obtain⟨_,_,_,_,o,_,_,e,ex,_⟩:=I.hok p _ hk
     exact⟨o,e,ex⟩
   obtain⟨o,e,ex⟩:=z
   refine⟨⟨o,e,ex.1⟩,fun a e2=>?_⟩
   cases e2
   exact⟨o,e,ex.2.1⟩
  ·obtain⟨o,_,_,_,e,ex,_⟩:=I.hok p _ hk
   refine⟨⟨o,e,ex.1⟩,fun a e2=>?_⟩
   cases e2
   exact⟨o,e,ex.2.1⟩
 | _=>exact False.elim ty
def tBM (K:PySem.W.Frag) (T:String) (r:V->List V->Hp->VK->Prop) (to:TE) (t:TA):TE:=fun σ H Q=>to σ H fun x H1=>tyV K T x H1/\t σ H1 fun xs H2=>r x xs H2 Q
variable {o e:Expr}{es:List Expr}{to:TE}{t:TA}{name:Str}{apos cpos:Pos}{T id:String}{r:V->List V->Hp->VK->Prop}
theorem Le (pa:PlainAttrs T) (slot:Slot T name id) (hty:typeOf (.builtin id)=pure (.type "method_descriptor")) (hm:MtR X id r) (ho:PE X o to) (ha:PA X (e::es) t)
  (hbase:attributeBase o name X.env (eval o X.env)=eval o X.env:=by rfl)
  (hfew:((backTo cpos (starEach (e::es) X.env)).all (fun x=>!x.1)&&(backToKw cpos (keywordEach [] X.env)).all (fun x=>x.1.isSome)
   && decide ((e::es).length+([]:List Keyword).length+(if ([]:List Keyword).isEmpty then 0 else 1)<30))=true:=by rfl)
  (hline:(apos.endLine==cpos.line)=true:=by rfl) (hs:starEach (e::es) X.env=(false,eval e X.env)::starEach es X.env:=by rfl) (hplain:(backTo cpos (starEach es X.env)).any (·.1)=false:=by rfl) :
  PE X (.Call (.Attribute o name apos) (e::es) [] cpos) (tBM X.K T r to t):=by
 intro pins s σ H Q I h
 refine wpAny_Call_method_late hbase hfew hline rfl (thn (ho pins s σ H _ I h) fun v s1 ⟨x,H1,I1,r1,ty,q1⟩=>?_)
 obtain⟨h1,h2⟩:=Ky I1 r1 ty
 refine⟨T,id,pa,slot,hty,h1,h2,?_⟩
 have hA:=ha cpos pins s1 σ H1 _ I1 q1
 rw[hs] at hA ⊢
 refine Calls.callWith_builtin (by show (false||(backTo cpos (starEach es X.env)).any (·.1))=false;rw[hplain]<;>rfl) (Calls.evalArgs_plain ?_)
 exact thn hA fun us s2 ⟨vs,H2,I2,r2,q2⟩=>hm pins s2 σ H2 x vs v us Q I2 r1 r2 q2
end
end
section

def MtM (X:Cx) (id:String) (r:V->List V->Hp->VK->Prop):Prop :=
 ∀ (pins:List (Addr×Obj)) (s:Shared) (σ:St) (H:Hp) (x:V) (xs:List V) (v:Value) (us:List Value) (Q:VK),Inv X pins σ H s->RelV x v->Vals xs us->r x xs H Q →
  wpAny (model X.prog X.w) X.A (call (.builtin id) (v::us)) (EP X pins σ Q) X.xe s

theorem Vals.one (h:Vals [x] us):∃ u,us=[u]/\RelV x u:=by
 cases h with | cons r q=>cases q;exact⟨_,rfl,r⟩
theorem Vals.two {x y:V} (h:Vals [x,y] us):∃ u v,us=[u,v]/\RelV x u/\RelV y v:=by
 cases h with | cons r q=>obtain⟨_,rfl,p⟩:=Vals.one q;exact⟨_,_,rfl,r,p⟩
theorem Vals.reverse {xs:List V}{us:List Value} (h:Vals xs us):Vals xs.reverse us.reverse:=by
 induction h with
 | nil=>exact .nil
 | cons r t ih=>rw[List.reverse_cons,List.reverse_cons];exact Vals.append ih (.cons r .nil)
theorem Vals.rep {xs:List V}{us:List Value} (h:Vals xs us):∀ k:Nat,Vals (List.replicate k xs).flatten (List.replicate k us).flatten
 | 0=>.nil
 | k+1=>by
  rw[mT,mT,mK,mK]
  exact Vals.append h (Vals.rep h k)
theorem foldl_rep (its:List Value):∀ (k:Nat) (acc:List Value),
  List.foldl (fun x1 x2=>x1++x2) acc.toArray (List.replicate k its.toArray)=(acc++(List.replicate k its).flatten).toArray
 | 0,acc=>by simp
 | k+1,acc=>by
  have e:acc.toArray++its.toArray=(acc++its).toArray:=by simp
  have e2:(acc++its)++(List.replicate k its).flatten=acc++(List.replicate (k+1) its).flatten:=by
   rw[mT,mK,df]
  rw[←e2,←foldl_rep its k (acc++its),←e,mT,List.foldl_cons]

section
variable {X:Cx}{pins:List (Addr×Obj)}{σ:St}{H:Hp}{s:Shared}{l b:Addr}{xs ys zs:List V}

theorem Inv.JH {its its':List Value}{n:Nat}{f:Array Value->Array Value}{t':Nat} (I:Inv X pins σ H s) (hH:H l=some (.lst xs))
  (e:s.heap.get? l=some { cls:=.type "list",data:=.seq its.toArray n }) (hf:f its.toArray=its'.toArray) (hv:Vals ys its') (hz:ys.length<=sizeLine) :
  Inv X pins σ (upd H l (.lst ys)) { s with heap:=s.heap.update l (Obj.mapSeq f),toks:=t' }:=by
 have q:=PySem.IsL.update e f
 rw[hf] at q
 refine I.write (x:=l) (e:=l) (by rw[hH];exact trivial) (.inl rfl) (fun b' u hb hu=>(dw s.heap (Obj.mapSeq f) (bt hb)).trans hu) ⟨_,q⟩ ?_
 exact⟨hz,its',_,hv,q⟩
theorem Inv.KW {its:List Value}{t':Nat} (I:Inv X pins σ H s) (hv:Vals ys its) (hz:ys.length<=sizeLine) :
  Inv X pins σ (upd H s.heap.objs.size (.lst ys)) { s with heap:=s.heap.push { cls:=.type "list",data:=.seq its.toArray },toks:=t' } :=
 I.laid (fun _ _ q=>az _ q) (ak _) ⟨hz,its,0,hv,aZ _ rfl⟩
theorem Inv.fresh (I:Inv X pins σ H s):H s.heap.objs.size=none:=I.hok.fresh (ak _)
theorem Inv.zu (I:Inv X pins σ H s) (hH:H l=some (.lst xs)):xs.length<=sizeLine/\∃ (its:List Value) (n:Nat),Vals xs its/\xs.length=its.length/\s.heap.get? l=some { cls:=.type "list",data:=.seq its.toArray n }:=by
 obtain⟨z,its,n,r,e⟩:=I.hok l _ hH
 exact⟨z,its,n,r,r.length,e⟩

theorem xt {n:Nat} (h:n<=sizeLine):Builtin.List.listTooLong n=false:=by
 unfold Builtin.List.listTooLong
 exact decide_eq_false (by omega)
end

section
variable {X:Cx}

def HD:V->List V->Hp->VK->Prop:=fun x vs H Q=>∃ l xs y,x=.ref l/\vs=[y]/\H l=some (.lst xs)/\xs.length<sizeLine/\Q .non (upd H l (.lst (xs++[y])))
theorem dO:MtM X "list.append" HD:=by
 intro pins s σ H x vs v us Q I rx rv h
 obtain⟨l,xs,y,rfl,rfl,hH,hz,q⟩:=h
 cases rx
 obtain⟨u,rfl,ru⟩:=rv.one
 obtain⟨z,its,n,r,hl,e⟩:=I.zu hH
 refine gP F.slot_list_append ⟨_,e,rfl⟩ F.entry_list_append (F.args_list_append_2 _ _) (PySem.list_append l its.toArray n u (by rw[br];omega)) ⟨e,?_⟩
 refine⟨.non,_,I.JH (its':=its++[u]) hH e (by simp) (r.append (.cons ru .nil)) ?_,rfl,q⟩
 rw[List.length_append,c8]
 omega

def HE:V->List V->Hp->VK->Prop:=fun x vs H Q=>∃ l b xs zs,x=.ref l/\vs=[.ref b]/\H l=some (.lst xs)/\H b=some (.lst zs)/\xs.length+zs.length<=sizeLine/\Q .non (upd H l (.lst (xs++zs)))
theorem CJ:MtM X "list.extend" HE:=by
 intro pins s σ H x vs v us Q I rx rv h
 obtain⟨l,b,xs,zs,rfl,rfl,hH,hB,hz,q⟩:=h
 cases rx
 obtain⟨u,rfl,ru⟩:=rv.one
 cases ru
 obtain⟨z,its,n,r,hl,e⟩:=I.zu hH
 obtain⟨z2,its2,n2,r2,hl2,e2⟩:=I.zu hB
 have hsz:its.toArray.size+its2.toArray.size<=sizeLine:=by rw[br,br];omega
 have hlong:¬ (!its.toArray.isEmpty&&Builtin.List.listTooLong (its.toArray.size+its2.toArray.size))=true:=by
  rw[xt hsz,Bool.and_false]
  exact bE
 refine gP F.slot_list_extend ⟨_,e,rfl⟩ F.entry_list_extend (F.args_list_extend_2 _ _)
  (AutoSeq1.list_extend_list_list_0 l its.toArray n b its2.toArray n2 hlong (by rw[br];omega) (by omega)) ⟨e,e2,?_⟩
 refine⟨.non,_,I.JH (its':=its++its2) hH e (by simp) (r.append r2) ?_,rfl,q⟩
 rw[List.length_append]
 omega

def Ma:R2:=fun x y H Q=>∃ l b xs zs,x=.ref l/\y=.ref b/\H l=some (.lst xs)/\H b=some (.lst zs)/\xs.length+zs.length<=sizeLine/\∀ p,H p=none->Q (.ref p) (upd H p (.lst (xs++zs)))
theorem JQ:OpR X (binaryOp .Add) Ma:=by
 intro pins s σ H x y v u Q I rx ry h
 obtain⟨l,b,xs,zs,rfl,rfl,hH,hB,hz,q⟩:=h
 cases rx
 cases ry
 obtain⟨z,its,n,r,hl,e⟩:=I.zu hH
 obtain⟨z2,its2,n2,r2,hl2,e2⟩:=I.zu hB
 refine PySem.P.add_list e e2 ?_ (by rw[br,br];omega)
 have ea:its.toArray++its2.toArray=(its++its2).toArray:=by simp
 rw[ea]
 exact⟨.ref _,_,I.KW (t':=s.toks) (r.append r2) (by rw[List.length_append];omega),rfl,q _ I.fresh⟩
def Mj:R2:=fun x y H Q=>∃ l k xs,x=.ref l/\y=.int k/\H l=some (.lst xs)/\-(2^63)<=k/\k<2^63/\xs.length*k.toNat<=sizeLine ∧
 ∀ p,H p=none->Q (.ref p) (upd H p (.lst (List.replicate k.toNat xs).flatten))
theorem len_rep (xs:List α) (k:Nat):(List.replicate k xs).flatten.length=k*xs.length:=by
 induction k with
 | zero=>simp
 | succ k ih=>rw[mT,mK,List.length_append,ih,Nat.succ_mul,Nat.add_comm]
theorem JZ:OpR X (binaryOp .Mult) Mj:=by
 intro pins s σ H x y v u Q I rx ry h
 obtain⟨l,k,xs,rfl,rfl,hH,h1,h2,hz,q⟩:=h
 cases rx
 obtain⟨t,rfl⟩:=ry
 obtain⟨z,its,n,r,hl,e⟩:=I.zu hH
 have hlen:its.toArray.size*k.toNat<=sizeLine:=by rw[br,←hl];exact hz
 have hcap:¬ its.toArray.size*k.toNat>(2^63-1)/8:=by
  have:(sizeLine:Nat)<=(2^63-1)/8:=by decide
  omega
 have hfit:¬ (!Builtin.List.listFitsIndex k)=true:=by
  rw[fitsIndex_both h1 h2]
  exact bE
 have hlong:¬ Builtin.List.listTooLong (its.toArray.size*k.toNat)=true:=by
  rw[xt hlen]
  exact bE
 have hnew:List.foldl (fun x1 x2=>x1++x2) #[] (List.replicate (if its.toArray.isEmpty=true then 0 else k.toNat) its.toArray)=(List.replicate k.toNat its).flatten.toArray:=by
  have f0:∀ m:Nat,List.foldl (fun x1 x2=>x1++x2) #[] (List.replicate m its.toArray)=(List.replicate m its).flatten.toArray:=fun m=>by
   have:=foldl_rep its m []
   rw[List.nil_append] at this
   exact this
  rw[f0]
  cases its with
  | nil=>simp
  | cons a r'=>rw[if_neg (by simp)]
 refine wpAny_binaryOp_repeat_ref (T:="list") (U:="int") (by decide) ⟨_,e,rfl⟩ (fun s'=>typeIs_int s' k t) noFill_list_mul F.fills_int_mul F.slot_int_rmul repeat_list F.slot_int_index.lookup
  (gP F.slot_int_rmul (typeIs_int s k t) F.entry_int_rmul (F.args_int_rmul_2 _ _) (int___rmul___int_list k t l its.toArray n)
   ⟨e,rfl,⟨_,e,rfl⟩,gP F.slot_list_mul ⟨_,e,rfl⟩ F.entry_list_mul (F.args_list_mul_2 _ _) (AutoListH.list___mul___list_int_3 l its.toArray n k t hfit hcap hlong) ⟨e,?_⟩⟩)
 rw[hnew]
 exact⟨.ref _,_,I.KW (t':=s.toks) (r.rep k.toNat) (by rw[len_rep,Nat.mul_comm];exact hz),rfl,q _ I.fresh⟩

end

section
variable {prog:Program}{w:World}{A:Around}{E:Value->Shared->Prop}{s:Shared}
end

section
variable {X:Cx}
end
end
section

section
variable {κ:Type} [DecidableEq κ]
def jV (kvs:List (κ×V)) (k:κ):Option V:=(kvs.find? fun kv=>decide (kv.1=k)).map (·.2)
def putK (kvs:List (κ×V)) (k:κ) (v:V):List (κ×V) :=
 if (kvs.any fun kv=>decide (kv.1=k))=true then kvs.map (fun kv=>if kv.1=k then (kv.1,v) else kv) else kvs++[(k,v)]
theorem uf {p:κ×V}{r:List (κ×V)}{k:κ} (e:p.1=k):jV (p::r) k=some p.2:=by simp [jV,i3,e]
theorem ue {p:κ×V}{r:List (κ×V)}{k:κ} (e:¬ p.1=k):jV (p::r) k=jV r k:=by simp [jV,i3,e]
theorem ud (k:κ):∀ kvs:List (κ×V),(kvs.any fun kv=>decide (kv.1=k))=(jV kvs k).isSome
 | []=>rfl
 | p::r=>by
  rw[mE]
  by_cases e:p.1=k
  ·simp only[uf e,aq e,Bool.true_or,Option.isSome_some]
  ·rw[ue e,decide_eq_false e,Bool.false_or];exact ud k r
theorem qY (kvs:List (κ×V)) (k:κ) (v:V):(putK kvs k v).length<=kvs.length+1:=by
 unfold putK
 split
 ·rw[List.length_map];omega
 ·rw[List.length_append,aO,gK];omega
theorem lJ.kb {u:Option Value} (r:lJ o u):o.isSome=u.isSome:=by
 cases o with
 | none=>cases u with
  | none=>rfl
  | some _=>exact (show False from r).elim
 | some _=>cases u with
  | none=>exact (show False from r).elim
  | some _=>rfl
theorem lJ.getD {o:Option V}{u:Option Value}{d:V}{d':Value} (r:lJ o u) (rd:RelV d d'):RelV (o.getD d) (u.getD d'):=by
 cases o with
 | none=>cases u with
  | none=>exact rd
  | some _=>exact (show False from r).elim
 | some _=>cases u with
  | none=>exact (show False from r).elim
  | some _=>exact r

theorem KV.val {kvs:List (κ×V)}{vs:List (κ×Value)} (r:KV kvs vs) (k:κ):lJ (jV kvs k) (valueAt vs k):=by
 unfold KV at r
 induction r with
 | nil=>exact True.intro
 | @cons p q ps qs h t ih =>
  obtain⟨h1,h2⟩:=h
  by_cases e:p.1=k
  ·have e':q.1=k:=h1.symm.trans e
   have b:valueAt (q::qs) k=some q.2:=by simp [valueAt,i3,e']
   rw[uf e,b];exact h2
  ·have e':¬ q.1=k:=fun z=>e (h1.trans z)
   have b:valueAt (q::qs) k=valueAt qs k:=by simp [valueAt,i3,e']
   rw[ue e,b];exact ih
theorem KV.any {kvs:List (κ×V)}{vs:List (κ×Value)} (r:KV kvs vs) (k:κ):(kvs.any fun kv=>decide (kv.1=k))=vs.any fun kv=>decide (kv.1=k):=by
 unfold KV at r
 induction r with
 | nil=>rfl
 | cons h t ih=>rw[mE,mE,ih,h.1]
theorem KV.Ko {kvs:List (κ×V)}{vs:List (κ×Value)} (r:KV kvs vs) (k:κ)  (ry:RelV y u) :
  KV (kvs.map fun kv=>if kv.1=k then (kv.1,y) else kv) (vs.map fun kv=>if kv.1=k then (kv.1,u) else kv):=by
 unfold KV at r ⊢
 induction r with
 | nil=>exact .nil
 | @cons p q ps qs h t ih =>
  rw[aR,aR]
  refine .cons ?_ ih
  obtain⟨h1,h2⟩:=h
  by_cases e:p.1=k
  ·rw[if_pos e,if_pos (h1.symm.trans e)];exact⟨h1,ry⟩
  ·rw[if_neg e,if_neg (fun z=>e (h1.trans z))];exact⟨h1,h2⟩
theorem KV.put {kvs:List (κ×V)}{vs:List (κ×Value)} (r:KV kvs vs) (k:κ)  (ry:RelV y u):KV (putK kvs k y) (stored vs k u):=by
 unfold putK stored
 rw[r.any k]
 by_cases e:(vs.any fun kv=>decide (kv.1=k))=true
 ·rw[if_pos e,if_pos e];exact r.Ko k ry
 ·rw[if_neg e,if_neg e];exact Paired.snoc r ⟨rfl,ry⟩
theorem KV.length {kvs:List (κ×V)}{vs:List (κ×Value)} (r:KV kvs vs):kvs.length=vs.length:=Paired.length r
end


theorem uM {k:Key} (r:RelV (kV k) u):(aX P w).is k u=true:=by
 cases k with
 | inl i=>obtain⟨t,e⟩:=(show ∃ t,u=Value.int i t from r);subst e;exact xo P w i t
 | inr x=>obtain⟨t,e⟩:=(show ∃ t,u=Value.str x t from r);subst e;exact xp P w x t
theorem uK {P:Program}{w:World}:∀ {ks:List Key}{us:List Value},Vals (ks.map kV) us->ItemsAre (aX P w) ks us
 | [],_,r=>by rw[i9] at r;cases r;exact .nil
 | k::ks,_,r=>by
  rw[aR] at r
  cases r with
  | cons h t=>exact .cons (uM h) (uK t)

abbrev KT (H:Hp):List (List Key×V)->List (List Key×Addr×Value)->Prop:=Paired fun p q=>p.1=q.1/\H q.2.1=some (.tup (p.1.map kV))/\RelV p.2 q.2.2
theorem KT.val (r:KT H kvs xs) (k:List Key):lJ (jV kvs k) ((atKey xs k).map (·.2)):=by
 induction r with
 | nil=>exact True.intro
 | @cons p q ps qs h t ih =>
  obtain⟨h1,_,h2⟩:=h
  by_cases e:p.1=k
  ·have e':q.1=k:=h1.symm.trans e
   have b:atKey (q::qs) k=some q.2:=by simp [atKey,i3,e']
   rw[uf e,b];exact h2
  ·have e':¬ q.1=k:=fun z=>e (h1.trans z)
   have b:atKey (q::qs) k=atKey qs k:=by simp [atKey,i3,e']
   rw[ue e,b];exact ih
theorem KT.Ko (r:KT H kvs xs) (k:List Key)  (ry:RelV y u) :
  KT H (kvs.map fun kv=>if kv.1=k then (kv.1,y) else kv) (xs.map (putAt k u)):=by
 induction r with
 | nil=>exact .nil
 | @cons p q ps qs h t ih =>
  rw[aR,aR]
  refine .cons ?_ ih
  obtain⟨h1,h2,h3⟩:=h
  unfold putAt
  by_cases e:p.1=k
  ·rw[if_pos e,if_pos (h1.symm.trans e)];exact⟨h1,h2,ry⟩
  ·rw[if_neg e,if_neg (fun z=>e (h1.trans z))];exact⟨h1,h2,h3⟩
theorem KT.put (r:KT H kvs xs) (k:List Key) {b:Addr} (hb:H b=some (.tup (k.map kV))) (ry:RelV y u) :
  KT H (putK kvs k y) (storedH xs k b u):=by
 have e:(kvs.any fun kv=>decide (kv.1=k))=(atKey xs k).isSome:=by
  rw[ud,(r.val k).kb,Option.isSome_map]
 unfold putK storedH
 rw[e]
 by_cases q:(atKey xs k).isSome=true
 ·rw[if_pos q,if_pos q];exact r.Ko k ry
 ·rw[if_neg q,if_neg q];exact Paired.snoc r ⟨rfl,hb,ry⟩
theorem KT.keeps {H H':Hp} (r:KT H kvs xs) (ht:∀ b ys,H b=some (.tup ys)->H' b=some (.tup ys)):KT H' kvs xs :=
 Paired.JK r fun _ _ z=>⟨z.1,ht _ _ z.2.1,z.2.2⟩

section
variable {P:Program}{w:World}{H:Hp}{h:Heap}{a:Addr}
theorem IH {u:HO} (ok:HOk P w H h) (e:Rd H a u):bM P w H h a u:=e.ok ok
theorem qU {kvs:List (Key×V)} (ok:HOk P w H h) (e:Rd H a (.dK kvs)):kvs.length<=sizeLine/\(a==sysModules)=false/\∃ vs,KV kvs vs/\h.DictOf (aX P w) a vs :=
 show bM P w H h a (.dK kvs) from IH ok e
theorem Im {kvs:List (Key×V)} (ok:HOk P w H h) (e:H a=some (.dK kvs)):kvs.length<=sizeLine/\(a==sysModules)=false/\∃ vs,KV kvs vs/\h.DictOf (aX P w) a vs:=qU ok (.inl e)
theorem qw {ks:List Key} (ok:HOk P w H h) (e:H a=some (.tup (ks.map kV))):(tupleKind (aX P w)).is h ks a:=by
 obtain⟨_,its,r,o,h1,h2,n,h3⟩:=(show bM P w H h a (.tup (ks.map kV)) from ok a _ e)
 exact⟨o,its.toArray,n,h1,h2,h3,by simpa using uK r⟩
theorem su (ok:HOk P w H h) (e:Rd H a (.dT kvs)):kvs.length<=sizeLine/\(a==sysModules)=false ∧
  ∃ xs,KT H kvs xs/\h.DictOfH (tupleKind (aX P w)) a xs:=by
 obtain⟨z,y,xs,r,o,es,ep,h1,h2,h3,h4,h5⟩:=(show bM P w H h a (.dT kvs) from IH ok e)
 refine⟨z,y,xs,r,o,es,ep,h1,h2,h3,h4,fun x hx=>?_,h5⟩
 have all:∀ {l:List (List Key×V)}{m:List (List Key×Addr×Value)},KT H l m->∀ x∈m,(tupleKind (aX P w)).is h x.1 x.2.1:=by
  intro l m q
  induction q with
  | nil=>intro x hx;exact nomatch hx
  | @cons p q ps qs hq t ih =>
   intro x hx
   rcases aI.mp hx with e | hx
   ·subst e
    exact qw ok (by rw[←hq.1];exact hq.2.1)
   ·exact ih x hx
 exact all r x hx
theorem KL (ok:HOk P w H h) (e:H a=some (.dT kvs)):kvs.length<=sizeLine/\(a==sysModules)=false ∧
  ∃ xs,KT H kvs xs/\h.DictOfH (tupleKind (aX P w)) a xs:=su ok (.inl e)
end

def lH (H:Hp) (a:Addr) (y:V) (r:Option V):Prop :=
 (∃ kvs k,Rd H a (.dK kvs)/\y=kV k/\r=jV kvs k)∨∃ kvs k b,Rd H a (.dT kvs)/\y=.ref b/\H b=some (.tup (k.map kV))/\r=jV kvs k
def yu (H:Hp) (a:Addr) (y v:V) (H':Hp):Prop :=
 (∃ kvs k,H a=some (.dK kvs)/\y=kV k/\kvs.length<sizeLine/\H'=upd H a (.dK (putK kvs k v))) ∨
 ∃ kvs k b,H a=some (.dT kvs)/\y=.ref b/\H b=some (.tup (k.map kV))/\kvs.length<sizeLine/\H'=upd H a (.dT (putK kvs k v))
theorem yu.k {H:Hp}{a:Addr}{kvs:List (Key×V)}{k:Key}{v:V} (e:H a=some (.dK kvs)) (hl:kvs.length<sizeLine):yu H a (kV k) v (upd H a (.dK (putK kvs k v))):=.inl ⟨kvs,k,e,rfl,hl,rfl⟩
section
variable {X:Cx}{pins:List (Addr×Obj)}{σ:St}{H:Hp}{s:Shared}{a:Addr}{y v:V}{u r:Value}{o:Option V}{A:Around}{E:Value->Shared->Prop}

theorem Inv.big (I:Inv X pins σ H s):sysModules<s.heap.objs.size:=by
 have h:mainGlobals<s.heap.objs.size:=(I.mod.glob.keeps I.bk).lt
 exact Nat.lt_trans (by decide) h

theorem BV (hu:A.units+1<cLine) (I:Inv X pins σ H s) (g:lH H a y (some v)) (ry:RelV y u) (h:∀ w' s',Inv X pins σ H s'->RelV v w'->Q w' s') :
  wpAny (model X.prog X.w) A (getItem (.ref a) u) Q E s:=by
 rcases g with ⟨kvs,k,e,ey,l⟩ | ⟨kvs,k,b,e,ey,eb,l⟩
 ·subst ey
  obtain⟨z,hd,vs,rel,dd⟩:=qU I.hok e
  obtain⟨w',hw,rw'⟩:=lJ.some_of (v:=v) (o:=valueAt vs k) (by rw[l];exact rel.val k)
  exact wpAny_getItem_of (uM ry) dd.mapOf hw (h w' _ (I.tok _) rw')
 ·subst ey
  cases (show u=Value.ref b from ry)
  obtain⟨z,hd,xs,rel,dd⟩:=su I.hok e
  obtain⟨w',hw,rw'⟩:=lJ.some_of (v:=v) (o:=(atKey xs k).map (·.2)) (by rw[l];exact rel.val k)
  obtain⟨p,hp,hp2⟩:=dB.mp hw
  refine wpAny_getItem_heap (mZ hu) (qw I.hok eb) dd hp ?_
  rw[hp2]
  exact h w' _ (I.tok _) rw'
theorem LS (hu:A.units+1<cLine) (I:Inv X pins σ H s) (g:lH H a y o) (ry:RelV y u) (h:∀ s',Inv X pins σ H s'->Q (.bool o.isSome) s') :
  wpAny (model X.prog X.w) A (compareOp .In u (.ref a)) Q E s:=by
 rcases g with ⟨kvs,k,e,ey,l⟩ | ⟨kvs,k,b,e,ey,eb,l⟩
 ·subst ey
  obtain⟨z,hd,vs,rel,dd⟩:=qU I.hok e
  refine wpAny_in_of (uM ry) hd dd.mapOf ?_
  rw[←(rel.val k).kb,←l]
  exact h _ (I.tok _)
 ·subst ey
  cases (show u=Value.ref b from ry)
  obtain⟨z,hd,xs,rel,dd⟩:=su I.hok e
  refine wpAny_in_heap (mZ hu) (qw I.hok eb) hd dd ?_
  have q:=(rel.val k).kb
  rw[Option.isSome_map] at q
  rw[←q,←l]
  exact h _ (I.tok _)
theorem GJ (hu:A.units+1<cLine) (I:Inv X pins σ H s) (g:lH H a y o) (ry:RelV y u) (h:∀ s',Inv X pins σ H s'->Q (.bool (!o.isSome)) s') :
  wpAny (model X.prog X.w) A (compareOp .NotIn u (.ref a)) Q E s:=by
 rcases g with ⟨kvs,k,e,ey,l⟩ | ⟨kvs,k,b,e,ey,eb,l⟩
 ·subst ey
  obtain⟨z,hd,vs,rel,dd⟩:=qU I.hok e
  refine wpAny_notIn_of (uM ry) hd dd.mapOf ?_
  rw[←(rel.val k).kb,←l]
  exact h _ (I.tok _)
 ·subst ey
  cases (show u=Value.ref b from ry)
  obtain⟨z,hd,xs,rel,dd⟩:=su I.hok e
  refine wpAny_notIn_heap (mZ hu) (qw I.hok eb) hd dd ?_
  have q:=(rel.val k).kb
  rw[Option.isSome_map] at q
  rw[←q,←l]
  exact h _ (I.tok _)
theorem Az {t':Nat}{ob:HO} (I:Inv X pins σ H s) (mu:Mut (H a)) (hs:Heap.SameBut a s.heap h') (he:∃ q,h'.get? a=some q) (new:bM X.prog X.w (upd H a ob) h' a ob) :
  Inv X pins σ (upd H a ob) { s with heap:=h',toks:=t' } :=
 I.write (x:=a) (e:=a) mu (.inl rfl) (fun b q hb z=>(hs.2 b hb).trans z) he new
theorem Jv {H':Hp}{kvs:List (Key×V)}{vs:List (Key×Value)} (z:kvs.length<=sizeLine) (hd:(a==sysModules)=false) (rel:KV kvs vs) (dd:h'.DictOf (aX P w) a vs) :
  bM P w H' h' a (.dK kvs):=⟨z,hd,vs,rel,dd⟩
theorem BW {Q:Unit->Shared->Prop} (hu:A.units+1<cLine) (I:Inv X pins σ H s) (g:yu H a y v H') (ry:RelV y u) (rv:RelV v r) (h:∀ s',Inv X pins σ H' s'->Q () s') :
  wpAny (model X.prog X.w) A (setItem (.ref a) u r) Q E s:=by
 rcases g with ⟨kvs,k,e,ey,l,eH⟩ | ⟨kvs,k,b,e,ey,eb,l,eH⟩
 ·subst ey eH
  obtain⟨z,hd,vs,rel,dd⟩:=Im I.hok e
  have hz:vs.length<=sizeLine:=by rw[←rel.length];exact z
  have hl:(putK kvs k v).length<=sizeLine:=by have:=qY kvs k v;omega
  refine wpAny_setItem_pairs (hsz:=hz) (uM ry) dd fun h' dd' hs=>h _ ?_
  have he:∃ q,h'.get? a=some q:=let ⟨q,_,_,hq,_⟩:=dd';⟨q,hq⟩
  exact Az I (by rw[e];exact True.intro) hs he (Jv hl hd (rel.put k rv) dd')
 ·subst ey eH
  cases (show u=Value.ref b from ry)
  obtain⟨z,hd,xs,rel,dd⟩:=KL I.hok e
  have hz:xs.length<=sizeLine:=by rw[←Paired.length rel];exact z
  have hl:(putK kvs k v).length<=sizeLine:=by have:=qY kvs k v;omega
  refine wpAny_setItem_heap (hsz:=hz) (mZ hu) (qw I.hok eb) dd fun h' dd' hs=>h _ ?_
  obtain⟨q,es,ep,hq,h2,h3,h4,_,h5⟩:=dd'
  refine Az I (by rw[e];exact True.intro) hs ⟨q,hq⟩ ⟨hl,hd,_,(rel.put k eb rv).keeps fun c ys ec=>?_,q,es,ep,hq,h2,h3,h4,h5⟩
  rw[aD (iN ec e (fun z=>nomatch z))]
  exact ec
end

section
variable {X:Cx}{pins:List (Addr×Obj)}{σ:St}{H:Hp}{s:Shared}{a:Addr}{kvs:List (Key×V)}{k:Key}{u:Value}{A:Around}{E:Value->Shared->Prop}
theorem KJ (I:Inv X pins σ H s) (e:Rd H a (.dK kvs)) (h:∀ t s',Inv X pins σ H s'->Q (.int kvs.length t) s'):wpAny (model X.prog X.w) A (call (.builtin "len") [.ref a]) Q E s:=by
 obtain⟨z,hd,vs,rel,dd⟩:=qU I.hok e
 refine call_len_dict hd dd (by rw[←rel.length];rw[ju] at z;omega) ?_
 rw[←rel.length]
 exact h _ _ (I.tok _)
end


def Jb (i:Expr):Prop:=∀ ov iv,subscripted i false ov iv=operate [ov,iv] (getItem ov iv)
theorem Ia {prog:Program}{w:World}{A:Around}{E:Value->Shared->Prop}{s:Shared}{env:Env}{value slice:Expr}{pos:Pos}{T id:String}{Q:Value->Shared->Prop}
  (hl:typeLookup (.type T) "__getitem__"=pure (some (.builtin id))) (hs:Jb slice)
  (h:wpAny (model prog w) A (eval value env) (fun o s₁=>wpAny (model prog w) A (eval slice env) (fun i s₂=>s₂.TypeIs o T/\wpAny (model prog w) A (getItem o i) Q E s₂) E s₁) E s) :
  wpAny (model prog w) A (eval (.Subscript value slice pos) env) Q E s:=by
 refine Subscript_ (bO h (fun o s₁ h₁=>bO h₁ (fun i s₂ h₂=>?_) fun _ _ x=>x) fun _ _ x=>x)
 obtain⟨hT,h₂⟩:=h₂
 unfold subscriptTail
 refine aa ?_
 rw[getitemInPython_of_ne hT.not_modules]
 refine aa (wpAny_specialOf hT hl ?_)
 have fin:wpAny (model prog w) A (subscripted slice false o i) (fun r s₃=>wpAny (model prog w) A (letTemporaryGo value o r >>= fun _=>pure r) Q E s₃) E s₂:=by
  rw[hs o i]
  exact wpAny_operating (bO h₂ (fun r s₃ h₃=>aa (wpAny_letTemporaryGo (ah h₃))) fun _ _ x=>x)
 first
  | exact ah (aa fin)
  | exact aa (ah (aa fin))
  | exact aa fin

theorem wO (I:Inv X pins σ H s) (g:lH H a y o):s.TypeIs (.ref a) "dict":=by
 rcases g with ⟨kvs,k,e,_,_⟩ | ⟨kvs,k,b,e,_,_,_⟩
 ·obtain⟨_,_,vs,_,dd⟩:=qU I.hok e
  exact dd.typeIs
 ·obtain⟨_,_,xs,_,dd⟩:=su I.hok e
  exact dd.typeIs
def FL (td ty:TE):TE:=fun σ H Q=>td σ H fun x H1=>ty σ H1 fun y H2=>∃ a v,x=.ref a/\lH H2 a y (some v)/\Q v H2
def FD (td ty tv:TE):TS:=fun D σ H=>tv σ H fun v H1=>td σ H1 fun x H2=>ty σ H2 fun y H3=>∃ a H4,x=.ref a/\yu H3 a y v H4/\D.nx σ H4
section
variable {X:Cx}{o i e value:Expr}{pos pos' tpos:Pos}{td ty tv:TE}
theorem Hu (hu:X.A.units+1<cLine) (ho:PE X o td) (hi:PE X i ty) (hs:Jb i):PE X (.Subscript o i pos) (FL td ty):=by
 intro pins s σ H Q I h
 refine Ia PySem.F.slot_dict_getitem.lookup hs (thn (ho pins s σ H _ I h) fun u s1 ⟨x,H1,I1,rx,q1⟩=>thn (hi pins s1 σ H1 _ I1 q1) fun iv s2 ⟨y,H2,I2,ry,a,v,ex,g,q2⟩=>?_)
 subst ex
 obtain rfl:u=Value.ref a:=rx
 exact⟨wO I2 g,BV hu I2 g ry fun w' s3 I3 rw'=>⟨v,H2,I3,rw',q2⟩⟩
theorem HB (hu:X.A.units+1<cLine) (ho:PE X o td) (hi:PE X i ty) (hv:PE X value tv) (hs:swapsWith value (some (.Subscript o i pos')) pos.line X.env=pure false) :
  PS X (.Assign [.Subscript o i pos'] value pos) (FD td ty tv):=by
 intro pins s σ H D I h
 refine wpAny_Assign_Subscript (thn (hv pins s σ H _ I h) fun r s1 ⟨v,H1,I1,rv,q1⟩=>thn (ho pins s1 σ H1 _ I1 q1) fun u s2 ⟨x,H2,I2,rx,q2⟩=>thn (hi pins s2 σ H2 _ I2 q2) fun iv s3 ⟨y,H3,I3,ry,a,H4,ex,g,q3⟩=>?_) hs
 subst ex
 obtain rfl:u=Value.ref a:=rx
 exact BW hu I3 g ry rv fun s4 I4=>⟨σ,H4,I4,q3⟩
end


theorem DV (h:Heap) (hb:sysModules<h.objs.size):bM P w H (h.push { cls:=.type "dict",data:=.dict #[] }) h.objs.size (.dK []) :=
 ⟨aT _,jt.mpr (bt (aS hb)),[],.nil,Heap.DictOf.new h⟩
theorem DW (h:Heap) (hb:sysModules<h.objs.size):bM P w H (h.push { cls:=.type "dict",data:=.dict #[] }) h.objs.size (.dT []) :=
 ⟨aT _,jt.mpr (bt (aS hb)),[],.nil,_,#[],0,aZ _ rfl,⟨rfl,rfl,rfl⟩,rfl,rfl,List.nodup_nil⟩
def Ks:TE:=fun _ H Q=>∀ p,H p=none->Q (.ref p) (upd H p (.dK []))
def Kt:TE:=fun _ H Q=>∀ p,H p=none->Q (.ref p) (upd H p (.dT []))
section
variable {X:Cx}{pos:Pos}
theorem Fh:PE X (.Dict [] [] pos) Ks:=fun pins s σ H Q I h =>
 wpAny_Dict_empty ⟨.ref s.heap.objs.size,_,I.laid (a:=s.heap.objs.size) (o:=.dK []) (t':=s.toks) (fun _ _ q=>az _ q) (ak _) (DV s.heap I.big),rfl,h _ (I.hok.fresh (ak _))⟩
theorem Fi:PE X (.Dict [] [] pos) Kt:=fun pins s σ H Q I h =>
 wpAny_Dict_empty ⟨.ref s.heap.objs.size,_,I.laid (a:=s.heap.objs.size) (o:=.dT []) (t':=s.toks) (fun _ _ q=>az _ q) (ak _) (DW s.heap I.big),rfl,h _ (I.hok.fresh (ak _))⟩
end

structure M1 (X:Cx) (o:Expr) (m:Str) (apos:Pos) (e:Expr) (cpos:Pos):Prop where
 base:attributeBase o m X.env (eval o X.env)=eval o X.env
 few:((backTo cpos (starEach [e] X.env)).all (fun x=>!x.1)&&(backToKw cpos (keywordEach [] X.env)).all (fun x=>x.1.isSome)
  && decide (([e]:List Expr).length+([]:List Keyword).length+(if ([]:List Keyword).isEmpty then 0 else 1)<30))=true
 line:(apos.endLine==cpos.line)=true
 trees:backTo cpos (starEach [e] X.env)=[(false,eval e X.env)]
def IsD (H:Hp) (a:Addr):Prop:=(∃ kvs,Rd H a (.dK kvs))∨∃ kvs,Rd H a (.dT kvs)
theorem J5 (I:Inv X pins σ H s) (d:IsD H a) :
  s.TypeIs (.ref a) "dict"/\(∀ b,Value.ref a=.ref b->∃ ob,s.heap.get? b=some ob/\ob.dict=none)/\(a==sysModules)=false:=by
 rcases d with ⟨kvs,e⟩ | ⟨kvs,e⟩
 ·obtain⟨_,hd,vs,_,dd⟩:=qU I.hok e
  refine⟨dd.typeIs,fun b q=>?_,hd⟩
  cases q
  obtain⟨ob,_,_,h1,h2,_⟩:=dd
  exact⟨ob,h1,h2.2.1⟩
 ·obtain⟨_,hd,xs,_,dd⟩:=su I.hok e
  refine⟨dd.typeIs,fun b q=>?_,hd⟩
  cases q
  obtain⟨ob,_,_,h1,h2,_⟩:=dd
  exact⟨ob,h1,h2.2.1⟩

section
variable {X:Cx}{pins:List (Addr×Obj)}{σ:St}{H:Hp}{s:Shared}{a:Addr}{y d:V}{u r:Value}{o:Option V}{A:Around}{E:Value->Shared->Prop}
theorem Ju (hu:A.units+1<cLine) (I:Inv X pins σ H s) (g:lH H a y o) (ry:RelV y u) (h:∀ w' s',Inv X pins σ H s'->RelV (o.getD .non) w'->Q w' s') :
  wpAny (model X.prog X.w) A (call (.builtin "dict.get") [.ref a,u]) Q E s:=by
 rcases g with ⟨kvs,k,e,ey,l⟩ | ⟨kvs,k,b,e,ey,eb,l⟩
 ·subst ey
  obtain⟨z,hd,vs,rel,dd⟩:=qU I.hok e
  refine call_meetsIn PySem.F.slot_dict_get dd.typeIs PySem.F.entry_dict_get (PySem.F.args_dict_get_2 _ _) (meets_dict_get (aX X.prog X.w) a (uM ry) hd) ⟨_,dd.mapOf,h _ _ (I.tok _) ?_⟩
  rw[l]
  exact (rel.val k).getD rfl
 ·subst ey
  cases (show u=Value.ref b from ry)
  obtain⟨z,hd,xs,rel,dd⟩:=su I.hok e
  refine call_meetsIn PySem.F.slot_dict_get dd.typeIs PySem.F.entry_dict_get (PySem.F.args_dict_get_2 _ _) (meetsH_dict_get (tupleKind (aX X.prog X.w)) a b hd) ⟨mZ hu,k,xs,qw I.hok eb,dd,h _ _ (I.tok _) ?_⟩
  rw[l]
  exact (rel.val k).getD rfl
end

def Ac (td ty:TE):TE:=fun σ H Q=>td σ H fun x H1=>∃ a,x=.ref a/\IsD H1 a/\ty σ H1 fun y H2=>∃ o,lH H2 a y o/\Q (o.getD .non) H2
section
variable {X:Cx}{o e f:Expr}{apos cpos:Pos}{td ty tx:TE}
theorem Fg (hu:X.A.units+1<cLine) (ho:PE X o td) (he:PE X e ty) (m:M1 X o "get" apos e cpos):PE X (.Call (.Attribute o "get" apos) [e] [] cpos) (Ac td ty):=by
 intro pins s σ H Q I h
 refine wpAny_Call_method m.base m.few m.line PySem.F.plainAttrs_dict PySem.F.slot_dict_get PySem.F.type_dict_get (thn (ho pins s σ H _ I h) fun u s1 ⟨x,H1,I1,rx,a,ex,d,q1⟩=>?_)
 subst ex
 obtain rfl:u=Value.ref a:=rx
 obtain⟨t1,t2,_⟩:=J5 I1 d
 refine⟨t1,t2,?_⟩
 rw[m.trees]
 refine Calls.callWith_builtin rfl (Calls.evalArgs_plain (Calls.spliced_cons (thn (he pins s1 σ H1 _ I1 q1) fun iv s2 ⟨y,H2,I2,ry,ov,g,q2⟩=>Calls.spliced_nil ?_)))
 exact Ju hu I2 g ry fun w' s3 I3 rw'=>⟨_,H2,I3,rw',q2⟩
end

section
variable {X:Cx}{pins:List (Addr×Obj)}{σ:St}{H:Hp}{s:Shared}{a:Addr}{kvs:List (Key×V)}{A:Around}{E:Value->Shared->Prop}
end


section
variable {X:Cx}{pins:List (Addr×Obj)}{σ:St}{H:Hp}{s:Shared}{a:Addr}{y:V}{u:Value}{A:Around}{E:Value->Shared->Prop}
end
end
end L2


namespace Att
open PySem PySem.W PySem.Calls PyProof.Rows
variable {P:Params}{h:Heap}

theorem rG :∀ (ns:List Int) (vs:List Value),WellAll P h vs (ns.map WData.int)->IntsAre vs ns:=by
 intro ns
 induction ns with
 | nil =>
  intro vs w
  rw[i9] at w
  cases w
  exact .nil
 | cons n ns ih =>
  intro vs w
  rw[aR] at w
  cases w with
  | cons a b =>
   cases a
   exact .cons _ _ (ih _ b)

theorem Df {l:OpenLaw}{n:Nat} (hn:l.most=some n) {P:Params}{h:Heap}{args:List WData}{vals:List Value}
  (hpre:l.row.toRowW.claim.pre args=true) (hwl:WellAll P h vals args) :
  ∃ a vs ns,vals=[Value.ref a]/\args=[WData.list (ns.map WData.int)]/\h.get? a=some { cls:=.type "list",data:=.seq vs.toArray }/\IntsAre vs ns/\ns.length<=n:=by
 have hsh:WShape.hasAll [] args [.list .int]=true:=(pre_splitW hpre).1
 have hc:l.pre.holds [] { args:=args }=true:=(pre_splitW hpre).2
 obtain⟨d,r,rfl,h1,h2⟩:=hasAllW_cons hsh
 obtain rfl:=hasAllW_nil h2
 obtain⟨xs,rfl,h3⟩:=hasW_list h1
 obtain⟨ns,rfl⟩:=items_int h3
 have hlen:ns.length<=n:=by
  unfold OpenLaw.pre at hc
  have h4:(WTm.not (.lt (.lit (.int (n:Int))) (.len (.arg 0)))).holds [] { args:=[.list (ns.map .int)] }=true:=by
   have h4:=(holds_andW hc).1
   rw[hn] at h4
   exact h4
  have h5:=condW_of h4 (w_not (w_lt w_lit (w_len_list (w_arg rfl))))
  rw[List.length_map] at h5
  refine Nat.le_of_not_lt fun q=>?_
  have q':(n:Int)<((ns.length:Nat):Int):=by omega
  first
   | (rw[aq q'] at h5;exact absurd h5 (by decide))
   | (simp at h5;omega)
 cases hwl with
 | cons w1 w2 =>
  cases w2
  cases w1 with
  | list ho hall=>exact⟨_,_,ns,rfl,rfl,ho,rG ns _ hall,hlen⟩

theorem CY (l:OpenLaw) (args:List WData):l.row.toRowW.claim.post args (.bool true) args=true :=
 postW_of (r:=l.row.toRowW) (X:=(true==true))
  (show WShape.has [] (.bool true) .bool=true by first | rfl | decide | simp [WShape.has,WShape.arms,WShape.armsAll])
  (show (WTm.eq .res (.lit (.bool true))).value [] { args:=args,res:=some (.bool true),after:=args }=some (.bool (true==true)) from w_eq_bool (w_res rfl) w_lit) rfl

theorem wG {l:OpenLaw}{n:Nat}{q:Program}{loose:List Str}{XP:(Str->Option Value)->Heap->Prop}{YP:World->Heap->Prop}{d:DefRec}
  (hn:l.most=some n) (hdf:d.params.defaults=[])
  (call:∀ (w:World) (s₀ s₁:Shared) (mg mb:Str->Option Value) (fa:Addr) (o:Obj) (pm cd doc:Value) (a:Addr) (vs:List Value) (ns:List Int),
   Ground q loose [] XP w s₀ mg mb s₁.heap->YP w s₁.heap →
   s₁.heap.get? fa=some o->o.data=.func (docDef d.name d.params d.body d.scope pm cd doc)->s₁.heap.CodeRec cd d.name->mg d.name=some (.ref fa) →
   s₁.heap.get? a=some { cls:=.type "list",data:=.seq vs.toArray }->IntsAre vs ns->ns.length<=n->s₁.gens=#[] →
   codeAny (model l.prog w) callerA (.call (.ref fa) ⟨[.ref a],[]⟩) (fun r s'=>r=.ok (.ret (.bool true))/\OldK s₁.heap s'.heap/\s'.os=s₁.os/\AllBare s'.gens) s₁) :
  WalkO q loose XP YP l.row.toRowW d [] (fun f vs=>PySem.call f vs):=by
 intro w s₀ s₁ mg mb G Y fa o pm cd doc dV kV ho hd hcd hD hmg hg args vals as hpre hlay hrd hwl hlo
 obtain rfl:dV=.none:=Dflts.none hD hdf
 obtain rfl:kV=.none:=Dflts.noKw hD
 obtain⟨a,vs,ns,rfl,rfl,hobj,hints,hlen⟩:=Df hn hpre hwl
 refine enter_call (fR (call w s₀ s₁ mg mb fa o pm cd doc a vs ns G Y ho (fd_plain hd) hcd hmg hobj hints hlen hg) fun r s' hq=>?_)
 obtain⟨rfl,h2,h3,h4⟩:=hq
 exact⟨.inl ⟨.bool true,.bool true,[],rfl,fun _=>rfl,.bool true,CY l _,fun _=>⟨List.Pairwise.nil,fun _ hm=>(nomatch hm)⟩⟩,h2,h3,h4⟩

section
variable {prog:Program}{w:World}{A:Around}{E:Value->Shared->Prop}{s:Shared}{K:Frag}

end
end Att

namespace L2
open PySem PySem.Spec PyProof.Rows
variable {A:Around}{f:Addr}{st:Stmt}
section

theorem vg:∀ {vs:List Value}{ns:List Int},IntsAre vs ns->Vals (ns.map V.int) vs
 | _,_,.nil=>.nil
 | _,_,.cons n t h=>.cons ⟨t,rfl⟩ (vg h)

end
section

end
section

def inClass (s:Stmt) (j:Nat):Stmt:=match s with
 | .ClassDef _ _ _ body _ _ _ _ _ _ _=>body.getD j (.Pass ⟨0,0,0,0⟩)
 | _=>.Pass ⟨0,0,0,0⟩
def cK (s:Stmt):Arguments:=match s with
 | .FunctionDef _ a _ _ _ _ _ _ _ _=>a
 | _=>{ posonlyargs:=[],args:=[],vararg:=none,kwonlyargs:=[],kw_defaults:=[],kwarg:=none,defaults:=[] }
def cA (s:Stmt):List Stmt:=match s with
 | .FunctionDef _ _ b _ _ _ _ _ _ _=>b
 | _=>[]
def ar (s:Stmt):Scope:=match s with
 | .FunctionDef _ _ _ _ _ _ sc _ _ _=>sc
 | _=>{ kind:=.function,names:=[],isGenerator:=false,isCoroutine:=false }

abbrev E0:St->XK:=fun _ _ _ _=>False
structure Fun (K:PySem.W.Frag) (x qual:Str) (st:Stmt) (f:Addr) (fd:FuncData):Prop where
 ex:∃ (oc:Value) (od:Option Addr) (kV doc pm:Value) (an:Option Addr) (cdv ct:Value) (osl:Array (Option Value)),
  fd=PySem.W.fnOf x qual (cK st) (cA st) (ar st) .none kV doc pm an cdv ct/\K.lookup f=some ⟨oc,od,.func fd,osl⟩/\PySem.W.codeIn K cdv qual=true
 kp:PySem.W.keepIn K (.ref f)=true
section
variable {P:Program}{w:World}{K:PySem.W.Frag}{mg:Str->Option Value}{base:Heap}
theorem Fun.binds {x qual:Str}{fd:FuncData}{ps:List Str} (F:Fun K x qual st f fd)
  (h:∀ (kV doc pm:Value) (an:Option Addr) (cdv ct:Value) (us:List Value),us.length=ps.length->bindArgs (PySem.W.fnOf x qual (cK st) (cA st) (ar st) .none kV doc pm an cdv ct) ⟨us,[]⟩=pure (ps.zip us)):Binds K fd ps []:=by
 obtain⟨oc,od,kV,doc,pm,an,cdv,ct,osl,rfl,lk,hcd⟩:=F.ex
 exact .all (h kV doc pm an cdv ct)
theorem nJ {x qual:Str}{oc:Value}{od an:Option Addr}{osl:Array (Option Value)}{kV doc pm cdv ct:Value} (l:K.lookup f=some ⟨oc,od,.func (PySem.W.fnOf x qual (cK st) (cA st) (ar st) .none kV doc pm an cdv ct),osl⟩)
  (c:PySem.W.codeIn K cdv qual=true) (k:PySem.W.keepIn K (.ref f)=true):Fun K x qual st f (PySem.W.fnOf x qual (cK st) (cA st) (ar st) .none kV doc pm an cdv ct):=⟨⟨oc,od,kV,doc,pm,an,cdv,ct,osl,rfl,l,c⟩,k⟩
end
theorem sF {k:Nat} (hr:eP k A):A.units+1<cLine:=cI (Nat.add_le_add_left (by decide:1<=64) _) hr.units
section
variable {X:Cx}
end

def aw (H H':Hp):Prop:=∀ b o,H b=some o->H' b=some o
theorem aw.refl (H:Hp):aw H H:=fun _ _ h=>h
theorem aw.trans {H H1 H2:Hp} (a:aw H H1) (b:aw H1 H2):aw H H2:=fun c o h=>b c o (a c o h)
theorem aw.free {H H':Hp} (e:aw H H') {l:Addr} (h:H' l=Option.none):H l=Option.none:=by
 cases q:H l with
 | none=>rfl
 | some o =>
  rw[e l o q] at h
  cases h
theorem aw.seq {K:PySem.W.Frag}{H H':Hp}{a:Addr}{xs:List V} (e:aw H H') (h:SqL K H a xs):SqL K H' a xs:=by
 rcases h with (h | ⟨o,h⟩) | h
 ·exact .inl (.inl (e _ _ h))
 ·exact .inl (.inr ⟨o,e _ _ h⟩)
 ·exact .inr h

end
section
section
variable {κ:Type} [DecidableEq κ]
theorem vH:∀ {l:List κ}{k:κ},l.Nodup->¬ k∈l->(l++[k]).Nodup
 | [],k,_,_=>by simp
 | a::r,k,h,hk=>by
  obtain⟨h1,h2⟩:=dS.mp h
  show (a::(r++[k])).Nodup
  refine dS.mpr ⟨fun m=>?_,vH h2 fun m=>hk (aI.mpr (Or.inr m))⟩
  rcases bz.mp m with q | q
  ·exact h1 q
  ·exact hk (aI.mpr (Or.inl (aV.mp q).symm))
end
end
section
structure lN (k:Nat) (A:Around):Prop where
 dp:A.depth+3*k+5<recursionLimit
 un:A.units+16*k+200<cLine
theorem lN.mono {j k:Nat} (r:lN k A) (h:j<=k):lN j A:=⟨by have:=r.dp;omega,by have:=r.un;omega⟩
theorem lN.deeper {k:Nat}{A:Around} (r:lN (k+1) A) (env:Env):lN k (A.deeper env):=⟨by have:=r.dp;show A.depth+1+3*k+5<_;omega,by have:=r.un;show A.units+3+16*k+200<_;omega⟩
theorem lN.depth {k:Nat}{A:Around} (r:lN k A):A.depth<recursionLimit:=by have:=r.dp;omega
theorem lN.m8 {k:Nat} (r:lN k A):A.units<cLine:=by have:=r.un;omega
theorem eP.n {k:Nat} (r:eP k A):lN k A:=⟨r.dp,r.un⟩
section
variable {X:Cx}{CX:CXT}{k:Nat}{f C:Addr}{fd:FuncData}{ps:List Str}{sp:Sp}{dvs:List V}{ds:List Value}{E:St->XK}{x m:Str}{p pos apos:Pos}{e o:Expr}{es:List Expr}{ta:TE}{t:TA}
end
end
end L2
set_option Elab.async false
set_option linter.all false
set_option maxRecDepth 100000
set_option maxHeartbeats 4000000
set_option exponentiation.threshold 2000
namespace Mk
variable {al:List Nat}{i:Nat}{j:Nat}{m:Int}{p:Int}{ps:List Int}{x:Int}
section
def cop (m n:Int):Bool:=decide (Int.gcd n m=1)
def dif (ws:List Int):List Int:=(ws.zip (ws.drop 1)).map fun p=>p.2-p.1
def safe (m:Int) (ws:List Int):Bool:=(ws++dif ws).all (cop m)
theorem Er (a b:Int):Int.gcd b (a%b)=Int.gcd a b:=by
 rw[Int.emod_def,Int.gcd_sub_mul_left_right,Int.gcd_comm]
theorem ir {ws:List Int}:safe m ws=true↔(∀ w∈ws,cop m w=true)/\∀ (j:Nat) a b,ws[j]?=some a->ws[j+1]?=some b->cop m (b-a)=true:=by
 unfold safe
 rw[List.all_append,bI,cw,cw]
 refine and_congr Iff.rfl ⟨fun h j a b ha hb=>?_,fun h x hx=>?_⟩
 ·refine h (b-a) (aE.mpr ⟨(a,b),?_,rfl⟩)
  refine bG (i:=j) ?_
  rw[List.getElem?_zip_eq_some]
  exact⟨ha,by rw[i5,Nat.add_comm];exact hb⟩
 ·unfold dif at hx
  obtain⟨⟨a,b⟩,hp,rfl⟩:=aE.mp hx
  obtain⟨j,hj⟩:=pQ hp
  rw[List.getElem?_zip_eq_some] at hj
  exact h j a b hj.1 (by have:=hj.2;rw[i5,Nat.add_comm] at this;exact this)
def ofN (n:Nat):List Int:=(List.range n).map fun (k:Nat)=>(k:Int)
theorem oO (n:Nat):(ofN n).length=n:=by simp [ofN]
theorem gu {n:Nat}:x∈ofN n↔0<=x/\x<n:=by
 unfold ofN
 rw[aE]
 constructor
 ·rintro⟨k,hk,rfl⟩
  have:=bN.mp hk
  omega
 ·rintro⟨h1,h2⟩
  exact⟨x.toNat,bN.mpr (by omega),by omega⟩
def wH (m:Int) (found:List Int):List Int:=(ofN m.toNat).filter fun w=>cop m w&&(found.isEmpty||cop m (w-found.getLastD 0))
def fE (m:Int) (found:List Int):List Int:=if wH m found=[] then ofN m.toNat else wH m found
def nD (m:Int):Nat->Int->List Int->List Int
 | 0,_,found=>found
 | n+1,c,found=>nD m n (c/7) (found++[(fE m found).getD (c%((fE m found).length:Int)).toNat 0])
def wts (c m:Int) (n:Nat):List Int:=nD m n c []
theorem xQ {found:List Int} (h:x∈fE m found):0<=x/\x<m:=by
 unfold fE at h
 split at h
 ·have:=gu.mp h;omega
 ·have:=gu.mp (bW.mp h).1;omega
theorem xR (hm:0<m) (found:List Int):0<(fE m found).length:=by
 unfold fE
 split
 ·rw[oO];omega
 ·rename_i h
  exact List.length_pos_iff.mpr h
theorem Ba (hm:0<m) (found:List Int) (c:Int):0<=c%((fE m found).length:Int)/\c%((fE m found).length:Int)<((fE m found).length:Int):=by
 have:=xR hm found
 exact⟨c4 _ (by omega),cH _ (by omega)⟩
theorem xP (hm:0<m) (found:List Int) (c:Int):(fE m found).getD (c%((fE m found).length:Int)).toNat 0∈fE m found:=by
 obtain⟨h1,h2⟩:=Ba hm found c
 have h3:(c%((fE m found).length:Int)).toNat<(fE m found).length:=by omega
 rw[List.getD_eq_getElem?_getD,List.getElem?_eq_getElem h3]
 exact i6 h3
theorem vj (m:Int):∀ (n:Nat) (c:Int) (found:List Int),(nD m n c found).length=found.length+n
 | 0,_,_=>rfl
 | n+1,c,found=>by
  unfold nD
  rw[vj m n,List.length_append,c8];omega
theorem Ij (c m:Int) (n:Nat):(wts c m n).length=n:=by unfold wts;rw[vj];simp
theorem vk {m:Int} (hm:0<m):∀ (n:Nat) (c:Int) (found:List Int),(∀ x∈found,0<=x/\x<m)->∀ x∈nD m n c found,0<=x/\x<m
 | 0,_,_,h=>h
 | n+1,c,found,h=>by
  unfold nD
  refine vk hm n _ _ fun x hx=>?_
  rcases bz.mp hx with hx | hx
  ·exact h x hx
  ·rw[aV] at hx;subst hx;exact xQ (xP hm found c)
theorem Ik (hm:0<m) (c:Int) (n:Nat):∀ x∈wts c m n,0<=x/\x<m:=vk hm n c [] (fun _ h=>by cases h)
theorem BR:∀ m:Nat,m<27->3<=m->cop (m:Int) 0=false/\cop (m:Int) 1=true/\cop (m:Int) (-1)=true/\cop (m:Int) 2=decide (m%2=1):=by decide +kernel
end
section
def dot:List Int->List Int->Int
 | a::r,b::t=>a*b+dot r t
 | _,_=>0
theorem AB:∀ (ws ps:List Int),((ws.zip ps).map fun p=>p.1*p.2).sum=dot ws ps
 | [],_=>by simp [dot]
 | _::_,[]=>by simp [dot]
 | a::r,b::t=>by rw[List.zip_cons_cons,aR,jq,AB r t];rfl
theorem wQ:∀ (ws ps:List Int) (a b:Int),ws.length=ps.length->dot (ws++[a]) (ps++[b])=dot ws ps+a*b
 | [],[],a,b,_=>by simp [dot]
 | [],_::_,_,_,h=>by simp at h
 | _::_,[],_,_,h=>by simp at h
 | x::r,y::t,a,b,h=>by
  show x*y+dot (r++[a]) (t++[b])=x*y+dot r t+a*b
  rw[wQ r t a b (by simpa using h),Int.add_assoc]
def plc (al w:List Nat):List Int:=w.map fun c=>((al.idxOf c:Nat):Int)
def b8 (al:List Nat) (n:Int) (z:List Nat):Bool:=decide ((z.length:Int)=n)&&z.all fun c=>decide (c∈al)
def good (m:Int) (ws:List Int) (r:Int) (ps:List Int):Bool:=decide ((dot ws ps-r)%m=0)
def bU (al:List Nat) (ws:List Int) (r:Int) (z:List Nat):Bool:=b8 al ws.length z&&good al.length ws r (plc al z)
def bA (al:List Nat) (ps:List Int):List Nat:=ps.map fun p=>al.getD p.toNat 0
theorem gk (al:List Nat) (ps:List Int):(bA al ps).length=ps.length:=by simp [bA]
theorem nu (al w:List Nat):(plc al w).length=w.length:=by simp [plc]
theorem getD_at (h:0<=p/\p<al.length):al[p.toNat]?=some (al.getD p.toNat 0):=by
 rw[List.getD_eq_getElem?_getD,List.getElem?_eq_getElem (by omega)];rfl
theorem getD_mem (h:0<=p/\p<al.length):al.getD p.toNat 0∈al:=bG (getD_at h)
theorem Cu (nd:al.Nodup) {i c:Nat} (h:al[i]?=some c):al.idxOf c=i:=by
 obtain⟨hi,e⟩:=bf.mp h
 subst e
 exact List.Nodup.idxOf_getElem nd i hi
theorem iW {al:List Nat} (nd:al.Nodup):∀ {ps:List Int},(∀ p∈ps,0<=p/\p<al.length)->plc al (bA al ps)=ps
 | [],_=>rfl
 | p::r,h=>by
  show ((al.idxOf (al.getD p.toNat 0):Nat):Int)::plc al (bA al r)=p::r
  rw[iW nd (fun q hq=>h q (List.mem_cons_of_mem _ hq)),Cu nd (getD_at (h p List.mem_cons_self))]
  rw[pM (h p List.mem_cons_self).1]
theorem kU {al w:List Nat} (h:∀ c∈w,c∈al):∀ p∈plc al w,0<=p/\p<al.length:=by
 intro p hp
 obtain⟨c,hc,rfl⟩:=aE.mp hp
 exact⟨Int.natCast_nonneg _,by exact_mod_cast mP (h c hc)⟩
theorem ly (h:∀ p∈ps,0<=p/\p<al.length):b8 al ps.length (bA al ps)=true:=by
 unfold b8
 rw[gk,aq rfl,dA,cw]
 intro c hc
 obtain⟨p,hp,rfl⟩:=aE.mp hc
 exact aq (getD_mem (h p hp))
theorem cQ {n:Int}{z:List Nat}:b8 al n z=true↔(z.length:Int)=n/\∀ c∈z,c∈al:=by
 unfold b8
 rw[bI,bC,cw]
 refine and_congr Iff.rfl ⟨fun h c hc=>iD (h c hc),fun h c hc=>aq (h c hc)⟩
def sml (xs:List Int):Prop:=∀ x∈xs,0<=x/\x<1000
theorem Kq {xs:List Int} (h:∀ x∈xs,0<=x/\x<m) (hm:m<=1000):sml xs:=fun x hx=>⟨(h x hx).1,Int.lt_of_lt_of_le (h x hx).2 hm⟩
theorem kK {ws ps:List Int}{r:Int} (nd:al.Nodup) (hl:ps.length=ws.length) (h:∀ p∈ps,0<=p/\p<al.length):bU al ws r (bA al ps)=good al.length ws r ps:=by
 unfold bU
 rw[iW nd h,←hl,ly h,dA]
end
section
def jx (m:Int):Nat->Int->List Int
 | 0,_=>[]
 | n+1,k=>jx m n (k/m)++[k%m]
theorem jZ (m:Int):∀ (n:Nat) (k:Int),(jx m n k).length=n
 | 0,_=>rfl
 | n+1,k=>by unfold jx;rw[List.length_append,jZ];rfl
theorem sC {m:Int} (hm:0<m):∀ (n:Nat) (k:Int),∀ x∈jx m n k,0<=x/\x<m
 | 0,_,x,h=>by cases h
 | n+1,k,x,h=>by
  unfold jx at h
  rcases bz.mp h with h | h
  ·exact sC hm n _ x h
  ·rw[aV.mp h];exact⟨c4 _ (by omega),cH _ hm⟩
theorem uG {m:Int} (hm:0<m):∀ (n:Nat) (k:Int),jx m (n+1) k=(k/m^n)%m::jx m n k
 | 0,k=>by simp [jx]
 | n+1,k=>by
  show jx m (n+1) (k/m)++[k%m]=_
  rw[uG hm n (k/m),Int.ediv_ediv_of_nonneg (iy hm),←Int.pow_succ']
  rfl
def numOf (m:Int) (ps:List Int):Int:=ps.foldl (fun k p=>k*m+p) 0
theorem kO (m:Int) (ps:List Int) (p:Int):numOf m (ps++[p])=numOf m ps*m+p:=by unfold numOf;rw[List.foldl_append];rfl
theorem sQ {m:Int} (hm:0<m):∀ (n:Nat) (k:Int),0<=k->k<m^n->numOf m (jx m n k)=k
 | 0,k,h0,h1=>by
  have:k=0:=by simp at h1;omega
  subst this;rfl
 | n+1,k,h0,h1=>by
  unfold jx
  rw[kO,sQ hm n (k/m) (Int.ediv_nonneg h0 (iy hm)) (Int.ediv_lt_of_lt_mul hm (by rw[←Int.pow_succ];exact h1))]
  have:=pK k m
  rw[Int.mul_comm];exact this
theorem iP (hm:0<m):∀ (ps:List Int),(∀ p∈ps,0<=p/\p<m)->0<=numOf m ps/\numOf m ps<m^ps.length:=by
 intro ps
 rw[←List.reverse_reverse ps]
 generalize ps.reverse=rs
 induction rs with
 | nil=>intro _;simp [numOf]
 | cons a r ih =>
  intro h
  rw[List.reverse_cons] at h ⊢
  have ih:=ih fun p hp=>h p (ky _ hp)
  have ha:=h a (dR _ List.mem_cons_self)
  rw[kO,List.length_append,c8,Int.pow_succ]
  refine⟨Int.add_nonneg (Int.mul_nonneg ih.1 (iy hm)) ha.1,?_⟩
  have h2:(numOf m r.reverse+1)*m<=m^r.reverse.length*m:=Int.mul_le_mul_of_nonneg_right (by omega) (iy hm)
  rw[Int.add_mul,Int.one_mul] at h2
  omega
theorem sD (hm:0<m):∀ (ps:List Int),(∀ p∈ps,0<=p/\p<m)->jx m ps.length (numOf m ps)=ps:=by
 intro ps
 rw[←List.reverse_reverse ps]
 generalize ps.reverse=rs
 induction rs with
 | nil=>intro _;rfl
 | cons a r ih =>
  intro h
  rw[List.reverse_cons] at h ⊢
  have ih:=ih fun p hp=>h p (ky _ hp)
  have ha:=h a (dR _ List.mem_cons_self)
  rw[kO,List.length_append,c8]
  unfold jx
  have e1:(numOf m r.reverse*m+a)/m=numOf m r.reverse:=by
   rw[Int.add_comm,Int.add_mul_ediv_right _ _ (by omega),Int.ediv_eq_zero_of_lt ha.1 ha.2,km]
  have e2:(numOf m r.reverse*m+a)%m=a:=by
   rw[Int.add_comm,Int.add_mul_emod_self_right,mC ha.1 ha.2]
  rw[e1,e2,ih]
theorem Cy:∀ m:Nat,m<27->0<m->∀ w:Nat,w<m->Nat.gcd w m=1->∃ v:Nat,v<m/\(w*v)%m=1%m:=by decide +kernel
theorem J4 {m w:Int} (h0:0<m) (h26:m<=26) (hw:0<=w/\w<m) (hc:cop m w=true):∃ v t:Int,w*v=1+m*t:=by
 obtain⟨M,rfl⟩:=gE (iy h0)
 obtain⟨W,rfl⟩:=gE hw.1
 have hg:Nat.gcd W M=1:=iD hc
 obtain⟨v,_,e⟩:=Cy M (by omega) (by omega) W (by omega) hg
 refine⟨v,((W*v:Nat):Int)/(M:Int)-(1:Int)/(M:Int),?_⟩
 have e1:=pK ((W*v:Nat):Int) (M:Int)
 have e2:=pK (1:Int) (M:Int)
 have e3:((W*v:Nat):Int)%(M:Int)=(1:Int)%(M:Int):=by exact_mod_cast e
 rw[e3] at e1
 rw[Int.mul_sub]
 have e4:((W*v:Nat):Int)=(W:Int)*(v:Int):=by push_cast;rfl
 omega
def AS (m:Int) (ws:List Int) (r:Int) (ps:List Int):List Int:=(ofN m.toNat).filter fun x=>good m ws r (ps++[x])
def qW (m:Int) (ws:List Int) (r:Int) (ps:List Int):Int:=(AS m ws r ps).headD 0
theorem Cq {m w r x:Int}{ws ps:List Int} (hl:ws.length=ps.length):good m (ws++[w]) r (ps++[x])=decide ((dot ws ps+w*x-r)%m=0):=by
 unfold good;rw[wQ _ _ _ _ hl]
theorem EU {m w r:Int}{ws ps:List Int} (h0:0<m) (h26:m<=26) (hw:0<=w/\w<m) (hc:cop m w=true) (hl:ws.length=ps.length):∃ x,0<=x/\x<m/\∀ y,0<=y->y<m->(good m (ws++[w]) r (ps++[y])=true↔y=x):=by
 obtain⟨v,t,hv⟩:=J4 h0 h26 hw hc
 have hx0:=c4 ((r-dot ws ps)*v) (show m≠0 by omega)
 have hx1:=cH ((r-dot ws ps)*v) h0
 have hq:=pK ((r-dot ws ps)*v) m
 generalize ((r-dot ws ps)*v)%m=x at hx0 hx1 hq
 generalize ((r-dot ws ps)*v)/m=q at hq
 generalize hd:dot ws ps=d at hq
 refine⟨x,hx0,hx1,fun y hy0 hy1=>?_⟩
 rw[Cq hl,bC,hd]
 constructor
 ·intro h
  obtain⟨s,hs⟩:=jk h
  have key:y-x=m*(v*s-t*y+q):=by grind
  have hb:-m<y-x/\y-x<m:=by omega
  generalize v*s-t*y+q=z at key
  have hz:z=0:=by
   rcases Int.lt_trichotomy z 0 with hz | hz | hz
   ·have:m*z<=m*(-1):=pL (by omega) (iy h0)
    omega
   ·exact hz
   ·have:m*1<=m*z:=pL (by omega) (iy h0)
    omega
  rw[hz,Int.mul_zero] at key
  omega
 ·intro h
  subst h
  have:d+w*y-r=m*(t*(r-d)-w*q):=by grind
  rw[this]
  exact Int.mul_emod_right _ _
theorem zg {l:List Int} (hn:l.Nodup) {p:Int->Bool} (hx:x∈l) (h:∀ y∈l,(p y=true↔y=x)):l.filter p=[x]:=by
 induction l with
 | nil=>cases hx
 | cons a r ih =>
  rw[dS] at hn
  rw[List.filter_cons]
  by_cases e:a=x
  ·subst e
   rw[if_pos ((h a List.mem_cons_self).mpr rfl)]
   congr 1
   rw[List.filter_eq_nil_iff]
   intro y hy hp
   exact hn.1 ((h y (List.mem_cons_of_mem _ hy)).mp hp ▸ hy)
  ·rw[if_neg (fun z=>e ((h a List.mem_cons_self).mp z))]
   refine ih hn.2 ?_ fun y hy=>h y (List.mem_cons_of_mem _ hy)
   rcases aI.mp hx with z | z
   ·exact absurd z.symm e
   ·exact z
theorem qB (n:Nat):(ofN n).Nodup:=by
 unfold ofN
 refine gM.mpr (mD ?_ pT)
 intro a b h e
 omega
theorem nq {m r:Int}{ws ps:List Int} (h0:0<m) (h26:m<=26) (hm:∀ x∈ws,0<=x/\x<m) (hc:∀ x∈ws,cop m x=true) (hl:ps.length+1=ws.length) :
  AS m ws r ps=[qW m ws r ps]/\0<=qW m ws r ps/\qW m ws r ps<m/\∀ y,0<=y->y<m->(good m ws r (ps++[y])=true↔y=qW m ws r ps):=by
 have hne:ws≠[]:=fun e=>by rw[e] at hl;simp at hl
 obtain⟨wi,w,rfl⟩:∃ wi w,ws=wi++[w]:=⟨ws.dropLast,ws.getLast hne,(pP hne).symm⟩
 have hl2:wi.length=ps.length:=by simp at hl;omega
 obtain⟨x,x0,x1,hx⟩:=EU (r:=r) h0 h26 (hm w (by simp)) (hc w (by simp)) hl2
 have e:AS m (wi++[w]) r ps=[x]:=by
  unfold AS
  refine zg (qB _) (gu.mpr ⟨x0,by omega⟩) fun y hy=>?_
  have:=gu.mp hy
  exact hx y this.1 (by omega)
 have e2:qW m (wi++[w]) r ps=x:=by unfold qW;rw[e];rfl
 rw[e2]
 exact⟨e,x0,x1,hx⟩
def jH (m:Int) (ws:List Int) (r k:Int):List Int:=jx m (ws.length-1) k++[qW m ws r (jx m (ws.length-1) k)]
end
section
theorem De {m x:Int}{l:List Int} (h:safe m l=true) (hx:cop m x=true) (hl:l=[]∨cop m (x-l.getLastD 0)=true):safe m (l++[x])=true:=by
 rw[ir] at h ⊢
 refine⟨fun w hw=>?_,fun j a b ha hb=>?_⟩
 ·rcases bz.mp hw with hw | hw
  ·exact h.1 w hw
  ·rw[aV.mp hw];exact hx
 ·by_cases h1:j+1<l.length
  ·rw[i4 (by omega)] at ha
   rw[i4 h1] at hb
   exact h.2 j a b ha hb
  ·have hj:=(bf.mp hb).1
   rw[List.length_append,c8] at hj
   have e:j+1=l.length:=by omega
   rw[i4 (by omega)] at ha
   rw[gH (by omega),e,Nat.sub_self] at hb
   have hne:l≠[]:=fun e2=>by rw[e2] at e;simp at e
   have e3:l.getLastD 0=a:=by
    rw[jo,List.getLast?_eq_getElem?,show l.length-1=j by omega,ha];rfl
   have e4:x=b:=by simpa using hb
   subst e4
   rw[←e3]
   exact hl.resolve_left hne
theorem EO:∀ m:Nat,m<27->3<=m->m%2=1->∀ w:Nat,w<m->cop (m:Int) (w:Int)=true->(cop (m:Int) (((2*w)%m:Nat):Int)&&cop (m:Int) ((((2*w)%m:Nat):Int)-(w:Int)))=true:=by decide +kernel
theorem DS (h3:3<=m) (h26:m<=26) (ho:m%2=1) {l:List Int} (hb:∀ x∈l,0<=x/\x<m) (hc:∀ x∈l,cop m x=true):wH m l≠[]:=by
 obtain⟨M,rfl⟩:=gE (show 0<=m by omega)
 intro e
 unfold wH at e
 rw[List.filter_eq_nil_iff] at e
 by_cases hl:l=[]
 ·subst hl
  exact e 1 (gu.mpr ⟨by decide,by omega⟩) (by rw[(BR M (by omega) (by omega)).2.1];rfl)
 ·have hm:l.getLastD 0∈l:=by
   rw[jo,List.getLast?_eq_some_getLast hl]
   exact List.getLast_mem hl
  have h1:=hb _ hm
  have h2:=hc _ hm
  generalize l.getLastD 0=w at e h1 h2
  obtain⟨W,rfl⟩:=gE h1.1
  have h4:=EO M (by omega) (by omega) (by omega) W (by omega) h2
  rw[bI] at h4
  refine e (((2*W)%M:Nat):Int) (gu.mpr ⟨by omega,?_⟩) ?_
  ·have:=Nat.mod_lt (2*W) (show 0<M by omega)
   omega
  ·rw[h4.1,h4.2,Bool.or_true];rfl
theorem ug {m:Int} (h3:3<=m) (h26:m<=26) (ho:m%2=1):∀ (n:Nat) (c:Int) (l:List Int),(∀ x∈l,0<=x/\x<m)->safe m l=true->safe m (nD m n c l)=true
 | 0,_,_,_,h=>h
 | n+1,c,l,hb,h=>by
  unfold nD
  have hp:=xP (show 0<m by omega) l c
  generalize (fE m l).getD (c%((fE m l).length:Int)).toNat 0=x at hp
  have hx:=xQ hp
  have hc:=DS h3 h26 ho hb (ir.mp h).1
  unfold fE at hp
  rw[if_neg hc] at hp
  unfold wH at hp
  have hq:=(bW.mp hp).2
  rw[bI,Bool.or_eq_true] at hq
  refine ug h3 h26 ho n _ _ (fun y hy=>?_) (De h hq.1 ?_)
  ·rcases bz.mp hy with hy | hy
   ·exact hb y hy
   ·rw[aV.mp hy];exact hx
  ·rcases hq.2 with e | e
   ·exact .inl (List.isEmpty_iff.mp e)
   ·exact .inr e
theorem FY (h3:3<=m) (h26:m<=26) (ho:m%2=1) (c:Int) (n:Nat):safe m (wts c m n)=true:=ug h3 h26 ho n c [] (fun _ h=>by cases h) rfl
theorem Ax {m d y:Int} (hc:cop m d=true) (h:m ∣ d*y):m ∣ y:=by
 have hg:Nat.gcd d.natAbs m.natAbs=1:=iD hc
 have h1:=Int.natAbs_dvd_natAbs.mpr h
 rw[Int.natAbs_mul] at h1
 exact Int.natAbs_dvd_natAbs.mp (Nat.Coprime.dvd_of_dvd_mul_left (Nat.Coprime.symm hg) h1)
theorem uE {m x y:Int} (h:m ∣ x-y) (hx:0<=x/\x<m) (hy:0<=y/\y<m):x=y:=by
 have:=uh.mpr (Int.emod_eq_zero_of_dvd h)
 rw[mC hx.1 hx.2,mC hy.1 hy.2] at this
 exact this
theorem rR:∀ (ws ps:List Int) (i:Nat) (w p x:Int),ws[i]?=some w->ps[i]?=some p->dot ws (ps.set i x)=dot ws ps+w*(x-p)
 | [],_,_,_,_,_,h,_=>by simp at h
 | _::_,[],_,_,_,_,_,h=>by simp at h
 | a::ws,b::ps,0,w,p,x,h1,h2=>by
  simp at h1 h2
  subst h1 h2
  show dot (a::ws) (x::ps)=dot (a::ws) (b::ps)+a*(x-b)
  unfold dot
  grind
 | a::ws,b::ps,i+1,w,p,x,h1,h2=>by
  have:=rR ws ps i w p x (by simpa using h1) (by simpa using h2)
  show dot (a::ws) (b::ps.set i x)=dot (a::ws) (b::ps)+w*(x-p)
  unfold dot
  grind
theorem xj {m r w p x:Int}{ws ps:List Int} (hw:ws[i]?=some w) (hp:ps[i]?=some p) (hc:cop m w=true) (bp:0<=p/\p<m) (bx:0<=x/\x<m) (hne:x≠p) (hg:good m ws r ps=true):good m ws r (ps.set i x)=false:=by
 unfold good at hg ⊢
 rw[bC] at hg
 refine decide_eq_false fun h=>hne ?_
 rw[rR ws ps i w p x hw hp] at h
 refine uE (Ax hc ?_) bx bp
 have:=Int.dvd_sub (jk h) (jk hg)
 rw[show dot ws ps+w*(x-p)-r-(dot ws ps-r)=w*(x-p) by omega] at this
 exact this
theorem Cr {m r w v p q:Int}{ws ps:List Int} (hw:ws[i]?=some w) (hv:ws[i+1]?=some v) (hp:ps[i]?=some p) (hq:ps[i+1]?=some q) (hc:cop m (v-w)=true) (bp:0<=p/\p<m) (bq:0<=q/\q<m) (hne:q≠p) (hg:good m ws r ps=true):good m ws r ((ps.set i q).set (i+1) p)=false:=by
 unfold good at hg ⊢
 rw[bC] at hg
 refine decide_eq_false fun h=>hne ?_
 rw[rR ws (ps.set i q) (i+1) v q p hv (by rw[ko (by omega)];exact hq),rR ws ps i w p q hw hp] at h
 refine (uE (Ax hc ?_) bp bq).symm
 have:=Int.dvd_sub (jk h) (jk hg)
 rw[show dot ws ps+w*(q-p)+v*(p-q)-r-(dot ws ps-r)=(v-w)*(p-q) by grind] at this
 exact this
section
variable {m r k:Int}{ws:List Int} (h0:0<m) (h26:m<=26) (hm:∀ x∈ws,0<=x/\x<m) (hs:safe m ws=true) (hl:1<=ws.length)
theorem Ds (hl:1<=ws.length):(jH m ws r k).length=ws.length:=by
 unfold jH
 rw[List.length_append,jZ,c8];omega
include h0 h26 hm hs hl
theorem vi:∀ x∈jH m ws r k,0<=x/\x<m:=by
 obtain⟨_,l2,l3,-⟩:=nq (r:=r) h0 h26 hm (ir.mp hs).1 (show (jx m (ws.length-1) k).length+1=ws.length by rw[jZ];omega)
 unfold jH
 intro x hx
 rcases bz.mp hx with hx | hx
 ·exact sC h0 _ _ x hx
 ·rw[aV.mp hx];exact⟨l2,l3⟩
theorem Am:good m ws r (jH m ws r k)=true:=by
 obtain⟨_,l2,l3,l4⟩:=nq (r:=r) h0 h26 hm (ir.mp hs).1 (show (jx m (ws.length-1) k).length+1=ws.length by rw[jZ];omega)
 exact (l4 _ l2 l3).mpr rfl
omit h26 hm hs hl in
theorem Dt (hk:0<=k) (hk2:k<m^(ws.length-1)):numOf m (jH m ws r k).dropLast=k:=by
 unfold jH
 rw[pN,sQ h0 _ _ hk hk2]
end
theorem Dk (hj:j<ps.length):(bA al ps).take j++[al.getD x.toNat 0]++(bA al ps).drop (j+1)=bA al (ps.set j x):=by
 unfold bA
 rw[List.map_set,List.set_eq_take_append_cons_drop,if_pos (by rw[List.length_map];exact hj),df]
 rfl
theorem tT {m x:Int} (h:∀ p∈ps,0<=p/\p<m) (hx:0<=x/\x<m):∀ p∈ps.set i x,0<=p/\p<m:=by
 intro p hp
 rcases List.mem_or_eq_of_mem_set hp with hp | hp
 ·exact h p hp
 ·rw[hp];exact hx
end
section
theorem Bm {α:Type}:∀ (l:List α) (j:Nat) (x y:α),j+1<l.length->(l.set j x).set (j+1) y=l.take j++(x::y::l.drop (j+2))
 | [],_,_,_,h=>by simp at h
 | [_],_,_,_,h=>by simp at h
 | a::b::l,0,x,y,_=>rfl
 | a::b::l,j+1,x,y,h=>by
  have:=Bm (b::l) j x y (by simpa using h)
  simp only[List.set_cons_succ,List.take_succ_cons,List.drop_succ_cons,List.cons_append]
  rw[this]
  rfl
theorem zZ {p q:Int} (hj:j+1<ps.length):(bA al ps).take j++([al.getD q.toNat 0]++[al.getD p.toNat 0])++(bA al ps).drop (j+2)=bA al ((ps.set j q).set (j+1) p):=by
 unfold bA
 rw[List.map_set,List.map_set,Bm _ _ _ _ (by rw[List.length_map];exact hj),df]
 rfl
end
section
def aY (c:Nat):List Nat->List (List Nat)
 | []=>[[]]
 | a::l=>if a=c then []::aY c l else match aY c l with
  | []=>[[a]]
  | w::ws=>(a::w)::ws
def dY (c:Nat):List (List Nat)->List Nat
 | []=>[]
 | [w]=>w
 | w::v::ws=>w++c::dY c (v::ws)
theorem lG {c:Nat}:∀ (w l:List Nat),c∉w->aY c (w++c::l)=w::aY c l
 | [],l,_=>by simp [aY]
 | a::w,l,h=>by
  have ha:a≠c:=fun e=>h (by rw[e];exact List.mem_cons_self)
  have ih:=lG w l fun hc=>h (List.mem_cons_of_mem _ hc)
  show (if a=c then _ else match aY c (w++c::l) with | []=>[[a]] | w::ws=>(a::w)::ws)=_
  rw[if_neg ha,ih]
theorem vb {c:Nat}:∀ (w:List Nat),c∉w->aY c w=[w]
 | [],_=>rfl
 | a::w,h=>by
  have ha:a≠c:=fun e=>h (by rw[e];exact List.mem_cons_self)
  have ih:=vb w fun hc=>h (List.mem_cons_of_mem _ hc)
  show (if a=c then _ else match aY c w with | []=>[[a]] | w::ws=>(a::w)::ws)=_
  rw[if_neg ha,ih]
theorem rE {c:Nat}:∀ (ws:List (List Nat)),ws≠[]->(∀ w∈ws,c∉w)->aY c (dY c ws)=ws
 | [],h,_=>absurd rfl h
 | [w],_,h=>vb w (h w List.mem_cons_self)
 | w::v::ws,_,h=>by
  show aY c (w++c::dY c (v::ws))=_
  rw[lG w _ (h w List.mem_cons_self),rE (v::ws) (by simp) fun x hx=>h x (List.mem_cons_of_mem _ hx)]
theorem tY {c:Nat}:∀ (l:List Nat),(aY c l).length<=l.length+1/\∀ w∈aY c l,w.length<=l.length
 | []=>by simp [aY]
 | a::l=>by
  obtain⟨h1,h2⟩:=tY (c:=c) l
  have e:aY c (a::l)=if a=c then []::aY c l else match aY c l with | []=>[[a]] | w::ws=>(a::w)::ws:=rfl
  by_cases ha:a=c
  ·rw[e,if_pos ha,aO,aO]
   refine⟨by omega,fun w hw=>?_⟩
   rcases aI.mp hw with rfl | hw
   ·exact aT _
   ·have:=h2 w hw;omega
  ·rw[e,if_neg ha,aO]
   cases hs:aY c l with
   | nil=>exact⟨by simp,fun w hw=>by rw[aV.mp hw];simp⟩
   | cons v vs =>
    rw[hs] at h1 h2
    refine⟨by simp only[aO] at h1 ⊢;omega,fun w hw=>?_⟩
    rcases aI.mp hw with rfl | hw
    ·have:=h2 v List.mem_cons_self
     rw[aO];omega
    ·have:=h2 w (List.mem_cons_of_mem _ hw);omega
theorem uL {c:Nat}:∀ (ws:List (List Nat)),(dY c ws).length<=(ws.map fun w=>w.length+1).sum
 | []=>by simp [dY]
 | [w]=>by simp [dY]
 | w::v::ws=>by
  have ih:=uL (c:=c) (v::ws)
  show (w++c::dY c (v::ws)).length<=_
  rw[List.length_append,aO,aR,jq]
  omega
end
section
end
end Mk




namespace L2
open PySem PySem.Spec PyProof.Rows
variable {A:Around}{C:Addr}{CX:CXT}{D:Ends}{E:Value->Shared->Prop}{H:Hp}{H1:Hp}{J:It}{K:PySem.W.Frag}{P:Program}{Q:VK}{T:String}{X:Cx}{a:Addr}{bmB:List Value}{ch:List Addr}{cl:List (Str×Addr)}{d:Option Addr}{e:Expr}{elts:List Expr}{env:Env}{es:List Expr}{f:Str}{fp:List Addr}{frn:List Str}{g:TG}{h:Heap}{h':Heap}{i:Nat}{ifs:List Expr}{items:Array Value}{js:List Nat}{kvs:List (Key×V)}{lo:Int}{m:Str}{o:HO}{pins:List (Addr×Obj)}{pl:Sem Bool}{pos:Pos}{prog:Program}{ps:List Str}{r:V->List V->Hp->VK->Prop}{s:Shared}{scope:Scope}{sp:Sp}{t':Nat}{ta:TA}{tb:TS}{tc:TT}{te:TE}{tl:TE}{to:TE}{tpos:Pos}{v:Value}{w:World}{wi:TI}{x:Str}{xe:Value->Shared->Prop}{xs:List V}{α:Type}{σ:St}
section
def clo (cells:List (Str×Addr)):List (Str×NameKind)->List (Str×Addr)->Option (List (Str×Addr))
 | [],acc=>some acc
 | (n,k)::r,acc=>if k==.free then (match cells.lookup n with | some c=>clo cells r ((n,c)::acc) | none=>none) else clo cells r acc
theorem so {env:Env}:∀ (names:List (Str×NameKind)) (acc cl:List (Str×Addr)),clo env.cells names acc=some cl →
  (forIn names acc fun (x:Str×NameKind) (cs:List (Str×Addr))=>(if x.2==.free then do let c ←cellOf env x.1;pure (ForInStep.yield ((x.1,c)::cs)) else pure (ForInStep.yield cs):Sem (ForInStep (List (Str×Addr)))))=pure cl
 | [],acc,cl,h=>by
  have e:acc=cl:=Option.some.inj h
  subst e;rfl
 | (n,k)::r,acc,cl,h=>by
  rw[List.forIn_cons]
  unfold clo at h
  by_cases hk:(k==NameKind.free)=true
  ·rw[if_pos hk] at h
   cases hc:env.cells.lookup n with
   | none=>rw[hc] at h;cases h
   | some c =>
    rw[hc] at h
    have ih:=so (env:=env) r ((n,c)::acc) cl h
    have e1:cellOf env n=pure c:=by unfold cellOf;rw[hc]
    simp only[hk,gQ,e1,pure_bind]
    exact ih
  ·rw[if_neg hk] at h
   have ih:=so (env:=env) r acc cl h
   simp only[hk,dU,pure_bind,ic]
   exact ih
theorem ja (h:clo env.cells scope.names []=some cl):closureFor scope env=pure cl:=by
 have e:=so (env:=env) scope.names [] cl h
 unfold closureFor
 simp only[bind_pure]
 first
  | exact e
  | (simp only[bind_pure_comp,map_pure] at e ⊢;exact e)
  | (rw[show (fun (x:Str×NameKind) (r:List (Str×Addr))=>_)=_ from rfl];exact e)
theorem rQ {cells:List (Str×Addr)}:∀ (names:List (Str×NameKind)) (acc cl:List (Str×Addr)),clo cells names acc=some cl →
  (∀ x c,acc.lookup x=some c->cells.lookup x=some c)->∀ x c,cl.lookup x=some c->cells.lookup x=some c
 | [],acc,cl,h,ha=>by
  have e:acc=cl:=Option.some.inj h
  subst e;exact ha
 | (n,k)::r,acc,cl,h,ha=>by
  unfold clo at h
  by_cases hk:(k==NameKind.free)=true
  ·rw[if_pos hk] at h
   cases hc:cells.lookup n with
   | none=>rw[hc] at h;cases h
   | some c =>
    rw[hc] at h
    refine rQ r ((n,c)::acc) cl h fun x c' e=>?_
    rw[fe] at e
    by_cases hx:(x==n)=true
    ·rw[hx] at e
     have e':c=c':=Option.some.inj e
     subst e'
     have:x=n:=eq_of_beq hx
     subst this;exact hc
    ·rw[Bool.not_eq_true] at hx
     rw[hx] at e
     exact ha x c' e
  ·rw[if_neg hk] at h
   exact rQ r acc cl h ha
theorem sk {cells:List (Str×Addr)}:∀ (names:List (Str×NameKind)) (acc cl:List (Str×Addr)),clo cells names acc=some cl->∀ x,(∃ c,acc.lookup x=some c)->∃ c,cl.lookup x=some c
 | [],acc,cl,h,x,hx=>by
  have e:acc=cl:=Option.some.inj h
  subst e;exact hx
 | (n,k)::r,acc,cl,h,x,hx=>by
  unfold clo at h
  by_cases hk:(k==NameKind.free)=true
  ·rw[if_pos hk] at h
   cases hc:cells.lookup n with
   | none=>rw[hc] at h;cases h
   | some c =>
    rw[hc] at h
    refine sk r ((n,c)::acc) cl h x ?_
    rw[fe]
    by_cases hxn:(x==n)=true
    ·rw[hxn];exact⟨c,rfl⟩
    ·rw[Bool.not_eq_true] at hxn
     rw[hxn];exact hx
  ·rw[if_neg hk] at h
   exact sk r acc cl h x hx
theorem rP {cells:List (Str×Addr)}:∀ (names:List (Str×NameKind)) (acc cl:List (Str×Addr)),clo cells names acc=some cl->∀ x,(x,NameKind.free)∈names->∃ c,cl.lookup x=some c
 | [],_,_,_,x,hx=>by cases hx
 | (n,k)::r,acc,cl,h,x,hx=>by
  unfold clo at h
  by_cases hk:(k==NameKind.free)=true
  ·rw[if_pos hk] at h
   cases hc:cells.lookup n with
   | none=>rw[hc] at h;cases h
   | some c =>
    rw[hc] at h
    rcases aI.mp hx with e | hx
    ·have e1:x=n:=bu Prod.fst e
     subst e1
     exact sk r ((x,c)::acc) cl h x ⟨c,by rw[fe,beq_self_eq_true]⟩
    ·exact rP r _ cl h x hx
  ·rw[if_neg hk] at h
   rcases aI.mp hx with e | hx
   ·cases e
    exact absurd (by rfl) hk
   ·exact rP r acc cl h x hx
theorem kY {env:Env}:∀ {names:List (Str×NameKind)}{x:Str}{k':NameKind},
  (names.map fun (n,k)=>if (k==NameKind.free&&env.scope.kind==.function&&env.kindOf n==some .cell) then (n,NameKind.cell) else (n,k)).lookup x=some k'->(x,k')∈names∨(k'=.cell/\(x,NameKind.free)∈names)
 | [],_,_,h=>by cases h
 | (n,k)::r,x,k',h=>by
  have ih:=@kY env r x k'
  by_cases hc:(k==NameKind.free&&env.scope.kind==.function&&env.kindOf n==some .cell)=true
  ·have h2:(((n,NameKind.cell)::(r.map fun (n,k)=>if (k==NameKind.free&&env.scope.kind==.function&&env.kindOf n==some .cell) then (n,NameKind.cell) else (n,k))).lookup x)=some k':=by
    rw[←h,aR];simp only[hc,gQ]
   rw[fe] at h2
   by_cases hx:(x==n)=true
   ·rw[hx] at h2
    have e:NameKind.cell=k':=Option.some.inj h2
    have e2:x=n:=eq_of_beq hx
    have e3:k=.free:=by
     simp only[bI] at hc
     exact eq_of_beq hc.1.1
    subst e e2 e3
    exact .inr ⟨rfl,List.mem_cons_self⟩
   ·rw[Bool.not_eq_true] at hx
    rw[hx] at h2
    rcases ih h2 with q | ⟨e,q⟩
    ·exact .inl (List.mem_cons_of_mem _ q)
    ·exact .inr ⟨e,List.mem_cons_of_mem _ q⟩
  ·have h2:(((n,k)::(r.map fun (n,k)=>if (k==NameKind.free&&env.scope.kind==.function&&env.kindOf n==some .cell) then (n,NameKind.cell) else (n,k))).lookup x)=some k':=by
    rw[←h,aR];simp only[hc,dU,ic]
   rw[fe] at h2
   by_cases hx:(x==n)=true
   ·rw[hx] at h2
    have e:k=k':=Option.some.inj h2
    have e2:x=n:=eq_of_beq hx
    subst e e2
    exact .inl List.mem_cons_self
   ·rw[Bool.not_eq_true] at hx
    rw[hx] at h2
    rcases ih h2 with q | ⟨e,q⟩
    ·exact .inl (List.mem_cons_of_mem _ q)
    ·exact .inr ⟨e,List.mem_cons_of_mem _ q⟩
abbrev Cx.blk (X:Cx) (N':List Str) (scope:Scope) (cl:List (Str×Addr)) (C:Addr) (s₀:Shared) (H₀:Hp) (ex:List Addr):Cx :=
 { X with N:=N',s₀:=s₀,H₀:=H₀,env:=compEnvC scope cl C X.env,outer:=X.stack,stack:=X.stack,ex:=ex,fn:=fun _=>false,pn:=[],xe:=fun _ _=>False }
inductive sf (X:Cx):List Str->List Nat->Prop
 | nil:sf X [] []
 | cons {x:Str}{j:Nat}{xs:List Str}{js:List Nat}:X.N[j]?=some x->(X.env.kindOf x=some .cell∨X.env.kindOf x=some .free)->sf X xs js->sf X (x::xs) (j::js)
theorem sf.get {X:Cx}:∀ {xs:List Str}{js:List Nat}{i:Nat}{x:Str},sf X xs js->xs[i]?=some x->∃ j,js[i]?=some j/\X.N[j]?=some x/\(X.env.kindOf x=some .cell∨X.env.kindOf x=some .free)
 | _,_,_,_,.nil,e=>by simp at e
 | _,_,0,_,.cons a b _,e=>by simp at e;subst e;exact⟨_,rfl,a,b⟩
 | _,_,i+1,x,.cons _ _ t,e=>by
  obtain⟨j,h1,h2⟩:=sf.get (i:=i) (x:=x) t (by simpa using e)
  exact⟨j,by simpa using h1,h2⟩
theorem sf.len {X:Cx}:∀ {xs:List Str}{js:List Nat},sf X xs js->xs.length=js.length
 | _,_,.nil=>rfl
 | _,_,.cons _ _ t=>by rw[aO,aO,t.len]
def iZ (k:Nat) (js:List Nat) (σ:St):St:=List.replicate k none++js.map fun j=>(σ[j]?).join
def PIf (X:Cx) (ifs:List Expr) (t:TT):Prop :=
 ∀ (pins:List (Addr×Obj)) (s:Shared) (σ:St) (H:Hp) (Q:Bool->Hp->Prop),Inv X pins σ H s->t σ H Q →
  wpAny (model X.prog X.w) X.A (forIn ifs true fun c r=>if r=true then do let ok ←isTrue c X.env (eval c X.env);pure (ForInStep.yield ok) else pure (ForInStep.yield r)) (TP X pins σ Q) X.xe s
def Dm:TT:=fun _ H Q=>Q true H
theorem dI :PIf X [] Dm:=fun _ _ _ H _ I h=>wpAny_tests_nil ⟨H,I,h⟩
theorem kT {c:Expr}{t:TT} (h:PT X c t):PIf X [c] t:=fun pins s σ H Q I q=>wpAny_tests_one (h pins s σ H Q I q)
section
variable {prog:Program}{w:World}{A:Around}{R:Result->Shared->Prop}{s:Shared}
theorem wJ {elt target iter:Expr}{ifs:List Expr}{scope:Scope}{pos:Pos}{it acc:Value}{env:Env} (I:Nat->Shared->Prop)
  (turn:∀ n s,I n s->wpAny (model prog w) A (pyNext it) (fun r s₁=>match r with
   | none=>R (.ok .next) s₁
   | some v=>wpAny (model prog w) A (letOwnedTupleGo target it v) (fun _ s₀=>wpAny (model prog w) A (assign target env v) (fun _ s₂ =>
     wpAny (model prog w) A (forIn ifs true fun c r=>if r=true then do let ok ←isTrue c env (eval c env);pure (ForInStep.yield ok) else pure (ForInStep.yield r)) (fun ok s₃ =>
      if ok=true then wpAny (model prog w) A (eval elt env) (fun x s₄ =>
       wpAny (model prog w) A (call (.builtin "list.append") [acc,x]) (fun _ s₅=>∃ m,m<n/\I m s₅) (fun _ _=>False) s₄) (fun _ _=>False) s₃
      else ∃ m,m<n/\I m s₃) (fun _ _=>False) s₂) (fun _ _=>False) s₀) (fun _ _=>False) s₁) (fun _ _=>False) s)
  (n:Nat) (h:I n s) :
  codeAny (model prog w) A (.compLoop (.ListComp elt [⟨target,iter,ifs,0⟩] scope pos) 0 it acc env) R s:=by
 refine codeAny_loop rfl I (fun n s hI=>?_) n h
 show wpAny _ A ((compTurn (.ListComp elt [⟨target,iter,ifs,0⟩] scope pos) 0 it acc env).onRaise (fun x=>do noteFrame x env;theTreesLotGoes x)) _ _ s
 refine wpAny_noted ?_
 rw[compTurn_list]
 refine aa (kH (aa (bO (turn n s hI) (fun r s₁ h₁=>?_) fun _ _ h'=>h'.elim)))
 cases r with
 | none=>exact ah h₁
 | some v =>
  refine aa (bO h₁ (fun _ s₀ h₀=>?_) fun _ _ h'=>h'.elim)
  refine aa (bO h₀ (fun _ s₂ h₂=>aa (bO h₂ (fun ok s₃ h₃=>?_) fun _ _ h'=>h'.elim)) fun _ _ h'=>h'.elim)
  cases ok with
  | false=>exact ah ⟨rfl,h₃⟩
  | true =>
   exact aa (aa (bO h₃ (fun x s₄ h₄=>aa (bO h₄ (fun _ s₅ h₅=>ah (ah ⟨rfl,h₅⟩)) fun _ _ h'=>h'.elim)) fun _ _ h'=>h'.elim))
end
def fU (g:TG) (tc:TT) (te:TE) (σ':St) (J:It) (H1:Hp) (Q:VK):Prop :=
 ∀ D,H1 D=none->∃ W:Nat->Nat->List V->St->Hp->Prop,(∃ m,W 0 m [] σ' (upd H1 D (.lst [])))/\∀ i m ys σ1 H,W i m ys σ1 H->H D=some (.lst ys)/\ys.length<sizeLine ∧
  ((J.stop i H/\Q (.ref D) H)∨(J.go i H/\∀ x H',J.yld i H x H'->g x σ1 H' fun σ2 H2=>tc σ2 H2 fun b H3 =>
   if b=true then te σ2 H3 fun v H4=>H4 D=some (.lst ys)/\∃ m',m'<m/\W (i+1) m' (ys++[v]) σ2 (upd H4 D (.lst (ys++[v]))) else ∃ m',m'<m/\W (i+1) m' ys σ2 H3))
structure Ao (X:Cx) (scope:Scope) (cl:List (Str×Addr)):Prop where
 clo:L2.clo X.env.cells scope.names []=some cl
 cell:∀ y∈scope.names,y.2≠.cell
 kind:scope.kind=.function
 names:∀ y∈scope.names,y.2=.local->scope.names.lookup y.1=some .local
section
variable {X:Cx}{pins:List (Addr×Obj)}{σ:St}{H1:Hp}{s₂:Shared}{E:Value->Shared->Prop}
theorem Inv.KH {N':List Str} (I:Inv X pins σ H1 s₂) (B:Ao X scope cl) (hC:s₂.heap.objs.size<=C) (hf:∀ b∈fp,rF X pins H1 b)
  (ho:∀ b∈fp,∃ o,s₂.heap.get? b=some o):(X.blk N' scope cl C s₂ H1 fp).Ok:=by
 have sub:=rQ scope.names [] cl B.clo (fun x c e=>by cases e)
 refine⟨I.ok.mod,B.kind,I.ok.glob,I.ok.blt,hC,fun x y c h1 h2=>I.ok.inj x y c (sub x c h1) (sub y c h2),fun x hx=>?_,fun x c h=>?_,I.ok.hd,I.ok.frames,.inl rfl,fun b hb=>⟨?_,fun x c e=>?_⟩,I.bs,
  aK I.ok.bsz I.sz,fun b o e hb=>?_,fun b hb hs=>?_,I.stack,I.rZ⟩
 ·have hx':(compEnvC scope cl C X.env).kindOf x=some .cell∨(compEnvC scope cl C X.env).kindOf x=some .free:=hx
  have key:∀ k',(compEnvC scope cl C X.env).kindOf x=some k'->(k'=.cell∨k'=.free)->∃ c,cl.lookup x=some c:=fun k' e hk=>by
   have e':(scope.names.map fun (n,k)=>if (k==NameKind.free&&X.env.scope.kind==.function&&X.env.kindOf n==some .cell) then (n,NameKind.cell) else (n,k)).lookup x=some k':=e
   rcases kY e' with q | ⟨_,q⟩
   ·rcases hk with rfl | rfl
    ·exact absurd rfl (B.cell _ q)
    ·exact rP scope.names [] cl B.clo x q
   ·exact rP scope.names [] cl B.clo x q
  rcases hx' with hx' | hx'
  ·exact key _ hx' (.inl rfl)
  ·exact key _ hx' (.inr rfl)
 ·exact absurd h bE
 ·obtain⟨o,e⟩:=ho b hb
  exact aS (bB (aB e) hC)
 ·exact (hf b hb).2.2.2.2.1 x c (sub x c e)
 ·rcases (hf b hb).2.2.2.1 with z | z
  ·exact I.ok.noex b o e z
  ·exact absurd (bB (aB e) (aK I.ok.bsz z)) (eL _)
 ·rcases aI.mp (I.wy b hs) with z | z
  ·exact (hf b hb).2.1 z
  ·exact (hf b hb).2.2.1 z
theorem As {elt target iter:Expr}{ifs:List Expr}{scope:Scope}{pos:Pos}{cl:List (Str×Addr)}{own frn:List Str}{js:List Nat}{g:TG}{tc:TT}{te:TE}{Q:VK}{it:Addr}{fp:List Addr}{tn:Nat->Heap->Prop}{J:It}
  {RR:Value->Addr->Result->Shared->Prop} (hc:X.calm=true) (B:Ao X scope cl) (hfr:sf X frn js) (hloc:∀ x∈frn,scope.names.lookup x≠some .local)
  (hg:∀ C s₀ H₀ ex,PG (X.blk (own++frn) scope cl C s₀ H₀ ex) target g) (hi:∀ C s₀ H₀ ex,PIf (X.blk (own++frn) scope cl C s₀ H₀ ex) ifs tc) (he:∀ C s₀ H₀ ex,PE (X.blk (own++frn) scope cl C s₀ H₀ ex) elt te)
  (I:Inv X pins σ H1 s₂) (T:Turn X.prog X.w X.K target J fp it tn) (st0:tn 0 s₂.heap) (hf:∀ b∈fp,rF X pins H1 b) (hq:fU g tc te (iZ own.length js σ) J H1 Q)
  (fin:∀ D C s' H' m,s₂.heap.objs.size<=C->Inv X pins σ H' s'->s'.heap.Ns C m->rF X pins H' C->Q (.ref D) H'->RR (.ref D) C (.ok .next) s') :
  wpAny (model X.prog X.w) X.A (newList []) (fun acc s₃=>wpAny (model X.prog X.w) X.A (newFunctionEnv scope X.env.globals cl [] X.env.qual none .none (some X.env)) (fun cenv s₄ =>
   codeAny (model X.prog X.w) X.A (.compStart (.ListComp elt [⟨target,iter,ifs,0⟩] scope pos) 0 (.ref it) acc { cenv with scope:=relabel scope X.env }) (RR acc cenv.locals) s₄) E s₃) E s₂:=by
 have sub:=rQ scope.names [] cl B.clo (fun x c e=>by cases e)
 refine fS (wpAny_newFunctionEnv B.cell (by intro y hy;simp at hy) (fun h₁ hns₁ hsb₁=>?_) B.kind)
 dsimp only at hns₁ hsb₁ ⊢
 generalize hH2:s₂.heap.push { cls:=.type "list",dict:=none,data:=.seq ([]:List Value).toArray }=H2 at hns₁ hsb₁ ⊢
 have hC:H2.objs.size=s₂.heap.objs.size+1:=by rw[←hH2,iw]
 have hDC:s₂.heap.objs.size≠H2.objs.size:=by rw[hC];exact aS (k7 _)
 have hCle:s₂.heap.objs.size<=H2.objs.size:=by rw[hC];exact fN _
 have below:∀ b,b<s₂.heap.objs.size->b≠H2.objs.size/\b≠s₂.heap.objs.size:=fun b hb=>⟨by rw[hC];exact aS (fj hb),aS hb⟩
 have old:∀ b o,s₂.heap.get? b=some o->h₁.get? b=some o:=fun b o e=>hsb₁.extBut b o (below b (aB e)).1 (az _ (hH2 ▸ az _ e))
 have hacc:h₁.get? s₂.heap.objs.size=some { cls:=.type "list",dict:=none,data:=.seq ([]:List Value).toArray }:=hsb₁.extBut _ _ hDC (az _ (hH2 ▸ aZ _ rfl))
 have hfo:∀ b∈fp,∃ o,s₂.heap.get? b=some o/\∀ v,o.data≠.cell v:=T.obj 0 _ st0
 have D0:H1 s₂.heap.objs.size=none:=I.hok.fresh (ak _)
 have C0:H1 H2.objs.size=none:=I.hok.fresh hCle
 obtain⟨W,⟨m0,w0⟩,turn⟩:=hq _ D0
 have okX:(X.blk (own++frn) scope cl H2.objs.size s₂ H1 fp).Ok:=I.KH (N':=own++frn) B hCle hf fun b hb=>let ⟨o,e,_⟩:=hfo b hb;⟨o,e⟩
 have I0:Inv (X.blk (own++frn) scope cl H2.objs.size s₂ H1 fp) [] (iZ own.length js σ) (upd H1 s₂.heap.objs.size (.lst [])) { s₂ with heap:=h₁,toks:=s₂.toks+([]:List (Str×Value)).length }:=by
  obtain⟨m,hn,hl⟩:=id I.loc
  refine⟨okX,rfl,I.bare,Un.laid old (ak _) D0,⟨_,hns₁,fun i x v e1 e2 e3=>?_⟩,fun x c e=>?_,?_,fun x c e=>?_,fun p hp=>?_,?_,?_⟩
  ·have e1:(own++frn)[i]?=some x:=e1
   unfold iZ at e2
   by_cases hik:i<own.length
   ·rw[i4 (by simpa using hik),List.getElem?_replicate,if_pos hik] at e2
    cases e2
   ·rw[gH (by simpa using hik),List.length_replicate,aJ] at e2
    rw[gH (by omega)] at e1
    obtain⟨j,hj,hNj,hk⟩:=hfr.get e1
    rw[hj] at e2
    have e2':(σ[j]?).join=some v:=Option.some.inj e2
    have e2'':σ[j]?=some (some v):=by
     cases q:σ[j]? with
     | none=>rw[q] at e2';cases e2'
     | some o=>rw[q] at e2';cases o with
      | none=>cases e2'
      | some y=>have:y=v:=Option.some.inj e2';rw[this]
    obtain⟨u,r,lk⟩:=hl j x v hNj e2'' (hk.elim (fun z=>.inr (.inl z)) fun z=>.inr (.inr z))
    refine⟨u,r,?_⟩
    rcases lk with ⟨k1,_⟩ | ⟨_,c,hcl,hcell⟩
    ·rcases hk with z | z<;>(rw[k1] at z;cases z)
    ·have hx3:(compEnvC scope cl H2.objs.size X.env).kindOf x=some .local∨(compEnvC scope cl H2.objs.size X.env).kindOf x=some .cell∨(compEnvC scope cl H2.objs.size X.env).kindOf x=some .free:=e3
     rcases hx3 with z | z
     ·exfalso
      have z':(scope.names.map fun (n,k)=>if (k==NameKind.free&&X.env.scope.kind==.function&&X.env.kindOf n==some .cell) then (n,NameKind.cell) else (n,k)).lookup x=some .local:=z
      rcases kY z' with q | ⟨q,_⟩
      ·exact hloc x (bG e1) (B.names _ q rfl)
      ·cases q
     ·obtain⟨c',hc'⟩:=okX.has x z
      have q:=sub x c' hc'
      rw[hcl] at q
      have q':c=c':=Option.some.inj q
      subst q'
      refine .inr ⟨z,c,hc',?_⟩
      obtain⟨o,ho,hd⟩:=hcell
      exact⟨o,old _ _ ho,hd⟩
  ·obtain⟨v,o,ho,hd⟩:=I.cell x c (sub x c e)
   exact⟨v,o,old _ _ ho,hd⟩
  ·show upd H1 _ _ H2.objs.size=none
   rw[aD (bt hDC)];exact C0
  ·obtain⟨v,o,ho,hd⟩:=I.cell x c (sub x c e)
   rw[aD (below c (aB ho)).2];exact I.freeC x c (sub x c e)
  ·cases hp
  ·exact I.hok.laid old (ak _) ⟨aT _,[],_,.nil,hacc⟩
  ·unfold iZ
   show _=(own++frn).length
   rw[List.length_append,List.length_append,List.length_replicate,List.length_map,hfr.len]
 -- the iterator's objects in the block
 have fpx:∀ {H:Hp},(∀ b∈fp,H b=none)->∀ b∈fp,rF (X.blk (own++frn) scope cl H2.objs.size s₂ H1 fp) [] H b:=fun {H} hn b hb=>by
  obtain⟨f0,f1,f2,f3,f4,f5⟩:=hf b hb
  obtain⟨o,e,_⟩:=hfo b hb
  refine⟨hn b hb,(below b (aB e)).1,fun z=>?_,.inl hb,fun x c e=>f4 x c (sub x c e),fun p hp=>by cases hp⟩
  rcases aI.mp (I.wy b z) with z | z
  ·exact f1 z
  ·exact f2 z
 have st1:tn 0 h₁:=T.keep _ _ _ st0 fun b _ o e=>old b o e
 have fr0:∀ b∈fp,upd H1 s₂.heap.objs.size (.lst []) b=none:=fun b hb=>by
  obtain⟨o,e,_⟩:=hfo b hb
  rw[aD (below b (aB e)).2];exact (hf b hb).1
 have loop:codeAny (model X.prog X.w) X.A (.compLoop (.ListComp elt [⟨target,iter,ifs,0⟩] scope pos) 0 (.ref it) (.ref s₂.heap.objs.size) (compEnvC scope cl H2.objs.size X.env))
   (RR (.ref s₂.heap.objs.size) H2.objs.size) { s₂ with heap:=h₁,toks:=s₂.toks+([]:List (Str×Value)).length }:=by
  refine wJ (fun n s'=>∃ i ys σ1 H,Inv (X.blk (own++frn) scope cl H2.objs.size s₂ H1 fp) [] σ1 H s'/\tn i s'.heap/\(∀ b∈fp,H b=none)/\W i n ys σ1 H) ?_ m0 ⟨0,[],_,_,I0,st1,fr0,w0⟩
  rintro n s3 ⟨i,ys,σ3,H3,I3,st3,fr3,w3⟩
  obtain⟨hD3,hsz,alt⟩:=turn i n ys σ3 H3 w3
  rcases alt with ⟨stop,qn⟩ | ⟨go,step⟩
  ·refine thn (T.done (X.blk (own++frn) scope cl H2.objs.size s₂ H1 fp) rfl rfl rfl hc i [] s3 σ3 H3 _ I3 (fpx fr3) st3 stop) fun r s4 ⟨hr,I4⟩=>?_
   subst hr
   obtain⟨m,hn,_⟩:=id I4.loc
   have hch:∀ b∈fp,(b∈X.ex∨X.s₀.heap.objs.size<=b)/\b≠X.env.locals/\(∀ x c,X.env.cells.lookup x=some c->c≠b)/\∀ p∈X.pn++pins,p.1≠b:=fun b hb=>by
    obtain⟨f0,f1,f2,f3,f4,f5⟩:=hf b hb
    exact⟨f3,f1,f4,f5⟩
   have IX:Inv X pins σ H3 s4:=I.Au I4.os I4.base I4.hok I4.bare hch
   exact fin _ _ s4 H3 m hCle IX hn (I.vz hCle I4.free) qn
  ·refine thn (T.item (X.blk (own++frn) scope cl H2.objs.size s₂ H1 fp) rfl rfl rfl hc i [] s3 σ3 H3 _ I3 (fpx fr3) st3 go) fun r s4 ⟨u,hr,h4⟩=>?_
   subst hr
   refine thn h4 fun _ s5 ⟨x,H5,I5,r5,y5,st5,fr5⟩=>?_
   have I5':=I5.pinned (fpx fr5) (T.obj _ _ st5)
   refine thn (hg _ _ _ _ _ s5 σ3 H5 x u _ I5' r5 (step x H5 y5)) fun _ s6 ⟨σ6,H6,I6,q6⟩=>?_
   refine thn (hi _ _ _ _ _ s6 σ6 H6 _ I6 q6) fun b s7 ⟨H7,I7,q7⟩=>?_
   have again:∀ {ys':List V}{H8:Hp}{s8:Shared}{m':Nat},Inv (X.blk (own++frn) scope cl H2.objs.size s₂ H1 fp) ([]++tF fp s5.heap) σ6 H8 s8->m'<n->W (i+1) m' ys' σ6 H8 →
     ∃ m,m<n/\∃ i ys σ1 H,Inv (X.blk (own++frn) scope cl H2.objs.size s₂ H1 fp) [] σ1 H s8/\tn i s8.heap/\(∀ b∈fp,H b=none)/\W i m ys σ1 H:=fun {ys' H8 s8 m'} I8 hm w8=>by
    refine⟨m',hm,i+1,ys',σ6,H8,I8.pH,T.keep _ _ _ st5 fun b hb o e=>(I8.pin (b,o) (dR _ (dR _ (kN hb e)))).1,fun b hb=>?_,w8⟩
    obtain⟨o,e,d⟩:=T.obj _ _ st5 b hb
    exact (I8.pin (b,o) (dR _ (dR _ (kN hb e)))).2.1
   cases b with
   | false =>
    rw[if_neg bE] at q7 ⊢
    obtain⟨m',hm,w7⟩:=q7
    exact again I7 hm w7
   | true =>
    rw[if_pos rfl] at q7 ⊢
    refine thn (he _ _ _ _ _ s7 σ6 H7 _ I7 q7) fun v s8 ⟨y,H8,I8,r8,hD8,m',hm,w8⟩=>?_
    refine thn (dO (X:=X.blk (own++frn) scope cl H2.objs.size s₂ H1 fp) _ s8 σ6 H8 (.ref s₂.heap.objs.size) [y] _ [v] (fun _ H9=>W (i+1) m' (ys++[y]) σ6 H9) I8 rfl (.cons r8 .nil) ⟨_,ys,y,rfl,rfl,hD8,hsz,w8⟩) fun _ s9 ⟨_,H9,I9,_,w9⟩=>?_
    exact again I9 hm w9
 exact codeAny_compStart_list loop (T.self X.A 0 _ _ _ st1 loop)
end
def tLC (k:Nat) (js:List Nat) (wi:TI) (g:TG) (tc:TT) (te:TE):TE:=fun σ H Q=>wi σ H fun J H1=>fU g tc te (iZ k js σ) J H1 Q
section
variable {X:Cx}
theorem gS {elt target iter:Expr}{ifs:List Expr}{pos:Pos}{wi:TI}{g:TG}{tc:TT}{te:TE} (own:List Str) (hc:X.calm=true) (B:Ao X scope cl) (hfr:sf X frn js)
  (hloc:∀ x∈frn,scope.names.lookup x≠some .local) (hi:PI X target iter wi)
  (hg:∀ C s₀ H₀ ex,PG (X.blk (own++frn) scope cl C s₀ H₀ ex) target g) (hif:∀ C s₀ H₀ ex,PIf (X.blk (own++frn) scope cl C s₀ H₀ ex) ifs tc) (he:∀ C s₀ H₀ ex,PE (X.blk (own++frn) scope cl C s₀ H₀ ex) elt te)
  (hs:∀ x,foldedSetIterable iter X.env x=pure x:=by intro _;rfl):PE X (.ListComp elt [⟨target,iter,ifs,0⟩] scope pos) (tLC own.length js wi g tc te):=by
 intro pins s σ H Q I h
 rw[eval_ListComp]
 refine wpAny_comprehension_free (use:=none) rfl hs (ja B.clo) B.kind B.names (thn (hi pins s σ H _ I h) fun v s1 h1=>thn h1 fun itv s2 h2=>?_)
 obtain⟨it,fp,tn,J,H2,e,I2,T,st2,f2,hq⟩:=h2
 subst e
 refine As (RR:=fun acc C=>compPost (model X.prog X.w) X.A X.xe none (EP X pins σ Q) acc C) hc B hfr hloc hg hif he I2 T st2 f2 hq ?_
 intro D C s' H' m hC I' hn fC q
 exact⟨m,hn,fun h' sb=>⟨.ref D,H',I'.turned (t':=s'.toks) (fun b o hb e=>(sb.2 b hb).trans e) fC.1 fC.2.1 fC.2.2.2.1 fC.2.2.2.2.1 fC.2.2.2.2.2,rfl,q⟩⟩
theorem lW {elt target iter:Expr}{ifs:List Expr}{scope:Scope}{pos py spos:Pos}{y:Str}{cl:List (Str×Addr)}{frn:List Str}{js:List Nat}{wi:TI}{g:TG}{tc:TT}{te:TE} (own:List Str) (hN:X.N.Nodup) (hiy:X.N[i]?=some y)
  (hy:Loc X.env.scope y) (hc:X.calm=true) (B:Ao X scope cl) (hfr:sf X frn js)
  (hloc:∀ x∈frn,scope.names.lookup x≠some .local) (hi:PI X target iter wi)
  (hg:∀ C s₀ H₀ ex,PG (X.blk (own++frn) scope cl C s₀ H₀ ex) target g) (hif:∀ C s₀ H₀ ex,PIf (X.blk (own++frn) scope cl C s₀ H₀ ex) ifs tc) (he:∀ C s₀ H₀ ex,PE (X.blk (own++frn) scope cl C s₀ H₀ ex) elt te)
  (hsw:swapsWith (.ListComp elt [⟨target,iter,ifs,0⟩] scope pos) (some (.Name y py)) spos.line X.env=pure true:=by rfl)
  (hs:∀ x,foldedSetIterable iter X.env x=pure x:=by intro _;rfl)
  (hf:X.fn y=true∨X.env.scope.names.lookup y=some .local:=by first | exact .inl rfl | exact .inr rfl | assumption) :
  PS X (.Assign [.Name y py] (.ListComp elt [⟨target,iter,ifs,0⟩] scope pos) spos) (Dl (tLC own.length js wi g tc te) (gf i)):=by
 intro pins s σ H D I h
 rw[exec_Assign_Name_used _ _ _ _ hsw]
 refine aa (kH (aa ?_))
 show wpAny _ X.A (do let _ ←comprehension (.ListComp elt [⟨target,iter,ifs,0⟩] scope pos) scope X.env _ (newList []) false (eval iter X.env) (some (assign (.Name y py) X.env))) _ _ s
 refine aa (bO (wpAny_comprehension_free (use:=some (assign (.Name y py) X.env)) (Q:=fun _ s'=>SP X pins D .next s') rfl hs (ja B.clo) B.kind B.names
  (thn (hi pins s σ H _ I h) fun v s1 h1=>thn h1 fun itv s2 h2=>?_)) (fun _ s' hq=>ah (ah hq)) fun _ _ e=>e)
 obtain⟨it,fp,tn,J,H2,e,I2,T,st2,f2,hq⟩:=h2
 subst e
 refine As (Q:=fun x H1=>D.nx (σ.set i (some x)) H1) (RR:=fun acc C=>compPost (model X.prog X.w) X.A X.xe (some (assign (.Name y py) X.env)) (fun _ s'=>SP X pins D .next s') acc C) hc B hfr hloc hg hif he I2 T st2 f2 hq ?_
 intro L C s' H' m hC I' hn fC q
 show wpAny _ X.A (assign (.Name y py) X.env (.ref L)) _ _ _
 refine wpAny_assign_Name (vc (v:=.ref L) I' hN hiy hy rfl (fun s'' I'' ⟨a,sb,ha⟩=>?_) hf)
 have hCa:C≠a:=by
  rcases ha with z | z
  ·rw[z];exact fC.2.1
  ·exact fun e=>fC.2.2.2.2.1 y a z e.symm
 exact⟨m,hn.sameBut sb hCa,fun h' sb'=>⟨_,H',I''.turned (t':=s''.toks) (fun b o hb e=>(sb'.2 b hb).trans e) fC.1 fC.2.1 fC.2.2.2.1 fC.2.2.2.2.1 fC.2.2.2.2.2,q⟩⟩
end
def It.Seq (J:It) (H1:Hp) (xs:List V):Prop :=
 ∀ H,aw H1 H->(∀ i x,xs[i]?=some x->J.go i H/\∀ y H',J.yld i H y H'->H'=H/\y=x)/\∀ i,xs.length<=i->J.stop i H
theorem eJ (h:SqL K H1 a xs):(Itl K a).Seq H1 xs:=fun H s =>
 ⟨fun i x e=>⟨⟨xs,x,s.seq h,e⟩,fun y H' ⟨e1,e2⟩=>⟨e1,Option.some.inj ((e2 xs (s.seq h)).symm.trans e)⟩⟩,fun i hi=>⟨xs,s.seq h,hi⟩⟩
theorem Dh {n:Nat}:(Itr lo n).Seq H1 ((List.range n).map fun (k:Nat)=>V.int (lo+(k:Int))):=fun H s=>by
 refine⟨fun i x e=>?_,fun i hi=>?_⟩
 ·have hi:i<n:=by
   have:=(bf.mp e).1
   simpa using this
  rw[aJ,List.getElem?_range hi] at e
  have e':V.int (lo+(i:Int))=x:=Option.some.inj e
  exact⟨hi,fun y H' ⟨e1,e2⟩=>⟨e1,by rw[e2,e']⟩⟩
 ·show n<=i
  simpa using hi
theorem aw.bZ {H H':Hp} (h:aw H H') (hn:H a=none):aw H (upd H' a o):=fun b u e=>by
 rw[aD (bc e hn)];exact h b u e
theorem zt {js:List Nat}{σ:St}{tc:TT}{te:TE}{Q:VK} (hJ:J.Seq H1 xs) (hl:xs.length<sizeLine) (p:V->Bool) (f:V->V)
  (hc:∀ x∈xs,∀ H,aw H1 H->∀ R:Bool->Hp->Prop,(∀ H',aw H H'->R (p x) H')->tc (some x::js.map fun j=>(σ[j]?).join) H R)
  (he:∀ x∈xs,p x=true->∀ H,aw H1 H->∀ R:VK,(∀ H',aw H H'->R (f x) H')->te (some x::js.map fun j=>(σ[j]?).join) H R)
  (q:∀ D H,H1 D=none->aw H1 H->H D=some (.lst ((xs.filter p).map f))->Q (.ref D) H):fU (gf 0) tc te (iZ 1 js σ) J H1 Q:=by
 intro D hD
 refine⟨fun i m ys σ1 H=>m=xs.length-i/\i<=xs.length/\(∃ o,σ1=o::js.map fun j=>(σ[j]?).join)/\ys=((xs.take i).filter p).map f/\aw H1 H/\H D=some (.lst ys),
  ⟨xs.length,by simp,aT _,⟨none,rfl⟩,by simp,(aw.refl H1).bZ hD,a8⟩,?_⟩
 rintro i m ys σ1 H ⟨rfl,hi,⟨o,rfl⟩,rfl,sH,hL⟩
 have hlen:(((xs.take i).filter p).map f).length<sizeLine:=by
  rw[List.length_map]
  have h1:=ku p (xs.take i)
  have h2:(xs.take i).length<=xs.length:=by rw[bw];omega
  omega
 refine⟨hL,hlen,?_⟩
 by_cases hlt:i<xs.length
 ·have e:xs[i]?=some xs[i]:=by simp [hlt]
  obtain⟨go,yl⟩:=(hJ H sH).1 i xs[i] e
  refine .inr ⟨go,fun x H' y=>?_⟩
  obtain⟨e1,e2⟩:=yl x H' y
  subst e1 e2
  have hm:xs[i]∈xs:=i6 hlt
  have htk:xs.take (i+1)=xs.take i++[xs[i]]:=by rw[iC,e];rfl
  show tc (some xs[i]::js.map fun j=>(σ[j]?).join) H' _
  refine hc xs[i] hm H' sH _ fun H3 s3=>?_
  cases hp:p xs[i] with
  | false =>
   rw[if_neg bE]
   refine⟨xs.length-(i+1),by omega,rfl,hlt,⟨_,rfl⟩,?_,sH.trans s3,s3 _ _ hL⟩
   rw[htk,fL];simp [hp]
  | true =>
   rw[if_pos rfl]
   refine he xs[i] hm hp H3 (sH.trans s3) _ fun H4 s4=>?_
   refine⟨s4 _ _ (s3 _ _ hL),xs.length-(i+1),by omega,rfl,hlt,⟨_,rfl⟩,?_,((sH.trans s3).trans s4).bZ hD,a8⟩
   rw[htk,fL];simp [hp]
 ·have e:i=xs.length:=by omega
  subst e
  refine .inl ⟨(hJ H sH).2 _ (ak _),q D H hD sH ?_⟩
  rw[mU] at hL;exact hL
theorem EF {js:List Nat}{σ:St}{te:TE}{Q:VK} (hJ:J.Seq H1 xs) (hl:xs.length<sizeLine) (f:V->V)
  (he:∀ x∈xs,∀ H,aw H1 H->∀ R:VK,(∀ H',aw H H'->R (f x) H')->te (some x::js.map fun j=>(σ[j]?).join) H R)
  (q:∀ D H,H1 D=none->aw H1 H->H D=some (.lst (xs.map f))->Q (.ref D) H):fU (gf 0) Dm te (iZ 1 js σ) J H1 Q :=
 zt hJ hl (fun _=>true) f (fun x _ H _ R hR=>hR H (aw.refl H)) (fun x hx _ H s R hR=>he x hx H s R hR) fun D H h1 h2 h3=>q D H h1 h2 (by rw[List.filter_eq_self.mpr (fun _ _=>rfl)] at h3;exact h3)
end
section
section
variable {X:Cx}
def FZ (i j:Int):Prop:=i.natAbs<2^1000/\j.natAbs<2^1000
theorem Ho:OpR X (binaryOp .Mult) (rI FZ fun i j=>.int (i*j)):=opI fun _ _ _ _ _ _ _ hc q =>
 mul_int q (IntMulOk.of_bits (aK (intBits_le_iff.mpr hc.1) (by decide)) (aK (intBits_le_iff.mpr hc.2) (by decide)))
def Kz (_ j:Int):Prop:=0<j/\j<2^1000
theorem EW:OpR X (binaryOp .FloorDiv) (rI Kz fun i j=>.int (i/j)):=opI fun i j _ _ _ _ _ hc q=>by
 have h1:(0:Int)<j:=hc.1
 have h2:j<2^1000:=hc.2
 have h3:j.natAbs<2^1000:=by
  have e:((j.natAbs:Nat):Int)=j:=Int.natAbs_of_nonneg (by omega)
  have e2:((2^1000:Nat):Int)=(2:Int)^1000:=by rw[Int.natCast_pow];rfl
  omega
 refine floordiv_int (by omega) (by rw[Int.fdiv_eq_ediv_of_nonneg i (by omega)];exact q) (.inl (PyProof.noPylong_of_log2 ?_))
 have h4:j.natAbs≠0:=by omega
 exact bB ((Nat.log2_lt h4).mpr h3) (by decide)
theorem EY:OpR X (compareOp .Is) (fun x y H Q=>∃ a b,x=.bl a/\y=.bl b/\Q (.bl (a==b)) H):=by
 intro pins s σ H x y v u Q I rx ry h
 obtain⟨a,b,rfl,rfl,q⟩:=h
 cases rx;cases ry
 exact is_bool (bS I q rfl)
theorem xJ:OpR X (compareOp .IsNot) (fun x y H Q=>∃ a b,x=.bl a/\y=.bl b/\Q (.bl (a != b)) H):=by
 intro pins s σ H x y v u Q I rx ry h
 obtain⟨a,b,rfl,rfl,q⟩:=h
 cases rx;cases ry
 exact isnot_bool (bS I q rfl)
def Md (K:PySem.W.Frag):List V->Hp->VK->Prop:=fun xs H Q=>∃ x t c b,xs=[x,.ty c]/\nF K H x t/\PySem.W.kitOne K t (.type c)=some b/\Q (.bl b) H
theorem DQ:cW X (.builtin "isinstance") (Md X.K):=by
 intro pins s σ H xs us Q I r h
 obtain⟨x,t,c,b,rfl,ty,e,q⟩:=h
 obtain⟨u,w',rfl,ru,rw'⟩:=vals2 r
 obtain rfl:w'=Value.type c:=rw'
 exact isinst_ok I ru ty e fun tk=>⟨.bl b,H,I.tok tk,rfl,q⟩
def lK:List V->List V->Bool
 | [],[]=>true
 | x::xs,y::ys=>eqV x y&&lK xs ys
 | _,_=>false
theorem sx:∀ {xs ys:List V},xs.length≠ys.length->lK xs ys=false
 | [],[],h=>absurd rfl h
 | [],_::_,_=>rfl
 | _::_,[],_=>rfl
 | x::xs,y::ys,h=>by
  have h':xs.length≠ys.length:=fun e=>h (by rw[aO,aO,e])
  show (eqV x y&&lK xs ys)=false
  rw[sx h',Bool.and_false]
theorem kJ:∀ {xs ys:List V},xs.length=ys.length->(List.range xs.length).all (fun j=>eqV (xs.getD j .non) (ys.getD j .non))=lK xs ys
 | [],[],_=>rfl
 | [],_::_,h=>by cases h
 | _::_,[],h=>by cases h
 | x::xs,y::ys,h=>by
  have h':xs.length=ys.length:=by simpa using h
  rw[aO,List.range_succ_eq_map,iz,List.all_map]
  show (eqV x y&&(List.range xs.length).all (fun j=>eqV (xs.getD j .non) (ys.getD j .non)))=(eqV x y&&lK xs ys)
  rw[kJ h']
theorem uH (xs:List Int):(xs.map V.int).all dX=true:=by
 rw[cw];intro v hv
 obtain⟨i,_,rfl⟩:=aE.mp hv
 rfl
def Ll (K:PySem.W.Frag) (neg:Bool):R2:=fun x y H Q=>∃ a b xs ys,x=.ref a/\y=.ref b/\SqL K H a xs/\SqL K H b ys/\xs.all dX=true/\ys.all dX=true/\Q (.bl (if neg then !lK xs ys else lK xs ys)) H
theorem sv {A:Around}{s:Shared}{xs ys:List V}{us vs:List Value} (r1:Vals xs us) (r2:Vals ys vs) (f1:xs.all dX=true) (f2:ys.all dX=true) (j:Nat) (h1:j<us.toArray.size) (h2:j<vs.toArray.size) :
  SeqAt.EqAt A s us.toArray[j] vs.toArray[j] (eqV (xs.getD j .non) (ys.getD j .non)):=by
 have l1:=r1.length
 have l2:=r2.length
 rw[br] at h1 h2
 have e1:xs[j]?=some (xs[j]'(by omega)):=by simp [show j<xs.length by omega]
 have e2:ys[j]?=some (ys[j]'(by omega)):=by simp [show j<ys.length by omega]
 obtain⟨u,hu,ru⟩:=r1.get e1
 obtain⟨v,hv,rv⟩:=r2.get e2
 have hu':us.toArray[j]=u:=by
  have:=bf.mp hu
  simpa using this.2
 have hv':vs.toArray[j]=v:=by
  have:=bf.mp hv
  simpa using this.2
 rw[hu',hv',List.getD_eq_getElem?_getD,List.getD_eq_getElem?_getD,e1,e2]
 exact DZ ru rv (cw.mp f1 _ (i6 _)) (cw.mp f2 _ (i6 _))
theorem JR (hu:X.A.units<cLine):OpR X (compareOp .Eq) (Ll X.K false):=by
 intro pins s σ H x y v u Q I rx ry h
 obtain⟨a,b,xs,ys,rfl,rfl,ha,hb,f1,f2,q⟩:=h
 cases rx;cases ry
 obtain⟨us,r1,p1,_⟩:=I.list ha
 obtain⟨vs,r2,p2,_⟩:=I.list hb
 have l1:=r1.length
 have l2:=r2.length
 by_cases hl:xs.length=ys.length
 ·refine SeqAt.eq_listAt p1.isList p2.isList (by simp only[br];omega) hu (fun j h1 h2=>sv r1 r2 f1 f2 j h1 h2) ⟨.bl _,H,I,rfl,?_⟩
  rw[br,←l1,kJ hl];exact q
 ·refine SeqAt.eq_list_lengthsAt p1.isList p2.isList (by simp only[br,bne_iff_ne,ne_eq];omega) hu ⟨.bl _,H,I,rfl,?_⟩
  have e:=sx hl
  rw[if_neg bE,e] at q;exact q
theorem JW (hu:X.A.units<cLine):OpR X (compareOp .NotEq) (Ll X.K true):=by
 intro pins s σ H x y v u Q I rx ry h
 obtain⟨a,b,xs,ys,rfl,rfl,ha,hb,f1,f2,q⟩:=h
 cases rx;cases ry
 obtain⟨us,r1,p1,_⟩:=I.list ha
 obtain⟨vs,r2,p2,_⟩:=I.list hb
 have l1:=r1.length
 have l2:=r2.length
 by_cases hl:xs.length=ys.length
 ·refine SeqAt.RcNeAt.lists p1.isList p2.isList (by simp only[br];omega) hu (fun j h1 h2=>sv r1 r2 f1 f2 j h1 h2) _ _ _ _ ⟨.bl _,H,I,rfl,?_⟩
  rw[br,←l1,kJ hl];exact q
 ·refine SeqAt.RcNeAt.lists_lengths p1.isList p2.isList (by simp only[br,bne_iff_ne,ne_eq];omega) hu _ _ _ _ ⟨.bl _,H,I,rfl,?_⟩
  have e:=sx hl
  rw[if_pos rfl,e] at q;exact q
theorem Vals.bools:∀ {bs:List Bool}{us:List Value},Vals (bs.map V.bl) us->us=bs.map Value.bool
 | [],_,.nil=>rfl
 | b::bs,_::_,.cons r t=>by
  cases (show _=Value.bool b from r)
  rw[aR,Vals.bools t]
theorem all_range (bs:List Bool):(List.range bs.length).all (fun i=>bs.getD i false)=bs.all id:=by
 induction bs with
 | nil=>rfl
 | cons b r ih =>
  rw[aO,List.range_succ_eq_map,iz,List.all_map,iz]
  show (b&&(List.range r.length).all (fun i=>r.getD i false))=_
  rw[ih];rfl
theorem yn (bs:List Bool) (A:Around) (P:Program) (w:World):TruthOf P w A (fun i v=>(bs.map Value.bool).toArray[i]?=some v) (fun i=>bs.getD i false):=fun i v s Q E hP hQ=>by
 have e:(bs[i]?).map Value.bool=some v:=by simpa using hP
 cases q:bs[i]? with
 | none=>rw[q] at e;cases e
 | some b =>
  rw[q] at e
  have e':Value.bool b=v:=Option.some.inj e
  subst e'
  have hb:bs.getD i false=b:=by rw[List.getD_eq_getElem?_getD,q];rfl
  have hQ':Q (bs.getD i false) s:=hQ
  rw[hb] at hQ'
  exact fT hQ'
def Lk (K:PySem.W.Frag):List V->Hp->VK->Prop:=fun vs H Q=>∃ (a:Addr) (bs:List Bool),vs=[.ref a]/\SqL K H a (bs.map V.bl)/\Q (.bl (bs.all id)) H
theorem BC (hc:X.calm=true):cW X (.builtin "all") (Lk X.K):=by
 intro pins s σ H xs us Q I r h
 obtain⟨a,bs,rfl,hq,q⟩:=h
 obtain⟨u,rfl,ru⟩:=vals1 r
 cases ru
 obtain⟨its,rv,p,hz⟩:=I.list hq
 obtain rfl:=rv.bools
 have ha:a<s.heap.objs.size:=by obtain⟨o,e,_⟩:=p.isList;exact aB e
 refine call_all_walk (wpAny_pyIter_list p.isList ⟨s.heap.objs.size,_,_,_,_,_,fun i=>bs.getD i false,rfl,Walks.list (A:=X.A.in1) (I.ok.hd hc) _ a (aS ha) _,⟨⟨_,aZ _ rfl,rfl,rfl⟩,p.isList.push _⟩,yn bs _ _ _,fun h' tk hk=>?_⟩)
 refine⟨.bl (bs.all id),H,I.kept fun b o e=>hk b o (fun z=>?_) (az _ e),?_,q⟩
 ·have z':b=s.heap.objs.size:=by simpa using z
  exact absurd (aB e) (by rw[z'];exact eL _)
 ·show Value.bool _=Value.bool _
  rw[←all_range bs];simp
def Lr (K:PySem.W.Frag):List V->Hp->VK->Prop:=fun vs H Q=>∃ (a:Addr) (ns:List Int),vs=[.ref a]/\SqL K H a (ns.map V.int)/\Q (.int ns.sum) H
theorem BN (hc:X.calm=true):cW X (.builtin "sum") (Lr X.K):=by
 intro pins s σ H xs us Q I r h
 obtain⟨a,ns,rfl,hq,q⟩:=h
 obtain⟨u,rfl,ru⟩:=vals1 r
 cases ru
 obtain⟨its,rv,p,hz⟩:=I.list hq
 have hi:IntsAre its ns:=intsAre_of rv
 obtain⟨zs,hzs⟩:=hi.allInts.items
 have hl:=p.isList
 rw[hzs] at hl
 refine sum_intListG (I.ok.hd hc) hl fun h' tk t' hk=>⟨.int ns.sum,H,I.kept hk,⟨t',?_⟩,q⟩
 have e1:numsOf (intItems zs).toList=zs.toList.map (·.1):=nums_intItems zs
 rw[←hzs] at e1
 have e2:numsOf its=ns:=hi.numsOf
 rw[preSum_eq,fh (by simp),←e1]
 show Value.int (numsOf its).sum t'=_
 rw[e2]
def Lp:List V->Hp->VK->Prop:=fun vs H Q=>∃ j:Int,vs=[.int j]/\∀ p,H p=none->Q (.ref p) (upd H p (.rng 0 j))
theorem BJ:cW X (.type "range") Lp:=by
 intro pins s σ H xs us Q I r h
 obtain⟨j,rfl,q⟩:=h
 obtain⟨u,rfl,t,rfl⟩:=vals1 r
 refine call_range_1 ?_
 exact⟨.ref s.heap.objs.size,_,I.laid (fun b ob e=>az _ e) (ak _) (show bM X.prog X.w _ _ _ (.rng 0 j) from ⟨_,_,_,aZ _ rfl⟩),rfl,q _ (I.hok.fresh (ak _))⟩
def wa (lo:Int) (n:Nat):List V:=(List.range n).map fun (k:Nat)=>V.int (lo+(k:Int))
theorem Ak {n:Nat}{acc:Array Value} (h:ItemsOf (fun (i:Nat) v=>∃ t,v=Value.int (lo+(i:Int)*1) t) acc n):Vals (wa lo n) acc.toList:=by
 obtain⟨hs,hi⟩:=h
 have key:∀ (xs:List Value) (m:Nat),(∀ j v,xs[j]?=some v->∃ t,v=Value.int (lo+((m+j:Nat):Int)) t)->Vals ((List.range' m xs.length).map fun (k:Nat)=>V.int (lo+(k:Int))) xs:=by
  intro xs
  induction xs with
  | nil=>intro m _;exact .nil
  | cons x r ih =>
   intro m hx
   rw[aO,List.range'_succ,aR]
   refine .cons ?_ (ih (m+1) fun j v e=>?_)
   ·obtain⟨t,e⟩:=hx 0 x rfl
    exact⟨t,by simpa using e⟩
   ·obtain⟨t,e'⟩:=hx (j+1) v (by simpa using e)
    exact⟨t,by rw[e'];congr 2;omega⟩
 have:=key acc.toList 0 fun j v e=>by
  obtain⟨t,e'⟩:=hi j v (by simpa using e)
  exact⟨t,by rw[e',Int.mul_one,Nat.zero_add]⟩
 rw[cP,hs,←List.range_eq_range'] at this
 exact this
def Fy:List V->Hp->VK->Prop:=fun vs H Q=>∃ a lo hi,vs=[.ref a]/\H a=some (.rng lo hi)/\(-(2^62)<=lo/\lo<2^62/\-(2^62)<=hi/\hi<2^62)/\(hi-lo).toNat<=2^20/\∀ p,H p=none->Q (.ref p) (upd H p (.lst (wa lo (hi-lo).toNat)))
theorem vv (hc:X.calm=true):cW X (.type "list") Fy:=by
 intro pins s σ H xs us Q I r h
 obtain⟨a,lo,hi,rfl,ha,⟨h1,h2,h3,h4⟩,hn,q⟩:=h
 obtain⟨u,rfl,ru⟩:=vals1 r
 cases ru
 obtain⟨t,u,v,e⟩:=(show bM X.prog X.w H s.heap a (.rng lo hi) from I.hok a _ ha)
 refine call_list_range (n:=(hi-lo).toNat) (I.ok.hd hc) e (small_one h1 h2 h3 h4) (by rw[rangeSize_one];split<;>omega) (by omega) fun h' tk acc c hk hS hacc=>?_
 have hv:=Ak hacc
 have hlen:(wa lo (hi-lo).toNat).length<=sizeLine:=by
  unfold wa
  rw[List.length_map,List.length_range]
  exact aK hn (by decide)
 exact⟨.ref s.heap.objs.size,_,I.laid hk (ak _) (show bM X.prog X.w _ _ _ (.lst (wa lo (hi-lo).toNat)) from ⟨hlen,acc.toList,c,hv,by simpa using hS⟩),rfl,q _ (I.hok.fresh (ak _))⟩
theorem Inv.Bs {t':Nat} (I:Inv X pins σ H s) (hf:∀ b∈ch,rF X pins H b) (k:∀ b o,b∉ch->s.heap.get? b=some o->h'.get? b=some o) :
  Inv X pins σ H { s with heap:=h',toks:=t' }:=by
 have nch:∀ b u,H b=some u->b∉ch:=fun b u e z=>by rw[(hf b z).1] at e;cases e
 refine I.step (g':=s.gens) (d':=s.drawn) (ch:=ch) (fun b hb=>?_) (fun b o _ _ hc e _=>k b o hc e) (fun b o _ _ hc e _=>⟨o.slots,k b o hc e⟩) (fun _ _ _ _ n=>n) (fun b o hc e=>⟨o,k b o hc e⟩) (fun _ _ e=>e) (fun _ _ _ e=>e)
  (fun b ps e=>⟨#[],by rw[e];simp⟩) (fun m hm=>?_) (fun b u e=>?_) I.bare
 ·obtain⟨_,f1,_,f3,f4,f5⟩:=hf b hb
  exact⟨f3,f1,f4,f5⟩
 ·obtain⟨o,es,ep,ho,r⟩:=hm
  exact⟨o,es,ep,k _ o (fun z=>(hf _ z).2.1 rfl) ho,r⟩
 ·refine (I.hok b u e).lM (fun c v hc q=>k c v ?_ q) (fun _ q=>q) fun _ _ q=>q
  rcases hc with z | z
  ·rw[z];exact nch b u e
  ·exact nch c _ z
theorem Inv.Bt {h':Heap}{t':Nat}{T:Addr}{o':HO} (I:Inv X pins σ H s) (hf:∀ b∈ch,rF X pins H b)
  (k:∀ b o,b∉ch->s.heap.get? b=some o->h'.get? b=some o) (hk2:∀ b o,s.heap.get? b=some o->∃ o',h'.get? b=some o') (hT:s.heap.objs.size<=T) (new:bM X.prog X.w (upd H T o') h' T o') :
  Inv X pins σ (upd H T o') { s with heap:=h',toks:=t' }:=by
 have nch:∀ b u,H b=some u->b∉ch:=fun b u e z=>by rw[(hf b z).1] at e;cases e
 have hTn:H T=none:=I.hok.fresh hT
 have neT:∀ b o,s.heap.get? b=some o->b≠T:=fun b o e=>aS (bB (aB e) hT)
 refine I.step (g':=s.gens) (d':=s.drawn) (ch:=ch) (fun b hb=>?_) (fun b o _ _ hc e _=>k b o hc e) (fun b o _ _ hc e _=>⟨o.slots,k b o hc e⟩) (fun b o _ e n=>by rw[aD (neT b o e)];exact n) (fun b o hc e=>⟨o,k b o hc e⟩)
  (fun b xs e=>by rw[aD (bc e hTn)];exact e) (fun b u xs e=>by rw[aD (bc e hTn)];exact e) (fun b ps e=>⟨#[],by rw[aD (bc e hTn),e];simp⟩) (fun m hm=>?_) (fun b u e=>?_) I.bare
 ·obtain⟨_,f1,_,f3,f4,f5⟩:=hf b hb
  exact⟨f3,f1,f4,f5⟩
 ·obtain⟨o,es,ep,ho,r⟩:=hm
  exact⟨o,es,ep,k _ o (fun z=>(hf _ z).2.1 rfl) ho,r⟩
 ·by_cases hb:b=T
  ·subst hb;rw[a8] at e;cases e;exact new
  ·rw[aD hb] at e
   refine (I.hok b u e).lM (fun c v hc q=>k c v ?_ q) (fun c q=>by rw[aD (bc q hTn)];exact q) fun c xs q=>by rw[aD (bc q hTn)];exact q
   rcases hc with z | z
   ·rw[z];exact nch b u e
   ·exact nch c _ z
end
def Itz (K:PySem.W.Frag) (a b:Addr):It :=
 ⟨fun i H=>∃ xs ys x y,SqL K H a xs/\SqL K H b ys/\xs[i]?=some x/\ys[i]?=some y,
  fun i H v H'=>∃ x y p,(∀ xs,SqL K H a xs->xs[i]?=some x)/\(∀ ys,SqL K H b ys->ys[i]?=some y)/\v=.ref p/\H p=none/\H'=upd H p (.tup [x,y]),
  fun i H=>∃ xs ys,SqL K H a xs/\SqL K H b ys/\(xs.length<=i∨ys.length<=i)⟩
theorem Bx {a b z TI TO i1 i2:Addr} (st:IsZip h z TI TO .none/\IsPair h TI (.ref i1) (.ref i2)/\(∃ x y,IsPair h TO x y)/\h.IsListIter i1 a i/\h.IsListIter i2 b i):∀ c∈[z,TI,TO,i1,i2],∃ o,h.get? c=some o/\∀ v,o.data≠.cell v:=fun c hc=>by
 obtain⟨hz,hTI,⟨x,y,hTO⟩,⟨o1,e1,c1,d1⟩,⟨o2,e2,c2,d2⟩⟩:=st
 simp only[aI,dy,dD] at hc
 rcases hc with rfl | rfl | rfl | rfl | rfl
 ·exact⟨_,hz,fun v q=>by have q':Data.fields _=Data.cell v:=q;cases q'⟩
 ·exact⟨_,hTI,fun v q=>by have q':Data.seq _ _=Data.cell v:=q;cases q'⟩
 ·exact⟨_,hTO,fun v q=>by have q':Data.seq _ _=Data.cell v:=q;cases q'⟩
 ·exact⟨o1,e1,fun v q=>by rw[d1] at q;cases q⟩
 ·exact⟨o2,e2,fun v q=>by rw[d2] at q;cases q⟩
theorem FU {k:Nat} (a b z TI TO i1 i2:Addr) (D:ZipApart z TI TO i1 i2 a b):Turn P w K (.Tuple elts k pos) (Itz K a b) [z,TI,TO,i1,i2] z
  (fun i h=>IsZip h z TI TO .none/\IsPair h TI (.ref i1) (.ref i2)/\(∃ x y,IsPair h TO x y)/\h.IsListIter i1 a i/\h.IsListIter i2 b i) where
 mem:=by simp
 obj:=fun i h st=>Bx st
 keep:=fun i h h' st k=>by
  obtain⟨hz,hTI,⟨x,y,hTO⟩,h1,h2⟩:=st
  exact⟨k z (by simp) _ hz,k TI (by simp) _ hTI,⟨x,y,k TO (by simp) _ hTO⟩,h1.at fun o e=>k i1 (by simp) o e,h2.at fun o e=>k i2 (by simp) o e⟩
 item:=by
  intro X hP hw hK hc i pins s σ H E I hf st hg
  subst hP hw hK
  obtain⟨xs,ys,x,y,hx,hy,ex,ey⟩:=hg
  obtain⟨us,r1,p1,_⟩:=I.list hx
  obtain⟨vs,r2,p2,_⟩:=I.list hy
  obtain⟨u,hu,ru⟩:=r1.get ex
  obtain⟨v,hv,rv⟩:=r2.get ey
  obtain⟨hz,hTI,⟨ta,tb,hTO⟩,h1,h2⟩:=id st
  refine wpAny_pyNext_zip_item D hz hTI hTO h1 h2 p1.isList p2.isList (x:=u) (y:=v) (by simpa using hu) (by simpa using hv) fun h' a1 a2 a3 a4 a5 a6 a7=>?_
  refine⟨_,rfl,wpAny_letOwnedTupleGo_zip (s:={ s with heap:=h' }) a1 fun h'' b1 b2=>?_⟩
  have b2':Heap.SameBut z h' h'':=b2
  have ne:∀ c∈[z,TI,TO,i1,i2],c<s.heap.objs.size:=fun c hc=>by
   obtain⟨o,e,_⟩:=Bx st c hc
   exact aB e
  have kk:∀ c o,c∉[z,TI,TO,i1,i2]->s.heap.get? c=some o->h''.get? c=some o:=fun c o hc e=>by
   simp only[aI,dy,dD,not_or] at hc
   exact (b2'.2 c hc.1).trans (a7 c o hc.1 hc.2.2.1 hc.2.2.2.1 hc.2.2.2.2 e)
  have hT:h''.get? s.heap.objs.size=some { cls:=.type "tuple",data:=.seq #[u,v] }:=(b2'.2 _ (gO (ne z (by simp)))).trans a5
  have I1:Inv X pins σ (upd H s.heap.objs.size (.tup [x,y])) { s with heap:=h'' }:=by
   refine I.Bt (t':=s.toks) (ch:=[z,TI,TO,i1,i2]) hf kk (fun c o e=>?_) (ak _) (show bM X.prog X.w _ h'' _ (.tup [x,y]) from ⟨by show 2<=sizeLine;decide,[u,v],.cons ru (.cons rv .nil),⟨_,hT,rfl,_,rfl⟩⟩)
   by_cases hc:c∈[z,TI,TO,i1,i2]
   ·simp only[aI,dy,dD] at hc
    rcases hc with rfl | rfl | rfl | rfl | rfl
    ·exact⟨_,b1⟩
    ·exact⟨_,(b2'.2 _ D.TIz).trans (a7 _ _ D.TIz D.TITO D.TIi1 D.TIi2 hTI)⟩
    ·exact⟨_,(b2'.2 _ D.TOz).trans a2⟩
    ·obtain⟨o1,e1,_⟩:=a3;exact⟨_,(b2'.2 _ D.i1z).trans e1⟩
    ·obtain⟨o2,e2,_⟩:=a4;exact⟨_,(b2'.2 _ D.i2z).trans e2⟩
   ·exact⟨_,kk c o hc e⟩
  refine⟨.ref s.heap.objs.size,_,I1,rfl,⟨x,y,_,fun zs hz=>by rw[I.oJ hz hx];exact ex,fun zs hz=>by rw[I.oJ hz hy];exact ey,rfl,I.hok.fresh (ak _),rfl⟩,⟨b1,(b2'.2 _ D.TIz).trans (a7 _ _ D.TIz D.TITO D.TIi1 D.TIi2 hTI),⟨u,v,(b2'.2 _ D.TOz).trans a2⟩,a3.at fun o e=>(b2'.2 _ D.i1z).trans e,a4.at fun o e=>(b2'.2 _ D.i2z).trans e⟩,fun c hc=>?_⟩
  rw[aD (aS (ne c hc))];exact (hf c hc).1
 done:=by
  intro X hP hw hK hc i pins s σ H E I hf st hg
  subst hP hw hK
  obtain⟨xs,ys,hx,hy,hl⟩:=hg
  obtain⟨us,r1,p1,_⟩:=I.list hx
  obtain⟨vs,r2,p2,_⟩:=I.list hy
  obtain⟨hz,hTI,⟨ta,tb,hTO⟩,h1,h2⟩:=id st
  have l1:=r1.length
  have l2:=r2.length
  refine wpAny_pyNext_zip_end (I.ok.hd hc) D hz hTI hTO h1 h2 p1.isList p2.isList ?_ fun h' kk=>⟨rfl,I.Bs (t':=s.toks) (ch:=[z,TI,TO,i1,i2]) hf fun c o hc e=>?_⟩
  ·rcases hl with hl | hl
   ·exact .inl (by simp;omega)
   ·exact .inr (by simp;omega)
  ·simp only[aI,dy,dD,not_or] at hc
   exact kk c o hc.1 hc.2.2.1 hc.2.2.2.1 hc.2.2.2.2 e
 self:=fun _ _ _ _ _ st h=>wpAny_pyIter_zip st.1 h
section
variable {X:Cx}
def Hb (K:PySem.W.Frag) (ta:TA):TI:=fun σ H R=>ta σ H fun vs H1=>∃ a b,vs=[.ref a,.ref b]/\(∃ xs,SqL K H1 a xs)/\(∃ ys,SqL K H1 b ys)/\R (Itz K a b) H1
theorem boot_zip:bootBuiltins "zip"=some (.type "zip"):=by kernel_rfl
theorem Kj {elts:List Expr}{k:Nat}{tpos:Pos}{a b:Expr}{p pos:Pos} (hg:Gl X "zip") (hm:X.mg "zip"=none) (ha:PA X [a,b] ta) (hs:starEach [a,b] X.env=[(false,eval a X.env),(false,eval b X.env)]:=by rfl)
  (hs2:starEach [b] X.env=[(false,eval b X.env)]:=by rfl):PI X (.Tuple elts k tpos) (.Call (.Name "zip" p) [a,b] [] pos) (Hb X.K ta):=by
 intro pins s σ H R I h
 refine Call_ (nL I hg hm boot_zip (mW (thn (ha pos pins s σ H _ I h) fun us s1 ⟨vs,H1,I1,r1,q1⟩=>?_) (by rw[hs,hs2]) (by rw[hs2];rfl)))
 obtain⟨l1,l2,e,⟨xs,hx⟩,⟨ys,hy⟩,q⟩:=q1
 subst e
 cases r1 with
 | cons r rr =>
  cases rr with
  | cons r' rr =>
   cases rr
   cases r
   cases r'
   obtain⟨us,_,p1,_⟩:=I1.list hx
   obtain⟨vs,_,p2,_⟩:=I1.list hy
   have a1:l1<s1.heap.objs.size:=by obtain⟨o,e,_⟩:=p1.isList;exact aB e
   have a2:l2<s1.heap.objs.size:=by obtain⟨o,e,_⟩:=p2.isList;exact aB e
   refine call_zip_2 p1.isList p2.isList fun h' hz hTI hTO hi1 hi2 hsz hk=>wpAny_pyIter_zip (s:={ s1 with heap:=h' }) hz ?_
   have I2:Inv X pins σ H1 { s1 with heap:=h' }:=I1.kept (t':=s1.toks) hk
   refine⟨_,[s1.heap.objs.size+4,s1.heap.objs.size+2,s1.heap.objs.size+3,s1.heap.objs.size,s1.heap.objs.size+1],_,_,H1,rfl,I2,FU l1 l2 _ _ _ _ _ (zipApart_new a1 a2),⟨hz,hTI,⟨_,_,hTO⟩,hi1,hi2⟩,fun c hc=>?_,q⟩
   have hle:s1.heap.objs.size<=c:=by
    simp only[aI,dy,dD] at hc
    rcases hc with rfl | rfl | rfl | rfl | rfl<;>omega
   exact I1.vz hle (I1.hok.fresh hle)
end
theorem JG {a b:Addr}{xs ys:List V}{js:List Nat}{σ:St}{te:TE}{Q:VK} (hx:SqL K H1 a xs) (hy:SqL K H1 b ys) (hl:xs.length<sizeLine) (f:V->V->V)
  (he:∀ x y,(x,y)∈xs.zip ys->∀ H,aw H1 H->∀ R:VK,(∀ H',aw H H'->R (f x y) H')->te (some x::some y::js.map fun j=>(σ[j]?).join) H R)
  (q:∀ D H,H1 D=none->aw H1 H->H D=some (.lst ((xs.zip ys).map fun p=>f p.1 p.2))->Q (.ref D) H):fU (Ep K 2 (qV (gf 0) (qV (gf 1) Eo))) Dm te (iZ 2 js σ) (Itz K a b) H1 Q:=by
 intro D hD
 refine⟨fun i m zs σ1 H=>m=(xs.zip ys).length-i/\i<=(xs.zip ys).length/\(∃ o1 o2,σ1=o1::o2::js.map fun j=>(σ[j]?).join)/\zs=((xs.zip ys).take i).map (fun p=>f p.1 p.2)/\aw H1 H/\H D=some (.lst zs),
  ⟨(xs.zip ys).length,by simp,aT _,⟨none,none,rfl⟩,by simp,(aw.refl H1).bZ hD,a8⟩,?_⟩
 rintro i m zs σ1 H ⟨rfl,hi,⟨o1,o2,rfl⟩,rfl,sH,hL⟩
 have hzl:(xs.zip ys).length=min xs.length ys.length:=List.length_zip
 have hlen:(((xs.zip ys).take i).map fun p=>f p.1 p.2).length<sizeLine:=by
  rw[List.length_map,bw];omega
 refine⟨hL,hlen,?_⟩
 by_cases hlt:i<(xs.zip ys).length
 ·have h1:i<xs.length:=by omega
  have h2:i<ys.length:=by omega
  refine .inr ⟨⟨xs,ys,xs[i],ys[i],sH.seq hx,sH.seq hy,by simp [h1],by simp [h2]⟩,fun v H' hyl=>?_⟩
  obtain⟨x,y,p,hx',hy',rfl,hp,rfl⟩:=hyl
  have ex:=hx' xs (sH.seq hx)
  have ey:=hy' ys (sH.seq hy)
  have ez:(xs.zip ys)[i]?=some (x,y):=zip_get ex ey
  have hm:(x,y)∈xs.zip ys:=bG ez
  have htk:(xs.zip ys).take (i+1)=(xs.zip ys).take i++[(x,y)]:=by rw[iC,ez];rfl
  have hpD:D≠p:=bc hL hp
  refine⟨p,[x,y],rfl,SqT.of a8,rfl,x,[y],rfl,y,[],rfl,rfl,?_⟩
  show te (some x::some y::js.map fun j=>(σ[j]?).join) _ _
  have s1:aw H1 (upd H p (.tup [x,y])):=sH.bZ (sH.free hp)
  refine he x y hm _ s1 _ fun H4 s4=>?_
  refine⟨s4 _ _ (by rw[aD hpD];exact hL),(xs.zip ys).length-(i+1),by omega,rfl,hlt,⟨_,_,rfl⟩,?_,(s1.trans s4).bZ hD,a8⟩
  rw[htk,List.map_append];rfl
 ·have e:i=(xs.zip ys).length:=by omega
  subst e
  refine .inl ⟨⟨xs,ys,sH.seq hx,sH.seq hy,by omega⟩,q D H hD sH ?_⟩
  rw[mU] at hL;exact hL
end
section
section
variable {X:Cx}
def nw (H:Hp) (o:HO) (Q:VK):Prop:=∀ p H',H p=none->aw H H'->H' p=some o->Q (.ref p) H'
theorem dv (hn:H a=none):aw H (upd H a o):=fun b u e=>by rw[aD (bc e hn)];exact e
theorem nw.go (h:nw H o Q) (p:Addr) (hp:H p=none):Q (.ref p) (upd H p o):=h p _ hp (dv hp) a8
def Be:R2:=fun x y H Q=>match x,y with
 | .int i,.int j=>Q (.int (i+j)) H
 | .str a,.str b=>a.length+b.length<=sizeLine/\Q (.str (a++b)) H
 | .ref l,.ref b=>∃ xs zs,H l=some (.lst xs)/\H b=some (.lst zs)/\xs.length+zs.length<=sizeLine/\nw H (.lst (xs++zs)) Q
 | _,_=>False
theorem aC:OpR X (binaryOp .Add) Be:=by
 intro pins s σ H x y v u Q I rx ry h
 cases x with
 | int i=>cases y with
  | int j=>exact JP pins s σ H _ _ v u Q I rx ry ⟨_,_,rfl,rfl,h⟩
  | _=>exact False.elim h
 | str a=>cases y with
  | str b=>exact zB pins s σ H _ _ v u Q I rx ry ⟨_,_,rfl,rfl,h.1,h.2⟩
  | _=>exact False.elim h
 | ref l=>cases y with
  | ref b =>
   obtain⟨xs,zs,h1,h2,h3,h4⟩:=h
   exact JQ pins s σ H _ _ v u Q I rx ry ⟨_,_,xs,zs,rfl,rfl,h1,h2,h3,h4.go⟩
  | _=>exact False.elim h
 | _=>exact False.elim h
def IG:R2:=fun x y H Q=>match x,y with
 | .int i,.int j=>Q (.int (i-j)) H
 | _,_=>False
theorem gv:OpR X (binaryOp .Sub) IG:=by
 intro pins s σ H x y v u Q I rx ry h
 cases x with
 | int i=>cases y with
  | int j=>exact Ka pins s σ H _ _ v u Q I rx ry ⟨_,_,rfl,rfl,h⟩
  | _=>exact False.elim h
 | _=>exact False.elim h
def IC:R2:=fun x y H Q=>match x,y with
 | .int i,.int j=>FZ i j/\Q (.int (i*j)) H
 | .ref l,.int k=>∃ xs,H l=some (.lst xs)/\-(2^63)<=k/\k<2^63/\xs.length*k.toNat<=sizeLine/\nw H (.lst (List.replicate k.toNat xs).flatten) Q
 | _,_=>False
theorem kP:OpR X (binaryOp .Mult) IC:=by
 intro pins s σ H x y v u Q I rx ry h
 cases x with
 | int i=>cases y with
  | int j=>exact Ho pins s σ H _ _ v u Q I rx ry ⟨_,_,rfl,rfl,h.1,h.2⟩
  | _=>exact False.elim h
 | ref l=>cases y with
  | int k =>
   obtain⟨xs,h1,h2,h3,h4,h5⟩:=h
   exact JZ pins s σ H _ _ v u Q I rx ry ⟨_,_,xs,rfl,rfl,h1,h2,h3,h4,h5.go⟩
  | _=>exact False.elim h
 | _=>exact False.elim h
def Ft:R2:=fun x y H Q=>match x,y with
 | .int i,.int j=>(0<j/\j<2^1000)/\Q (.int (i/j)) H
 | _,_=>False
theorem cB:OpR X (binaryOp .FloorDiv) Ft:=by
 intro pins s σ H x y v u Q I rx ry h
 cases x with
 | int i=>cases y with
  | int j=>exact EW pins s σ H _ _ v u Q I rx ry ⟨_,_,rfl,rfl,h.1,h.2⟩
  | _=>exact False.elim h
 | _=>exact False.elim h
def IA:R2:=fun x y H Q=>match x,y with
 | .int i,.int j=>0<j/\Q (.int (i%j)) H
 | _,_=>False
theorem bV:OpR X (binaryOp .Mod) IA:=by
 intro pins s σ H x y v u Q I rx ry h
 cases x with
 | int i=>cases y with
  | int j=>exact JV pins s σ H _ _ v u Q I rx ry ⟨_,_,rfl,rfl,h.1,h.2⟩
  | _=>exact False.elim h
 | _=>exact False.elim h
def ID:R2:=fun x y H Q=>match x,y with
 | .int i,.int j=>(0<=j/\j<=1000000/\i.natAbs<2^64)/\Q (.int (i^j.toNat)) H
 | _,_=>False
theorem rY:OpR X (binaryOp .Pow) ID:=by
 intro pins s σ H x y v u Q I rx ry h
 cases x with
 | int i=>cases y with
  | int j=>exact JY pins s σ H _ _ v u Q I rx ry ⟨_,_,rfl,rfl,h.1,h.2⟩
  | _=>exact False.elim h
 | _=>exact False.elim h
def uY (f:Int->Int->Bool):R2:=fun x y H Q=>match x,y with
 | .int i,.int j=>Q (.bl (f i j)) H
 | _,_=>False
theorem rX {op:CmpOp}{f:Int->Int->Bool} (h0:OpR X (compareOp op) (rI0 fun i j=>.bl (f i j))):OpR X (compareOp op) (uY f):=by
 intro pins s σ H x y v u Q I rx ry h
 cases x with
 | int i=>cases y with
  | int j=>exact h0 pins s σ H _ _ v u Q I rx ry ⟨_,_,rfl,rfl,h⟩
  | _=>exact False.elim h
 | _=>exact False.elim h
abbrev Mi:R2:=uY fun i j=>decide (i<j)
abbrev Mh:R2:=uY fun i j=>decide (i<=j)
abbrev Mc:R2:=uY fun i j=>decide (j<i)
abbrev Mb:R2:=uY fun i j=>decide (j<=i)
theorem vV:OpR X (compareOp .Lt) Mi:=rX Ld
theorem iH:OpR X (compareOp .LtE) Mh:=rX Lc
theorem qE:OpR X (compareOp .Gt) Mc:=rX Lb
theorem EX:OpR X (compareOp .GtE) Mb:=rX La
def CZ (K:PySem.W.Frag):R2:=fun x y H Q=>match x,y with
 | .int i,.int j=>Q (.bl (decide (i=j))) H
 | .bl i,.bl j=>Q (.bl (decide (i=j))) H
 | .str i,.str j=>Q (.bl (decide (i=j))) H
 | .ref a,.ref b=>∃ xs ys,SqL K H a xs/\SqL K H b ys/\xs.all dX=true/\ys.all dX=true/\Q (.bl (lK xs ys)) H
 | _,_=>False
def Fz (K:PySem.W.Frag):R2:=fun x y H Q=>match x,y with
 | .int i,.int j=>Q (.bl (!decide (i=j))) H
 | .bl i,.bl j=>Q (.bl (!decide (i=j))) H
 | .str i,.str j=>Q (.bl (!decide (i=j))) H
 | .ref a,.ref b=>∃ xs ys,SqL K H a xs/\SqL K H b ys/\xs.all dX=true/\ys.all dX=true/\Q (.bl (!lK xs ys)) H
 | _,_=>False
theorem wM (i j:Int):decide (V.int i=V.int j)=decide (i=j):=by
 by_cases e:i=j
 ·subst e;simp
 ·rw[decide_eq_false e];exact decide_eq_false fun h=>e (V.int.inj h)
theorem A7 (i j:Bool):decide (V.bl i=V.bl j)=decide (i=j):=by
 by_cases e:i=j
 ·subst e;simp
 ·rw[decide_eq_false e];exact decide_eq_false fun h=>e (V.bl.inj h)
theorem wN (i j:Str):decide (V.str i=V.str j)=decide (i=j):=by
 by_cases e:i=j
 ·subst e;simp
 ·rw[decide_eq_false e];exact decide_eq_false fun h=>e (V.str.inj h)
theorem JS (hu:X.A.units<cLine):OpR X (compareOp .Eq) (CZ X.K):=by
 intro pins s σ H x y v u Q I rx ry h
 cases x with
 | int i=>cases y with
  | int j=>exact EV pins s σ H _ _ v u Q I rx ry ⟨rfl,by rw[wM];exact h⟩
  | _=>exact False.elim h
 | bl i=>cases y with
  | bl j=>exact EV pins s σ H _ _ v u Q I rx ry ⟨rfl,by rw[A7];exact h⟩
  | _=>exact False.elim h
 | str i=>cases y with
  | str j=>exact EV pins s σ H _ _ v u Q I rx ry ⟨rfl,by rw[wN];exact h⟩
  | _=>exact False.elim h
 | ref a=>cases y with
  | ref b =>
   obtain⟨xs,ys,h1,h2,h3,h4,h5⟩:=h
   exact JR hu pins s σ H _ _ v u Q I rx ry ⟨_,_,xs,ys,rfl,rfl,h1,h2,h3,h4,h5⟩
  | _=>exact False.elim h
 | _=>exact False.elim h
theorem JX (hu:X.A.units<cLine):OpR X (compareOp .NotEq) (Fz X.K):=by
 intro pins s σ H x y v u Q I rx ry h
 cases x with
 | int i=>cases y with
  | int j=>exact EZ pins s σ H _ _ v u Q I rx ry ⟨rfl,by rw[wM];exact h⟩
  | _=>exact False.elim h
 | bl i=>cases y with
  | bl j=>exact EZ pins s σ H _ _ v u Q I rx ry ⟨rfl,by rw[A7];exact h⟩
  | _=>exact False.elim h
 | str i=>cases y with
  | str j=>exact EZ pins s σ H _ _ v u Q I rx ry ⟨rfl,by rw[wN];exact h⟩
  | _=>exact False.elim h
 | ref a=>cases y with
  | ref b =>
   obtain⟨xs,ys,h1,h2,h3,h4,h5⟩:=h
   exact JW hu pins s σ H _ _ v u Q I rx ry ⟨_,_,xs,ys,rfl,rfl,h1,h2,h3,h4,h5⟩
  | _=>exact False.elim h
 | _=>exact False.elim h
def isV:V->V->Option Bool
 | .non,.non=>some true
 | .bl _,.non=>some false
 | .int _,.non=>some false
 | .str _,.non=>some false
 | .ref _,.non=>some false
 | .bl a,.bl b=>some (a==b)
 | _,_=>none
def Dc (neg:Bool):R2:=fun x y H Q=>match isV x y with
 | some b=>Q (.bl (b != neg)) H
 | none=>False
theorem zC:OpR X (compareOp .Is) (Dc false):=by
 intro pins s σ H x y v u Q I rx ry h
 cases x<;>cases y<;>first
  | exact False.elim h
  | exact JU pins s σ H _ _ v u Q I rx ry ⟨rfl,h⟩
  | exact EY pins s σ H _ _ v u Q I rx ry ⟨_,_,rfl,rfl,by simpa [Dc,isV] using h⟩
theorem qG:OpR X (compareOp .IsNot) (Dc true):=by
 intro pins s σ H x y v u Q I rx ry h
 cases x<;>cases y<;>first
  | exact False.elim h
  | exact Hq pins s σ H _ _ v u Q I rx ry ⟨rfl,h⟩
  | exact xJ pins s σ H _ _ v u Q I rx ry ⟨_,_,rfl,rfl,by simpa [Dc,isV,bne] using h⟩
def Sq (K:PySem.W.Frag) (H:Hp) (a:Addr) (xs:List V):Prop:=SqL K H a xs∨SqT K H a xs
theorem Sq.l (h:H a=some (.lst xs)):Sq K H a xs:=.inl (.of h)
theorem Sq.t (h:H a=some (.tup xs)):Sq K H a xs:=.inr (.of h)
def HF (K:PySem.W.Frag):R2:=fun x y H Q=>match x,y with
 | .ref p,.int i=>∃ xs v,Sq K H p xs/\atI xs i=some v/\Q v H
 | .str z,.int i=>z.length<=sizeLine/\∃ c,atI z.cps.toList i=some c/\Q (.str ⟨#[c]⟩) H
 | _,_=>False
theorem LU:IxR X (HF X.K):=by
 intro value slice pins s σ H x y v u Q I rx ry h hs
 cases x with
 | ref p=>cases y with
  | int i =>
   obtain⟨xs,w',h1 | h1,h2,h3⟩:=h
   ·exact Hc value slice pins s σ H _ _ v u Q I rx ry ⟨_,xs,_,w',rfl,rfl,h1,h2,h3⟩ hs
   ·exact J8 value slice pins s σ H _ _ v u Q I rx ry ⟨_,xs,_,w',rfl,rfl,h1,h2,h3⟩ hs
  | _=>exact False.elim h
 | str z=>cases y with
  | int i =>
   obtain⟨h1,c,h2,h3⟩:=h
   exact J7 value slice pins s σ H _ _ v u Q I rx ry ⟨z,i,c,rfl,rfl,h1,h2,h3⟩ hs
  | _=>exact False.elim h
 | _=>exact False.elim h
def Bh (K:PySem.W.Frag):List V->Hp->VK->Prop:=fun vs H Q=>match vs with
 | [.str z]=>z.length<=sizeLine/\Q (.int z.length) H
 | [.ref p]=>∃ xs,Sq K H p xs/\Q (.int xs.length) H
 | _=>False
theorem BF:cW X (.builtin "len") (Bh X.K):=by
 intro pins s σ H xs us Q I r h
 match xs,h with
 | [.str z],h=>exact vt pins s σ H _ us Q I r ⟨z,rfl,h.1,h.2⟩
 | [.ref p],h =>
  obtain⟨ys,h1,h2⟩:=h
  exact vq pins s σ H _ us Q I r ⟨p,ys,rfl,h1,h2⟩
def Iw:List V->Hp->VK->Prop:=fun vs H Q=>match vs with
 | [.int i]=>Q (.int (i.natAbs:Int)) H
 | _=>False
theorem qo:cW X (.builtin "abs") Iw:=by
 intro pins s σ H xs us Q I r h
 rcases xs with _ | ⟨x0,t⟩
 ·exact h.elim
 cases x0<;>try exact h.elim
 cases t<;>try exact h.elim
 next i =>
  refine DP pins s σ H _ us Q I r ⟨i,rfl,?_⟩
  have e:(if i<0 then -i else i)=((i.natAbs:Nat):Int):=by split<;>omega
  rw[e];exact h
def Iz:List V->Hp->VK->Prop:=fun vs H Q=>match vs with
 | [.int i,.int j]=>Q (.int (min i j)) H
 | _=>False
theorem BH (hc:X.calm=true):cW X (.builtin "min") Iz:=by
 intro pins s σ H xs us Q I r h
 rcases xs with _ | ⟨x0,t⟩
 ·exact h.elim
 cases x0<;>try exact h.elim
 rcases t with _ | ⟨x1,t⟩
 ·exact h.elim
 cases x1<;>try exact h.elim
 cases t<;>try exact h.elim
 next i j =>
  refine BG hc pins s σ H _ us Q I r ⟨i,j,rfl,?_⟩
  have e:(if j<i then j else i)=min i j:=by
   rw[Int.min_def];split<;>split<;>omega
  rw[e];exact h
def zL (K:PySem.W.Frag):List V->Hp->VK->Prop:=fun vs H Q=>match vs with
 | [.ref a]=>∃ ys,(Sq K H a ys∨∃ lo hi,H a=some (.rng lo hi)/\(-(2^62)<=lo/\lo<2^62/\-(2^62)<=hi/\hi<2^62)/\(hi-lo).toNat<=2^20/\ys=wa lo (hi-lo).toNat)/\nw H (.lst ys) Q
 | _=>False
theorem yF (hc:X.calm=true):cW X (.type "list") (zL X.K):=by
 intro pins s σ H xs us Q I r h
 rcases xs with _ | ⟨x0,t⟩
 ·exact h.elim
 cases x0<;>try exact h.elim
 cases t<;>try exact h.elim
 next a =>
  obtain⟨ys,h1 | ⟨lo,hi,h1,h2,h3,rfl⟩,h4⟩:=h
  ·exact vw pins s σ H _ us Q I r ⟨a,ys,rfl,h1,h4.go⟩
  ·exact vv hc pins s σ H _ us Q I r ⟨a,lo,hi,rfl,h1,h2,h3,h4.go⟩
def IE:List V->Hp->VK->Prop:=fun vs H Q=>match vs with
 | [.int j]=>nw H (.rng 0 j) Q
 | _=>False
theorem BK:cW X (.type "range") IE:=by
 intro pins s σ H xs us Q I r h
 rcases xs with _ | ⟨x0,t⟩
 ·exact h.elim
 cases x0<;>try exact h.elim
 cases t<;>try exact h.elim
 next j=>exact BJ pins s σ H _ us Q I r ⟨j,rfl,nw.go h⟩
theorem bt_isinstance:bootBuiltins "isinstance"=some (.builtin "isinstance"):=by kernel_rfl
theorem yD:bootBuiltins "abs"=some (.builtin "abs"):=by kernel_rfl
theorem b9:bootBuiltins "len"=some (.builtin "len"):=by kernel_rfl
theorem nH:bootBuiltins "all"=some (.builtin "all"):=by kernel_rfl
theorem DN:bootBuiltins "sum"=some (.builtin "sum"):=by kernel_rfl
theorem Jt:bootBuiltins "min"=some (.builtin "min"):=by kernel_rfl
theorem u9:bootBuiltins "sorted"=some (.builtin "sorted"):=by kernel_rfl
theorem DL:bootBuiltins "range"=some (.type "range"):=by kernel_rfl
theorem j6:bootBuiltins "list"=some (.type "list"):=by kernel_rfl
theorem DO:bootBuiltins "tuple"=some (.type "tuple"):=by kernel_rfl
theorem Js:bootBuiltins "int"=some (.type "int"):=by kernel_rfl
theorem sj:bootBuiltins "str"=some (.type "str"):=by kernel_rfl
theorem GH:bootBuiltins "bool"=some (.type "bool"):=by kernel_rfl
theorem DM:bootBuiltins "set"=some (.type "set"):=by kernel_rfl
theorem vp:bootBuiltins "enumerate"=some (.type "enumerate"):=by kernel_rfl
theorem Li (hg:Gl X x) (hm:X.mg x=none) (hv:bootBuiltins x=some (.type T)) (hn:x≠"__name__":=by decide) (hd:(x==("__debug__":Str))=false:=by decide):PE X (.Name x pos) (tC (.ty T)) :=
 Hs hg hm hv rfl hn hd
structure Fnc (P:Program) (w:World) (K:PySem.W.Frag) (mg:Str->Option Value) (base:Heap) (CX:CXT) (k:Nat) (x:Str) (ps:List Str) (sp:Sp):Prop where
 ex:∃ (f:Addr) (fd:FuncData),bJ P w K mg base CX k f fd ps sp/\mg x=some (.ref f)/\PySem.W.keepIn K (.ref f)=true/\Binds K fd ps []
theorem Fe {E:St->XK}{k:Nat}{t:TA}{p pos:Pos} (C:Fnc X.prog X.w X.K X.mg X.base CX k x ps sp) (hx:Passes CX X E) (hr:eP k X.A) (hg:Gl X x) (ha:PA X (e::es) t)
  (hd:(x==("__debug__":Str))=false:=by decide)
  (he:starEach (e::es) X.env=(false,eval e X.env)::starEach es X.env:=by rfl) (hpl:(backTo pos (starEach es X.env)).any (·.1)=false:=by rfl):PE X (.Call (.Name x p) (e::es) [] pos) (Bo sp [] E t):=by
 obtain⟨f,fd,F,hm,hk,hb⟩:=C.ex
 exact Ht F hr hg hm hk hb .nil hx ha hd he hpl
end
def iY (g:TG) (tb:TS) (D:Ends) (J:It) (σ:St) (H:Hp):Prop:=∃ W:Nat->Nat->St->Hp->Prop,(∃ m,W 0 m σ H)/\∀ i m σ H,W i m σ H →
 (J.stop i H/\D.nx σ H)∨(J.go i H/\∃ N:St->Hp->Prop,(∀ σ' H',N σ' H'->∃ m',m'<m/\W (i+1) m' σ' H')/\∀ x H',J.yld i H x H'->g x σ H' fun σ2 H2=>tb { D with nx:=N,ct:=N,bk:=D.nx } σ2 H2)
theorem AJ {lo:Int}{n:Nat}{g:TG}{tb:TS}{D:Ends} (Pv:Nat->St->Hp->Prop) (h0:Pv 0 σ H)
  (hs:∀ i σ H,i<n->Pv i σ H->g (.int (lo+i)) σ H fun σ2 H2=>tb { D with nx:=Pv (i+1),ct:=Pv (i+1),bk:=D.nx } σ2 H2) (hd:∀ σ H,Pv n σ H->D.nx σ H):iY g tb D (Itr lo n) σ H:=Cp Pv h0 hs hd
theorem rS {g:TG}{tb:TS}{D:Ends} (Pv:Nat->St->Hp->Prop) (h0:Pv 0 σ H) (hl:∀ i σ H,i<=xs.length->Pv i σ H->SqL K H a xs)
  (hs:∀ i x σ H,xs[i]?=some x->Pv i σ H->g x σ H fun σ2 H2=>tb { D with nx:=Pv (i+1),ct:=Pv (i+1),bk:=D.nx } σ2 H2) (hd:∀ σ H,Pv xs.length σ H->D.nx σ H):iY g tb D (Itl K a) σ H:=Em Pv h0 hl hs hd
def IQ (t:TA):TE:=fun σ H Q=>t σ H fun xs H1=>xs.length<=sizeLine/\nw H1 (.lst xs) Q
def IV (t:TA):TE:=fun σ H Q=>t σ H fun xs H1=>xs.length<=sizeLine/\nw H1 (.tup xs) Q
def FN:TE:=fun _ H Q=>nw H (.dK []) Q
theorem bR {t:TA} (h:PA X es t):PE X (.List es pos) (IQ t):=by
 intro pins s σ H Q I hq
 refine wpAny_List_spliced (thn (h pos pins s σ H _ I hq) fun us s1 ⟨xs,H1,I1,r,z,q⟩=>⟨by rw[←r.length];exact z,?_⟩)
 have hf:H1 s1.heap.objs.size=none:=I1.hok.fresh (ak _)
 refine⟨.ref s1.heap.objs.size,upd H1 s1.heap.objs.size (.lst xs),I1.laid (t':=s1.toks) (fun b u e=>az _ e) (ak _) ?_,rfl,nw.go q _ hf⟩
 exact⟨z,us,0,r,aZ _ rfl⟩
theorem eR {t:TA}{x1} (h:PA X es t):PE X (.Tuple es x1 pos) (IV t):=by
 intro pins s σ H Q I hq
 refine wpAny_Tuple_spliced (thn (h pos pins s σ H _ I hq) fun us s1 ⟨xs,H1,I1,r,z,q⟩=>⟨by rw[←r.length];exact z,?_⟩)
 have hf:H1 s1.heap.objs.size=none:=I1.hok.fresh (ak _)
 refine⟨.ref s1.heap.objs.size,upd H1 s1.heap.objs.size (.tup xs),I1.laid (t':=s1.toks) (fun b u e=>az _ e) (ak _) ?_,rfl,nw.go q _ hf⟩
 exact⟨z,us,r,⟨_,aZ _ rfl,rfl,_,rfl⟩⟩
theorem xK :PE X (.Dict [] [] pos) FN:=fun pins s σ H Q I h=>Fh pins s σ H Q I (nw.go h)
section
variable {σ:St}{H:Hp}{Q:VK}{D:Ends}
theorem dm {t u:TS}:FR t u D σ H=t { D with nx:=u D } σ H:=propext Iff.rfl
theorem Jf {te:TE}{g:TG}:Dl te g D σ H=te σ H fun x H1=>g x σ H1 D.nx:=propext Iff.rfl
theorem DB {i:Nat}{v:V}{R:St->Hp->Prop}:gf i v σ H R=R (σ.set i (some v)) H:=propext Iff.rfl
theorem Jq {i:Nat}:wB i σ H Q=∃ v,σ[i]?=some (some v)/\Q v H:=propext Iff.rfl
theorem LR {v:V}:tC v σ H Q=Q v H:=propext Iff.rfl
theorem K8 {r:R2}{ta tb:TE}:tOp r ta tb σ H Q=ta σ H fun x H1=>tb σ H1 fun y H2=>r x y H2 Q:=propext Iff.rfl
theorem KC {r:V->Hp->VK->Prop}{ta:TE}:tUn r ta σ H Q=ta σ H fun x H1=>r x H1 Q:=propext Iff.rfl
theorem K4 {r:List V->Hp->VK->Prop}{t:TA}:tCB r t σ H Q=t σ H fun vs H1=>r vs H1 Q:=propext Iff.rfl
theorem Gh {ta:TE}{tr:TA}{R:List V->Hp->Prop}:vd ta tr σ H R=ta σ H fun x H1=>tr σ H1 fun xs H2=>R (x::xs) H2:=propext Iff.rfl
theorem Jk {R:List V->Hp->Prop}:Ae σ H R=R [] H:=propext Iff.rfl
theorem Gg {sp:Sp}{E:St->XK}{t:TA}:Bo sp [] E t σ H Q=t σ H fun vs H1=>sp vs H1 Q (E σ):=by
 show (t σ H fun vs H1=>sp (vs++[]) H1 Q (E σ))=_
 simp only[fb]
theorem Jo {te:TE}:Kv te D σ H=te σ H D.rt:=propext Iff.rfl
theorem K6 {c:TT}{t u:TS}:Ku c t u D σ H=c σ H fun b H1=>if b=true then t D σ H1 else u D σ H1:=propext Iff.rfl
theorem Gw:FQ D σ H=D.nx σ H:=propext Iff.rfl
theorem Gm {te:TE}:IM te D σ H=te σ H fun _ H1=>D.nx σ H1:=propext Iff.rfl
theorem GB {t:TE}{R:Bool->Hp->Prop}:ym t σ H R=t σ H fun x H'=>∃ k,x=.bl k/\R k H':=propext Iff.rfl
theorem LQ {t:TE}{R:Bool->Hp->Prop}:tB t σ H R=t σ H fun x H'=>∃ k,x=.bl k/\R k H':=propext Iff.rfl
theorem Jl {t:TT}{R:Bool->Hp->Prop}:Ly t σ H R=t σ H fun c H1=>R (!c) H1:=propext Iff.rfl
theorem Je {t u:TT}{R:Bool->Hp->Prop}:Lv t u σ H R=t σ H fun c H1=>if c=true then u σ H1 R else R false H1:=propext Iff.rfl
theorem K9 {t u:TT}{R:Bool->Hp->Prop}:tOr t u σ H R=t σ H fun c H1=>if c=true then R true H1 else u σ H1 R:=propext Iff.rfl
theorem Gf {ta tb:TE}:IL ta tb σ H Q=ta σ H fun x H1=>∃ c,x=.bl c/\if c=true then tb σ H1 Q else Q (.bl false) H1:=propext Iff.rfl
theorem Jm {ta tb:TE}:Lz ta tb σ H Q=ta σ H fun x H1=>∃ c,x=.bl c/\if c=true then Q (.bl true) H1 else tb σ H1 Q:=propext Iff.rfl
theorem Gx {ta:TE}:IT ta σ H Q=ta σ H fun x H1=>∃ c,x=.bl c/\Q (.bl (!c)) H1:=propext Iff.rfl
theorem Ji {t:TT}{ta tb:TE}:tIf t ta tb σ H Q=t σ H fun c H1=>if c=true then ta σ H1 Q else tb σ H1 Q:=propext Iff.rfl
theorem Jj {t:TA}:IQ t σ H Q=t σ H fun xs H1=>xs.length<=sizeLine/\nw H1 (.lst xs) Q:=propext Iff.rfl
theorem Jp {t:TA}:IV t σ H Q=t σ H fun xs H1=>xs.length<=sizeLine/\nw H1 (.tup xs) Q:=propext Iff.rfl
theorem Gj:FN σ H Q=nw H (.dK []) Q:=propext Iff.rfl
theorem K7 {k:Nat}{js:List Nat}{wi:TI}{g:TG}{tc:TT}{te:TE}:tLC k js wi g tc te σ H Q=wi σ H fun J H1=>fU g tc te (iZ k js σ) J H1 Q:=propext Iff.rfl
theorem KA {r:V->Option Int->Option Int->Hp->VK->Prop}{te:TE}{tl th:TO}:tSl r te tl th σ H Q=te σ H fun x H1=>tl σ H1 fun l H2=>th σ H2 fun u H3=>r x l u H3 Q:=propext Iff.rfl
theorem B0 {R:Option Int->Hp->Prop}:Bq σ H R=R none H:=propext Iff.rfl
theorem Gy {t:TE}{R:Option Int->Hp->Prop}:IU t σ H R=t σ H fun x H1=>∃ i,x=.int i/\R (some i) H1:=propext Iff.rfl
theorem DD {ta:TA}{R:It->Hp->Prop}:E3 ta σ H R=ta σ H fun vs H1=>∃ j:Int,vs=[.int j]/\-(2^62)<=j/\j<2^62/\R (Itr 0 j.toNat) H1:=propext Iff.rfl
theorem DE {ta:TA}{R:It->Hp->Prop}:E4 ta σ H R=ta σ H fun vs H1=>∃ i j:Int,vs=[.int i,.int j]/\(-(2^62)<=i/\i<2^62/\-(2^62)<=j/\j<2^62)/\R (Itr i (j-i).toNat) H1:=propext Iff.rfl
theorem Gr {K:PySem.W.Frag}{ta:TA}{R:It->Hp->Prop}:Hb K ta σ H R=ta σ H fun vs H1=>∃ a b,vs=[.ref a,.ref b]/\(∃ xs,SqL K H1 a xs)/\(∃ ys,SqL K H1 b ys)/\R (Itz K a b) H1:=propext Iff.rfl
theorem Jh {wi:TI}{g:TG}{tb:TS}:Lw wi g tb D σ H=wi σ H fun J H1=>iY g tb D J σ H1:=propext Iff.rfl
theorem Jn {i j:Nat}{ta:TA}:L1 i j ta D σ H=ta σ H fun vs H1=>∃ v w,vs=[v,w]/\D.nx ((σ.set i (some v)).set j (some w)) H1:=propext Iff.rfl
theorem Gp {to ti:TE}{t:Gd}{v:V}{R:St->Hp->Prop}:KP to ti t v σ H R=to σ H fun o H1=>ti σ H1 fun i H2=>t o i v H2 fun H3=>R σ H3:=propext Iff.rfl
theorem K3 {K:PySem.W.Frag}{T:String}{r:V->List V->Hp->VK->Prop}{to:TE}{t:TA}:tBM K T r to t σ H Q=to σ H fun x H1=>tyV K T x H1/\t σ H1 fun xs H2=>r x xs H2 Q:=propext Iff.rfl
theorem D7 {r r':R2}{ta tb tc:TE}:Ab r r' ta tb tc σ H Q=ta σ H fun x H1=>tb σ H1 fun y H2=>r x y H2 fun z H3=>∃ k,z=.bl k/\if k=true then tc σ H3 fun v H4=>r' y v H4 Q else Q (.bl false) H3:=propext Iff.rfl
theorem Ip {b:Bool}{P:Bool->Prop}:(∃ k,V.bl b=V.bl k/\P k)=P b:=propext ⟨fun ⟨k,e,h⟩=>by cases e;exact h,fun h=>⟨b,rfl,h⟩⟩
theorem Eh {b:Int}{P:Int->Prop}:(∃ k,V.int b=V.int k/\P k)=P b:=propext ⟨fun ⟨k,e,h⟩=>by cases e;exact h,fun h=>⟨b,rfl,h⟩⟩
theorem Ei {b:Addr}{P:Addr->Prop}:(∃ k,V.ref b=V.ref k/\P k)=P b:=propext ⟨fun ⟨k,e,h⟩=>by cases e;exact h,fun h=>⟨b,rfl,h⟩⟩
theorem GR {b:Int}{P:Int->Prop}:(∃ k,[V.int b]=[V.int k]/\P k)=P b:=propext ⟨fun ⟨k,e,h⟩=>by cases e;exact h,fun h=>⟨b,rfl,h⟩⟩
theorem GS {b c:Int}{P:Int->Int->Prop}:(∃ k l,[V.int b,V.int c]=[V.int k,V.int l]/\P k l)=P b c:=propext ⟨fun ⟨k,l,e,h⟩=>by cases e;exact h,fun h=>⟨b,c,rfl,h⟩⟩
theorem GU {b c:Addr}{P:Addr->Addr->Prop}:(∃ k l,[V.ref b,V.ref c]=[V.ref k,V.ref l]/\P k l)=P b c:=propext ⟨fun ⟨k,l,e,h⟩=>by cases e;exact h,fun h=>⟨b,c,rfl,h⟩⟩
theorem Jy {b c:V}{P:V->V->Prop}:(∃ k l,[b,c]=[k,l]/\P k l)=P b c:=propext ⟨fun ⟨k,l,e,h⟩=>by cases e;exact h,fun h=>⟨b,c,rfl,h⟩⟩
theorem GV {v:V}{P:V->Prop}:(∃ k,some (some v)=some (some k)/\P k)=P v:=propext ⟨fun ⟨k,e,h⟩=>by cases e;exact h,fun h=>⟨v,rfl,h⟩⟩
theorem FJ {N:List Str}{vs:List V}:start N vs=vs.map some++List.replicate (N.length-vs.length) none:=rfl
end
inductive Tg where
 | non | bl | int | str | lst | tup | dct
 deriving DecidableEq
def Tg.name:Tg->String
 | .non=>"NoneType" | .bl=>"bool" | .int=>"int" | .str=>"str" | .lst=>"list" | .tup=>"tuple" | .dct=>"dict"
def Tg.sub:Tg->Tg->Bool
 | .non,.non=>true | .bl,.bl=>true | .int,.int=>true | .str,.str=>true | .lst,.lst=>true | .tup,.tup=>true | .dct,.dct=>true
 | .bl,.int=>true
 | _,_=>false
def kj:Option HO->Option Tg
 | some (.lst _)=>some .lst | some (.frz _ (.lst _))=>some .lst | some (.tup _)=>some .tup | some (.dK _)=>some .dct | some (.dT _)=>some .dct
 | _=>none
def eG (H:Hp):V->Option Tg
 | .non=>some .non | .bl _=>some .bl | .int _=>some .int | .str _=>some .str | .ref a=>kj (H a)
 | _=>none
theorem EC (K:PySem.W.Frag):∀ t c:Tg,c≠.non->PySem.W.kitOne K (.type t.name) (.type c.name)=some (t.sub c):=by
 intro t c h
 cases t<;>cases c<;>first
  | exact absurd rfl h
  | rfl
  | kernel_rfl
  | decide +kernel
theorem Kw {x:V}{t:Tg} (h:eG H x=some t):nF K H x (.type t.name):=by
 cases x with
 | non=>cases h;exact .non
 | bl b=>cases h;exact .bl b
 | int i=>cases h;exact .int i
 | str z=>cases h;exact .str z
 | ref a =>
  have h':kj (H a)=some t:=h
  cases e:H a with
  | none=>rw[e] at h';cases h'
  | some o =>
   rw[e] at h'
   cases o with
   | lst xs=>cases h';exact .lst e
   | tup xs=>cases h';exact .tup e
   | dK kvs=>cases h';exact .dK e
   | dT kvs=>cases h';exact .dT e
   | frz ob u=>cases u with
    | lst xs=>cases h';exact .frz e
    | _=>cases h'
   | _=>cases h'
 | _=>cases h
def Iy (c:Tg):List V->Hp->VK->Prop:=fun vs H Q=>match vs with
 | [x,.ty n]=>n=c.name/\∃ t,eG H x=some t/\Q (.bl (t.sub c)) H
 | _=>False
theorem eN (c:Tg) (hc:c≠.non:=by decide):cW X (.builtin "isinstance") (Iy c):=by
 intro pins s σ H xs us Q I r h
 rcases xs with _ | ⟨x,t⟩
 ·exact h.elim
 rcases t with _ | ⟨x1,t⟩
 ·exact h.elim
 cases x1<;>try exact h.elim
 cases t<;>try exact h.elim
 next n =>
  obtain⟨rfl,t,ht,q⟩:=h
  exact DQ pins s σ H _ us Q I r ⟨x,_,_,_,rfl,Kw ht,EC X.K t c hc,q⟩
theorem wD {c:TT}{tb:TS}{D:Ends} (Pv:St->Hp->Prop) (μ:St->Hp->Nat) (h0:Pv σ H)
  (hs:∀ σ H,Pv σ H->c σ H fun b H1=>if b=true then ∃ N:St->Hp->Prop,(∀ σ' H',N σ' H'->Pv σ' H'/\μ σ' H'<μ σ H)/\tb { D with nx:=N,ct:=N,bk:=D.nx } σ H1 else D.nx σ H1):FT c tb D σ H :=
 ⟨fun m σ H=>m=μ σ H/\Pv σ H,⟨_,rfl,h0⟩,fun m σ H ⟨e,p⟩=>by
  subst e
  have q:=hs σ H p
  have e:(fun (b:Bool) (H1:Hp)=>if b=true then ∃ N:St->Hp->Prop,(∀ σ' H',N σ' H'->Pv σ' H'/\μ σ' H'<μ σ H)/\tb { D with nx:=N,ct:=N,bk:=D.nx } σ H1 else D.nx σ H1) =
    fun (b:Bool) (H1:Hp)=>if b=true then ∃ N:St->Hp->Prop,(∀ σ' H',N σ' H'->∃ m',m'<μ σ H/\m'=μ σ' H'/\Pv σ' H')/\tb { D with nx:=N,ct:=N,bk:=D.nx } σ H1 else D.nx σ H1:=by
   funext b H1
   cases b with
   | false=>rfl
   | true =>
    simp only[gQ]
    refine propext ⟨fun ⟨N,h1,h2⟩=>⟨N,fun σ' H' n=>⟨_,(h1 σ' H' n).2,rfl,(h1 σ' H' n).1⟩,h2⟩,fun ⟨N,h1,h2⟩=>⟨N,fun σ' H' n=>?_,h2⟩⟩
    obtain⟨m',h3,h4,h5⟩:=h1 σ' H' n
    exact⟨h5,by rw[←h4];exact h3⟩
  rw[e] at q
  exact q⟩
theorem eO (xs:List V) (k:Nat):lP xs (some (k:Int)) none=xs.drop k:=by
 unfold lP
 rw[HT.ny,HT.oW]
 rw[fh (by rw[bK];omega)]
 by_cases h:k<=xs.length
 ·rw[gN h]
 ·rw[Nat.min_eq_right (by omega),mF (ak _),mF (by omega)]
theorem yL (xs:List V):lP xs none (some (-1))=xs.take (xs.length-1):=by
 unfold lP
 have e:HT.sIx xs.length xs.length (some (-1))=xs.length-1:=by
  show (if (-1:Int)<0 then ((-1:Int)+(xs.length:Int)).toNat else min (-1:Int).toNat xs.length)=_
  rw[if_pos (by decide)];omega
 rw[e,HT.oW,Nat.sub_zero,List.drop_zero]
theorem uZ (n:Nat):wa 0 n=(Mk.ofN n).map V.int:=by
 unfold wa Mk.ofN
 rw[List.map_map]
 refine i8 fun k _=>?_
 show V.int (0+(k:Int))=V.int (k:Int)
 rw[km]
theorem wj (n:Nat):(Itr 0 n).Seq H1 ((Mk.ofN n).map V.int):=by
 rw[←uZ];exact Dh
def pI (f:Int->Bool):V->Bool
 | .int i=>f i
 | _=>false
theorem Co (f:Int->Bool) (xs:List Int):(xs.map V.int).filter (pI f)=(xs.filter f).map V.int:=by
 rw[mI];rfl
theorem EJ {x:V}{xs:List Int} (h:x∈xs.map V.int):∃ i,x=.int i/\i∈xs:=by
 obtain⟨i,hi,rfl⟩:=aE.mp h
 exact⟨i,rfl,hi⟩
theorem aj {n:Nat} (h:n<=100000):n<sizeLine:=cI h (by decide)
section
variable {X:Cx}{K:PySem.W.Frag}
theorem cD (hK:X.K=K) (hu:X.A.units<cLine):OpR X (compareOp .Eq) (CZ K):=hK ▸ JS hu
theorem fB (hK:X.K=K) (hu:X.A.units<cLine):OpR X (compareOp .NotEq) (Fz K):=hK ▸ JX hu
theorem cS (hK:X.K=K):IxR X (HF K):=hK ▸ LU
theorem aH (hK:X.K=K):cW X (.builtin "len") (Bh K):=hK ▸ BF
theorem gU (hK:X.K=K) (hc:X.calm=true):cW X (.builtin "all") (Lk K):=hK ▸ BC hc
theorem uA (hK:X.K=K) (hc:X.calm=true):cW X (.builtin "sum") (Lr K):=hK ▸ BN hc
theorem gW (hK:X.K=K) (hc:X.calm=true):cW X (.type "list") (zL K):=hK ▸ yF hc
theorem HA {elts:List Expr}{k:Nat}{tpos:Pos}{a b:Expr}{p pos:Pos} (hK:X.K=K) (hg:Gl X "zip") (hm:X.mg "zip"=none) (ha:PA X [a,b] ta) (hs:starEach [a,b] X.env=[(false,eval a X.env),(false,eval b X.env)]:=by rfl)
  (hs2:starEach [b] X.env=[(false,eval b X.env)]:=by rfl):PI X (.Tuple elts k tpos) (.Call (.Name "zip" p) [a,b] [] pos) (Hb K ta):=hK ▸ Kj hg hm ha hs hs2
theorem oS {k:Nat}{t:TGs}{n:Nat}{pos:Pos} (hK:X.K=K) (hc:X.calm=true) (h:PGs X es t)
  (hn:(assignEach es X.env).length=n:=by rfl) (hst:(assignEach es X.env).findIdx? (·.1)=none:=by rfl):PG X (.Tuple es k pos) (Ep K n t):=hK ▸ Kg hc h hn hst
theorem Kc {o e:Expr}{es:List Expr}{to:TE}{t:TA}{name:Str}{apos cpos:Pos}{T id:String}{r:V->List V->Hp->VK->Prop} (hK:X.K=K) (pa:PlainAttrs T) (slot:Slot T name id) (hty:typeOf (.builtin id)=pure (.type "method_descriptor"))
  (hm:MtR X id r) (ho:PE X o to) (ha:PA X (e::es) t)
  (hbase:attributeBase o name X.env (eval o X.env)=eval o X.env:=by rfl)
  (hfew:((backTo cpos (starEach (e::es) X.env)).all (fun x=>!x.1)&&(backToKw cpos (keywordEach [] X.env)).all (fun x=>x.1.isSome)
   && decide ((e::es).length+([]:List Keyword).length+(if ([]:List Keyword).isEmpty then 0 else 1)<30))=true:=by rfl)
  (hline:(apos.endLine==cpos.line)=true:=by rfl) (hs:starEach (e::es) X.env=(false,eval e X.env)::starEach es X.env:=by rfl) (hplain:(backTo cpos (starEach es X.env)).any (·.1)=false:=by rfl) :
  PE X (.Call (.Attribute o name apos) (e::es) [] cpos) (tBM K T r to t):=hK ▸ Le pa slot hty hm ho ha hbase hfew hline hs hplain
end
end
section
def noStar:Expr->Bool
 | .Starred _ _=>false
 | _=>true
def dH (es:List Expr):Bool:=es.all noStar
theorem aW (h:noStar e=true):starEach (e::es) env=(false,eval e env)::starEach es env:=by
 cases e<;>first
  | rfl
  | cases h
theorem bg (h:dH (e::es)=true):noStar e=true/\dH es=true:=by
 unfold dH at h ⊢
 rw[iz,bI] at h
 exact h
theorem cY {pos:Pos}{env:Env}:∀ {es:List Expr},dH es=true->(backTo pos (starEach es env)).any (·.1)=false
 | [],_=>rfl
 | e::es,h=>by
  obtain⟨h1,h2⟩:=bg h
  rw[aW h1]
  show (false||(backTo pos (starEach es env)).any (·.1))=false
  rw[cY h2];rfl
theorem nG {pos:Pos}{env:Env}:∀ {es:List Expr},dH es=true->(backTo pos (starEach es env)).all (fun x=>!x.1)=true
 | [],_=>rfl
 | e::es,h=>by
  obtain⟨h1,h2⟩:=bg h
  rw[aW h1]
  show (true&&(backTo pos (starEach es env)).all (fun x=>!x.1))=true
  rw[nG h2];rfl
section
variable {X:Cx}{K:PySem.W.Frag}
theorem pvL (i:Nat) {pos:Pos} (hN:X.N[i]?=some x:=by kernel_rfl) (hv:X.env.scope.names.lookup x=some .local:=by kernel_rfl) (hd:(x==("__debug__":Str))=false:=by kernel_rfl)
  (hcd:(x==("__classdict__":Str))=false:=by kernel_rfl):PE X (.Name x pos) (wB i):=Fm hN (.inl hv) hd hcd
theorem pvC (i:Nat) {pos:Pos} (hN:X.N[i]?=some x:=by kernel_rfl) (hv:X.env.scope.names.lookup x=some .cell:=by kernel_rfl) (hd:(x==("__debug__":Str))=false:=by kernel_rfl)
  (hcd:(x==("__classdict__":Str))=false:=by kernel_rfl):PE X (.Name x pos) (wB i):=Fm hN (.inr (.inl hv)) hd hcd
theorem ag {t:TA} (ha:PE X e te) (hr:PA X es t) (hs:noStar e=true:=by kernel_rfl):PA X (e::es) (vd te t):=Hr ha hr (aW hs)
theorem ay {E:St->XK}{k:Nat}{t:TA}{p pos:Pos} (C:Fnc X.prog X.w X.K X.mg X.base CX k x ps sp) (hx:Passes CX X E) (hr:eP k X.A) (ha:PA X (e::es) t)
  (hg:X.env.kindOf x=some .globalImplicit:=by kernel_rfl) (hd:(x==("__debug__":Str))=false:=by kernel_rfl) (hs:dH (e::es)=true:=by kernel_rfl):PE X (.Call (.Name x p) (e::es) [] pos) (Bo sp [] E t) :=
 Fe C hx hr hg ha hd (aW (bg hs).1) (cY (bg hs).2)
theorem au {p pos:Pos}{t:TA}{id:String}{r:List V->Hp->VK->Prop} (hc:cW X (.builtin id) r) (hm:X.mg x=none) (hv:bootBuiltins x=some (.builtin id)) (ha:PA X (e::es) t)
  (hg:X.env.kindOf x=some .globalImplicit:=by kernel_rfl) (hn:x≠"__name__":=by decide +kernel) (hd:(x==("__debug__":Str))=false:=by kernel_rfl) (hs:dH (e::es)=true:=by kernel_rfl):PE X (.Call (.Name x p) (e::es) [] pos) (tCB r t) :=
 Fd hc hg hm hv ha hn hd (aW (bg hs).1) (cY (bg hs).2)
theorem ei {p pos:Pos}{t:TA}{r:List V->Hp->VK->Prop} (hc:cW X (.type T) r) (hm:X.mg x=none) (hv:bootBuiltins x=some (.type T)) (ha:PA X (e::es) t)
  (hg:X.env.kindOf x=some .globalImplicit:=by kernel_rfl) (hn:x≠"__name__":=by decide +kernel) (hd:(x==("__debug__":Str))=false:=by kernel_rfl) (hs:dH (e::es)=true:=by kernel_rfl):PE X (.Call (.Name x p) (e::es) [] pos) (tCB r t) :=
 CS hc hg hm hv ha hn hd (aW (bg hs).1) (cY (bg hs).2)
theorem jJ {pos:Pos} (hm:X.mg x=none) (hv:bootBuiltins x=some (.type T)) (hg:X.env.kindOf x=some .globalImplicit:=by kernel_rfl) (hn:x≠"__name__":=by decide +kernel) (hd:(x==("__debug__":Str))=false:=by kernel_rfl) :
  PE X (.Name x pos) (tC (.ty T)):=Li hg hm hv hn hd
theorem aA {pos pos':Pos} (hN:X.N.Nodup) (he:PE X e te) (hi:X.N[i]?=some x:=by kernel_rfl) (hx:X.env.scope.names.lookup x=some .local:=by kernel_rfl)
  (hs:swapsWith e (some (.Name x pos')) pos.line X.env=pure false:=by kernel_rfl):PS X (.Assign [.Name x pos'] e pos) (Dl te (gf i)):=Fs hN hi (.inl hx) he hs (.inr hx)
theorem fV {pos pos':Pos} (hN:X.N.Nodup) (he:PE X e te) (hi:X.N[i]?=some x:=by kernel_rfl) (hx:X.env.scope.names.lookup x=some .cell:=by kernel_rfl) (hf:X.fn x=true:=by kernel_rfl)
  (hs:swapsWith e (some (.Name x pos')) pos.line X.env=pure false:=by kernel_rfl):PS X (.Assign [.Name x pos'] e pos) (Dl te (gf i)):=Fs hN hi (.inr hx) he hs (.inl hf)
theorem aL (hN:X.N.Nodup) (hi:X.N[i]?=some x:=by kernel_rfl) (hx:X.env.scope.names.lookup x=some .local:=by kernel_rfl):PG X (.Name x pos) (gf i):=AX hN hi (.inl hx) (.inr hx)
theorem Fo (hN:X.N.Nodup) (hi:X.N[i]?=some x:=by kernel_rfl) (hx:X.env.scope.names.lookup x=some .cell:=by kernel_rfl) (hf:X.fn x=true:=by kernel_rfl):PG X (.Name x pos) (gf i):=AX hN hi (.inr hx) (.inl hf)
theorem eU {tg a:Expr}{p pos:Pos} (hm:X.mg "range"=none) (ha:PA X [a] ta) (hg:X.env.kindOf "range"=some .globalImplicit:=by kernel_rfl) (hs:noStar a=true:=by kernel_rfl):PI X tg (.Call (.Name "range" p) [a] [] pos) (E3 ta) :=
 CV hg hm ha (aW hs)
theorem zE {tg a b:Expr}{p pos:Pos} (hm:X.mg "range"=none) (ha:PA X [a,b] ta) (hg:X.env.kindOf "range"=some .globalImplicit:=by kernel_rfl) (hs:noStar a=true:=by kernel_rfl) (hs2:noStar b=true:=by kernel_rfl) :
  PI X tg (.Call (.Name "range" p) [a,b] [] pos) (E4 ta):=CW hg hm ha (by rw[aW hs,aW hs2];rfl) (aW hs2)
theorem AY {elts:List Expr}{k:Nat}{tpos:Pos}{a b:Expr}{p pos:Pos} (hK:X.K=K) (hm:X.mg "zip"=none) (ha:PA X [a,b] ta) (hg:X.env.kindOf "zip"=some .globalImplicit:=by kernel_rfl) (hs:noStar a=true:=by kernel_rfl) (hs2:noStar b=true:=by kernel_rfl) :
  PI X (.Tuple elts k tpos) (.Call (.Name "zip" p) [a,b] [] pos) (Hb K ta):=HA hK hg hm ha (by rw[aW hs,aW hs2];rfl) (aW hs2)
theorem dq {o e:Expr}{es:List Expr}{to:TE}{t:TA}{name:Str}{apos cpos:Pos}{T id:String}{r:V->List V->Hp->VK->Prop} (hK:X.K=K) (pa:PlainAttrs T) (slot:Slot T name id) (hty:typeOf (.builtin id)=pure (.type "method_descriptor"))
  (hm:MtR X id r) (ho:PE X o to) (ha:PA X (e::es) t)
  (hbase:attributeBase o name X.env (eval o X.env)=eval o X.env:=by kernel_rfl) (hs:dH (e::es)=true:=by kernel_rfl) (hlen:decide ((e::es).length<30)=true:=by kernel_rfl)
  (hline:(apos.endLine==cpos.line)=true:=by kernel_rfl):PE X (.Call (.Attribute o name apos) (e::es) [] cpos) (tBM K T r to t):=by
 refine Kc hK pa slot hty hm ho ha hbase ?_ hline (aW (bg hs).1) (cY (bg hs).2)
 rw[nG hs]
 show (true&&true&&decide ((e::es).length+0+0<30))=true
 rw[dA,dA];exact hlen
end
end
section
def tx (l:List Nat):Str:=⟨l.toArray⟩
theorem bo (l:List Nat):(tx l).cps.toList=l:=by unfold tx;simp
theorem bj (l:List Nat):(tx l).length=l.length:=by show l.toArray.size=_;simp
theorem m7 (x:Str):tx x.cps.toList=x:=by unfold tx;simp
theorem qS (a b:List Nat):tx a++tx b=tx (a++b):=by
 show Str.mk (a.toArray++b.toArray)=Str.mk (a++b).toArray
 simp
theorem hO {a b:List Nat} (h:tx a=tx b):a=b:=by have:=bu (fun x:Str=>x.cps.toList) h;simpa [tx] using this
theorem ub (a b:List Nat):decide (tx a=tx b)=decide (a=b):=by
 by_cases e:a=b
 ·subst e;simp
 ·rw[decide_eq_false e,decide_eq_false (fun z=>e (hO z))]
theorem dg (x:Str):x.length=x.cps.toList.length:=by show x.cps.size=_;simp
def Itx (z:Str):It:=⟨fun i _=>i<z.cps.size,fun i H v H'=>H'=H/\∃ c,z.cps[i]?=some c/\v=.str ⟨#[c]⟩,fun i _=>z.cps.size<=i⟩
theorem yo {tg:Expr} (n:String) (hn:n="str_ascii_iterator"∨n="str_iterator") (z:Str) (t:Tok) (it:Addr):Turn P w K tg (Itx z) [it] it (fun i h=>h.IsStrIter it n z t i) where
 mem:=by simp
 obj:=fun i h st b hb=>by
  have e:b=it:=by simpa using hb
  subst e
  obtain⟨o,e,c,d⟩:=st
  exact⟨o,e,fun v z=>by rw[d] at z;cases z⟩
 keep:=fun i h h' st k=>by
  obtain⟨o,e,c,d⟩:=st
  exact⟨o,k it (by simp) o e,c,d⟩
 item:=by
  intro X hP hw hK hc i pins s σ H E I hf st hg
  subst hP hw hK
  have hg':i<z.cps.size:=hg
  have hx:z.cps[i]?=some z.cps[i]:=iM hg'
  obtain⟨f0,f1,f2,f3,f4,f5⟩:=hf it (by simp)
  have go:∀ h',h'.IsStrIter it n z t (i+1)->Heap.SameBut it s.heap h'->∃ u,some (Value.str ⟨#[z.cps[i]]⟩ s.toks)=some u ∧
    wpAny (model X.prog X.w) X.A (letOwnedTupleGo tg (.ref it) u) (fun _ s2=>∃ x H',Inv X pins σ H' s2/\RelV x u/\(Itx z).yld i H x H'/\s2.heap.IsStrIter it n z t (i+1)/\∀ b∈[it],H' b=none) E { s with heap:=h',toks:=s.toks+1 }:=fun h' st' sb=>by
   have I1:Inv X pins σ H { s with heap:=h',toks:=s.toks+1 }:=I.turned (t':=s.toks+1) (fun b o hb e=>(sb.2 b hb).trans e) f0 f1 f3 f4 f5
   obtain⟨o,e,c,d⟩:=id st'
   exact⟨_,rfl,xi (s:={ s with heap:=h',toks:=s.toks+1 }) e c d (by rcases hn with rfl | rfl<;>decide) ⟨.str ⟨#[z.cps[i]]⟩,H,I1,⟨_,rfl⟩,⟨rfl,_,hx,rfl⟩,st',fun b hb=>(hf b hb).1⟩⟩
  rcases hn with rfl | rfl
  ·exact wpAny_pyNext_ascii_item st hx go
  ·exact wpAny_pyNext_wide_item st hx go
 done:=by
  intro X hP hw hK hc i pins s σ H E I hf st hg
  subst hP hw hK
  have hx:z.cps[i]?=none:=mY hg
  obtain⟨f0,f1,f2,f3,f4,f5⟩:=hf it (by simp)
  have go:∀ h',Heap.ExtBut it s.heap h'->(none:Option Value)=none/\Inv X pins σ H { s with heap:=h' }:=fun h' eb =>
   ⟨rfl,I.turned (t':=s.toks) (fun b o hb e=>eb b o hb e) f0 f1 f3 f4 f5⟩
  rcases hn with rfl | rfl
  ·exact wpAny_pyNext_ascii_end (I.ok.hd hc) st hx go
  ·exact wpAny_pyNext_wide_end (I.ok.hd hc) st hx go
 self:=fun _ _ _ _ _ st h=>by
  rcases hn with rfl | rfl
  ·exact wpAny_pyIter_striter_ascii st h
  ·exact wpAny_pyIter_striter_wide st h
def AK (K:PySem.W.Frag) (x:V) (H:Hp) (R:It->Hp->Prop):Prop:=match x with
 | .ref a=>((∃ xs,SqL K H a xs)/\R (Itl K a) H)∨((∃ xs,SqT K H a xs)/\R (Itt K a) H)
 | .str z=>R (Itx z) H
 | _=>False
def E5 (K:PySem.W.Frag) (te:TE):TI:=fun σ H R=>te σ H fun x H1=>AK K x H1 R
theorem Ki {tg l:Expr} (hl:PE X l tl):PI X tg l (E5 X.K tl):=by
 intro pins s σ H R I h
 refine thn (hl pins s σ H _ I h) fun v s1 ⟨x,H1,I1,r1,q1⟩=>?_
 cases x with
 | ref a =>
  cases r1
  rcases q1 with ⟨⟨xs,hq⟩,q⟩ | ⟨⟨xs,hq⟩,q⟩
  ·obtain⟨its,rv,p,hz⟩:=I1.list hq
   refine wpAny_pyIter_list p.isList ?_
   refine⟨s1.heap.objs.size,[s1.heap.objs.size],_,_,H1,rfl,I1.kept (t':=s1.toks) fun b o e=>az _ e,Dq a _,⟨_,aZ _ rfl,rfl,rfl⟩,fun b hb=>?_,q⟩
   have e:b=s1.heap.objs.size:=by simpa using hb
   subst e
   exact I1.vz (ak _) (I1.hok.fresh (ak _))
  ·obtain⟨its,rv,p,hz⟩:=I1.tuple hq
   refine wpAny_pyIter_tuple (show s1.heap.IsTuple a its.toArray from p) ?_
   refine⟨s1.heap.objs.size,[s1.heap.objs.size],_,_,H1,rfl,I1.kept (t':=s1.toks) fun b o e=>az _ e,Ah a _,⟨_,aZ _ rfl,rfl,rfl⟩,fun b hb=>?_,q⟩
   have e:b=s1.heap.objs.size:=by simpa using hb
   subst e
   exact I1.vz (ak _) (I1.hok.fresh (ak _))
 | str z =>
  obtain⟨t,rfl⟩:=r1
  cases ha:z.cps.all (·<128) with
  | true =>
   refine wpAny_pyIter_ascii ha ?_
   refine⟨s1.heap.objs.size,[s1.heap.objs.size],_,_,H1,rfl,I1.kept (t':=s1.toks) fun b o e=>az _ e,yo "str_ascii_iterator" (.inl rfl) z t _,⟨_,aZ _ rfl,rfl,rfl⟩,fun b hb=>?_,q1⟩
   have e:b=s1.heap.objs.size:=by simpa using hb
   subst e
   exact I1.vz (ak _) (I1.hok.fresh (ak _))
  | false =>
   refine wpAny_pyIter_wide ha ?_
   refine⟨s1.heap.objs.size,[s1.heap.objs.size],_,_,H1,rfl,I1.kept (t':=s1.toks) fun b o e=>az _ e,yo "str_iterator" (.inr rfl) z t _,⟨_,aZ _ rfl,rfl,rfl⟩,fun b hb=>?_,q1⟩
   have e:b=s1.heap.objs.size:=by simpa using hb
   subst e
   exact I1.vz (ak _) (I1.hok.fresh (ak _))
 | _=>exact False.elim q1
theorem ck {tg l:Expr} (hK:X.K=K) (hl:PE X l tl):PI X tg l (E5 K tl):=hK ▸ Ki hl
theorem Gq {σ:St}{H:Hp}{K:PySem.W.Frag}{tl:TE}{R:It->Hp->Prop}:E5 K tl σ H R=tl σ H fun x H1=>AK K x H1 R:=propext Iff.rfl
def sgs (z:Str):List V:=z.cps.toList.map fun c=>V.str ⟨#[c]⟩
theorem HR (z:Str):(Itx z).Seq H1 (sgs z):=fun H s=>by
 refine⟨fun i x e=>?_,fun i hi=>?_⟩
 ·unfold sgs at e
  rw[aJ,hZ] at e
  cases hc:z.cps[i]? with
  | none=>rw[hc] at e;cases e
  | some c =>
   rw[hc] at e
   have e':V.str ⟨#[c]⟩=x:=Option.some.inj e
   have hi:i<z.cps.size:=by
    rcases Nat.lt_or_ge i z.cps.size with h | h
    ·exact h
    ·rw[mY h] at hc;cases hc
   exact⟨hi,fun y H' ⟨e1,d,e2,e3⟩=>⟨e1,by rw[hc] at e2;cases e2;rw[e3,e']⟩⟩
 ·show z.cps.size<=i
  unfold sgs at hi
  simpa using hi
def Fv (K:PySem.W.Frag) (neg:Bool):R2:=fun x y H Q=>match y with
 | .str j=>match x with
  | .str i=>Q (.bl (neg != !(Builtin.Str.occurrences j i 0 j.length 1).isEmpty)) H
  | _=>False
 | .ref p=>(∃ xs,Sq K H p xs/\dX x=true/\xs.all dX=true/\Q (.bl (neg != inV x xs)) H)∨∃ o:Option V,lH H p x o/\Q (.bl (neg != o.isSome)) H
 | _=>False
theorem JT (hu:X.A.units+1<cLine):OpR X (compareOp .In) (Fv X.K false):=by
 intro pins s σ H x y v u Q I rx ry h
 cases y with
 | str j=>cases x with
  | str i =>
   refine CO pins s σ H _ _ v u Q I rx ry ⟨i,j,rfl,rfl,?_⟩
   have h':Q (.bl (false != !(Builtin.Str.occurrences j i 0 j.length 1).isEmpty)) H:=h
   rwa [Bool.false_bne] at h'
  | _=>exact False.elim h
 | ref p =>
  rcases h with ⟨xs,hs,fx,fxs,q⟩ | ⟨o,hg,q⟩
  ·rw[Bool.false_bne] at q
   exact CN pins s σ H _ _ v u Q I rx ry ⟨p,xs,rfl,hs,fx,fxs,q⟩
  ·rw[Bool.false_bne] at q
   cases ry
   exact LS hu I hg rx fun s' I'=>⟨.bl _,H,I',rfl,q⟩
 | _=>exact False.elim h
theorem CQ (hu:X.A.units+1<cLine):OpR X (compareOp .NotIn) (Fv X.K true):=by
 intro pins s σ H x y v u Q I rx ry h
 cases y with
 | str j=>cases x with
  | str i =>
   refine vX pins s σ H _ _ v u Q I rx ry ⟨i,j,rfl,rfl,?_⟩
   have h':Q (.bl (true != !(Builtin.Str.occurrences j i 0 j.length 1).isEmpty)) H:=h
   rwa [Bool.true_bne] at h'
  | _=>exact False.elim h
 | ref p =>
  rcases h with ⟨xs,hs,fx,fxs,q⟩ | ⟨o,hg,q⟩
  ·rw[Bool.true_bne] at q
   exact vW pins s σ H _ _ v u Q I rx ry ⟨p,xs,rfl,hs,fx,fxs,q⟩
  ·rw[Bool.true_bne] at q
   cases ry
   exact GJ hu I hg rx fun s' I'=>⟨.bl _,H,I',rfl,q⟩
 | _=>exact False.elim h
theorem qF (hK:X.K=K) (hu:X.A.units+1<cLine):OpR X (compareOp .In) (Fv K false):=hK ▸ JT hu
theorem CP (hK:X.K=K) (hu:X.A.units+1<cLine):OpR X (compareOp .NotIn) (Fv K true):=hK ▸ CQ hu
theorem zk (x:Str) (c:Nat):(!(Builtin.Str.occurrences x ⟨#[c]⟩ 0 x.length 1).isEmpty)=decide (c∈x.cps.toList):=StrLaws.found_one x c
theorem yt {c i:Nat}:StrLaws.At x ⟨#[c]⟩ x.length i↔x.cps.toList[i]?=some c:=by
 unfold StrLaws.At Builtin.Str.subAt
 show i+1<=x.cps.size/\(x.cps.extract i (i+1)==#[c])=true↔_
 rw[hZ]
 constructor
 ·rintro⟨h1,h2⟩
  have e:=eq_of_beq h2
  have:x.cps[i]?=(x.cps.extract i (i+1))[0]?:=by
   rw[Array.getElem?_extract];simp;omega
  rw[this,e];rfl
 ·intro h
  have hi:i<x.cps.size:=by
   rcases Nat.lt_or_ge i x.cps.size with h' | h'
   ·exact h'
   ·rw[mY h'] at h;cases h
  refine⟨hi,?_⟩
  have:x.cps.extract i (i+1)=#[c]:=by
   apply Array.ext
   ·simp;omega
   ·intro j h1 h2
    have hj:j=0:=by simp at h2;omega
    subst hj
    have e:=iM hi
    rw[h] at e
    simp [Option.some.inj e]
  rw[this];exact beq_self_eq_true _
theorem xc {c:Nat} (h:c∈x.cps.toList):Txt.find x ⟨#[c]⟩=((x.cps.toList.idxOf c:Nat):Int):=by
 have hi:x.cps.toList.idxOf c<x.cps.toList.length:=mP h
 have hg:x.cps.toList[x.cps.toList.idxOf c]?=some c:=by
  rw[List.getElem?_eq_getElem hi,List.getElem_idxOf]
 rcases find_whole x ⟨#[c]⟩ with ⟨_,hn⟩ | ⟨i,e,hi2,hn⟩
 ·exact absurd (yt.mpr hg) (hn _)
 ·rw[e]
  have h1:¬ x.cps.toList.idxOf c<i:=fun z=>hn _ z (yt.mpr hg)
  have h2:=yt.mp hi2
  have h3:x.cps.toList.idxOf c<=i:=by
   rcases Nat.lt_or_ge i (x.cps.toList.idxOf c) with z | z
   ·obtain⟨hl,e2⟩:=bf.mp h2
    have h5:=List.not_of_lt_findIdx (p:=(·==c)) (xs:=x.cps.toList) (i:=i) z
    rw[e2] at h5
    simp at h5
   ·exact z
  congr 1
  omega
def Bf:V->List V->Hp->VK->Prop:=fun x vs H Q=>match x,vs with
 | .str z,[.str y]=>0<=Txt.find z y/\Q (.int (Txt.find z y)) H
 | _,_=>False
theorem uS :MtM X "str.index" Bf:=by
 intro pins s σ H x vs v us Q I rx rv h
 cases x<;>try exact h.elim
 rcases vs with _ | ⟨x0,t⟩
 ·exact h.elim
 cases x0<;>try exact h.elim
 cases t<;>try exact h.elim
 next z y =>
  obtain⟨t,rfl⟩:=rx
  obtain⟨u,rfl,t',rfl⟩:=rv.one
  cases ho:Builtin.Str.occurrences z y 0 z.length 1 with
  | nil =>
   have e:Txt.find z y=-1:=by simp [Txt.find,ho]
   have h1:=h.1
   rw[e] at h1
   exact absurd h1 (by decide)
  | cons i rest =>
   have e:Txt.find z y=(i:Int):=by simp [Txt.find,ho]
   refine SC.index ho ?_
   have h2:=h.2
   rw[e] at h2
   exact⟨.int _,H,I.tok _,⟨_,rfl⟩,h2⟩
theorem HZ {ys:List Str}:∀ {us:List Value},Vals (ys.map V.str) us->StrsAre us ys:=by
 induction ys with
 | nil=>intro us r;cases r;exact .nil
 | cons y r ih =>
  intro us h
  cases h with
  | cons h1 h2 =>
   obtain⟨t,rfl⟩:=h1
   exact .cons _ _ (ih h2)
def zK (K:PySem.W.Frag):V->List V->Hp->VK->Prop:=fun x vs H Q=>match x,vs with
 | .str z,[.ref p]=>∃ ys:List Str,SqL K H p (ys.map V.str)/\(ys.map (·.length)).sum+ys.length*z.length<=16777216/\Q (.str (Txt.join z ys)) H
 | _,_=>False
theorem EL :MtM X "str.join" (zK X.K):=by
 intro pins s σ H x vs v us Q I rx rv h
 cases x<;>try exact h.elim
 rcases vs with _ | ⟨x0,t⟩
 ·exact h.elim
 cases x0<;>try exact h.elim
 cases t<;>try exact h.elim
 next z p =>
  obtain⟨ys,hs,hl,q⟩:=h
  obtain⟨t,rfl⟩:=rx
  obtain⟨u,rfl,ru⟩:=rv.one
  cases ru
  obtain⟨its,rv2,pl,hz⟩:=I.list hs
  exact join_list pl.isList (by simpa using HZ rv2) hl fun t' k=>⟨.str _,H,I.tok _,⟨_,rfl⟩,q⟩
theorem oK (hK:X.K=K):MtM X "str.join" (zK K):=hK ▸ EL
theorem sI (ls:List (List Nat)):Txt.join (tx []) (ls.map tx)=tx ls.flatten:=by
 have go:∀ (r:List (List Nat)) (acc:List Nat),(r.map tx).foldl (fun acc p=>acc++(tx []).cps++p.cps) acc.toArray=(acc++r.flatten).toArray:=by
  intro r
  induction r with
  | nil=>intro acc;simp
  | cons a r ih =>
   intro acc
   rw[aR,List.foldl_cons]
   have e:acc.toArray++(tx []).cps++(tx a).cps=(acc++a).toArray:=by simp [tx]
   rw[e,ih]
   simp
 unfold Txt.join Builtin.Str.glued
 cases ls with
 | nil=>rfl
 | cons a r =>
  have:=go r a
  show Str.mk ((r.map tx).foldl (fun acc p=>acc++(tx []).cps++p.cps) a.toArray)=tx (a::r).flatten
  rw[this]
  rfl
theorem zo (l:List Nat):Txt.join (tx []) (l.map fun c=>tx [c])=tx l:=by
 have:=sI (l.map fun c=>[c])
 rw[List.map_map] at this
 rw[show (l.map fun c=>tx [c])=l.map (tx ∘ fun c=>[c]) from rfl,this]
 congr 1
 induction l with
 | nil=>rfl
 | cons a r ih=>rw[aR,mK,ih (by
   have:=sI (r.map fun c=>[c])
   rw[List.map_map] at this;exact this)];rfl
section
variable {α β:Type}
noncomputable def pull {γ:Type} (e:α->V) (f:α->γ) (d:γ) (v:V):γ:=open Classical in if h:∃ a,e a=v then f (Classical.choose h) else d
theorem j9 {γ:Type}{e:α->V} (inj:∀ a b,e a=e b->a=b) (f:α->γ) (d:γ) (a:α):pull e f d (e a)=f a:=by
 unfold pull
 have h:∃ b,e b=e a:=⟨a,rfl⟩
 rw[dif_pos h,inj _ _ (Classical.choose_spec h)]
theorem iO:∀ a b:Int,V.int a=V.int b->a=b:=fun _ _ h=>by cases h;rfl
theorem vC:∀ a b:Nat,V.str ⟨#[a]⟩=V.str ⟨#[b]⟩->a=b:=fun _ _ h=>by cases h;rfl
theorem ED {xs:List α}{js:List Nat}{σ:St}{tc:TT}{te:TE}{Q:VK} (e:α->V) (inj:∀ a b,e a=e b->a=b) (hJ:J.Seq H1 (xs.map e)) (hl:xs.length<sizeLine) (p:α->Bool) (f:α->V)
  (hc:∀ x∈xs,∀ H,aw H1 H->∀ R:Bool->Hp->Prop,(∀ H',aw H H'->R (p x) H')->tc (some (e x)::js.map fun j=>(σ[j]?).join) H R)
  (he:∀ x∈xs,p x=true->∀ H,aw H1 H->∀ R:VK,(∀ H',aw H H'->R (f x) H')->te (some (e x)::js.map fun j=>(σ[j]?).join) H R)
  (q:∀ D H,H1 D=none->aw H1 H->H D=some (.lst ((xs.filter p).map f))->Q (.ref D) H):fU (gf 0) tc te (iZ 1 js σ) J H1 Q:=by
 refine zt hJ (by rw[List.length_map];exact hl) (pull e p false) (pull e f .non) ?_ ?_ ?_
 ·intro v hv H s R hR
  obtain⟨x,hx,rfl⟩:=aE.mp hv
  rw[j9 inj] at hR
  exact hc x hx H s R hR
 ·intro v hv hp H s R hR
  obtain⟨x,hx,rfl⟩:=aE.mp hv
  rw[j9 inj] at hR hp
  exact he x hx hp H s R hR
 ·intro D H h1 h2 h3
  refine q D H h1 h2 ?_
  rw[h3,mI,List.map_map]
  congr 2
  have e1:pull e f .non ∘ e=f:=funext fun a=>j9 inj f .non a
  have e2:pull e p false ∘ e=p:=funext fun a=>j9 inj p false a
  rw[e1,e2]
theorem um {xs:List α}{js:List Nat}{σ:St}{te:TE}{Q:VK} (e:α->V) (inj:∀ a b,e a=e b->a=b) (hJ:J.Seq H1 (xs.map e)) (hl:xs.length<sizeLine) (f:α->V)
  (he:∀ x∈xs,∀ H,aw H1 H->∀ R:VK,(∀ H',aw H H'->R (f x) H')->te (some (e x)::js.map fun j=>(σ[j]?).join) H R)
  (q:∀ D H,H1 D=none->aw H1 H->H D=some (.lst (xs.map f))->Q (.ref D) H):fU (gf 0) Dm te (iZ 1 js σ) J H1 Q :=
 ED e inj hJ hl (fun _=>true) f (fun x _ H _ R hR=>hR H (aw.refl H)) (fun x hx _ H s R hR=>he x hx H s R hR) fun D H h1 h2 h3=>q D H h1 h2 (by rw[List.filter_eq_self.mpr (fun _ _=>rfl)] at h3;exact h3)
theorem KU {K:PySem.W.Frag}{a b:Addr}{H1:Hp}{xs:List α}{ys:List β}{js:List Nat}{σ:St}{te:TE}{Q:VK} (e:α->V) (e':β->V) (inj:∀ a b,e a=e b->a=b) (inj':∀ a b,e' a=e' b->a=b)
  (hx:SqL K H1 a (xs.map e)) (hy:SqL K H1 b (ys.map e')) (hl:xs.length<sizeLine) (f:α->β->V)
  (he:∀ x y,(x,y)∈xs.zip ys->∀ H,aw H1 H->∀ R:VK,(∀ H',aw H H'->R (f x y) H')->te (some (e x)::some (e' y)::js.map fun j=>(σ[j]?).join) H R)
  (q:∀ D H,H1 D=none->aw H1 H->H D=some (.lst ((xs.zip ys).map fun p=>f p.1 p.2))->Q (.ref D) H):fU (Ep K 2 (qV (gf 0) (qV (gf 1) Eo))) Dm te (iZ 2 js σ) (Itz K a b) H1 Q:=by
 refine JG hx hy (by rw[List.length_map];exact hl) (fun v u=>pull e (fun x=>pull e' (f x) .non u) .non v) ?_ ?_
 ·intro v u hvu H s R hR
  rw[List.zip_map,aE] at hvu
  obtain⟨⟨x,y⟩,hxy,e2⟩:=hvu
  cases e2
  have e3:pull e (fun x=>pull e' (f x) .non (e' y)) .non (e x)=f x y:=by rw[j9 inj,j9 inj']
  exact he x y hxy H s R (fun H' s'=>by have:=hR H' s';rwa [e3] at this)
 ·intro D H h1 h2 h3
  refine q D H h1 h2 ?_
  rw[h3,List.zip_map,List.map_map]
  congr 2
  refine i8 fun ⟨x,y⟩ _=>?_
  show pull e (fun x=>pull e' (f x) .non (e' y)) .non (e x)=f x y
  rw[j9 inj,j9 inj']
end
theorem wk (z:Str):(Itx z).Seq H1 (z.cps.toList.map fun c=>V.str ⟨#[c]⟩):=HR z
theorem pF {x:V}{t:Tg} (ht:eG H x=some t) (hs:∀ z,x≠.str z):t≠.str:=fun e=>by
 subst e
 cases x with
 | str z=>exact hs z rfl
 | ref a =>
  have h':kj (H a)=some .str:=ht
  cases e:H a with
  | none=>rw[e] at h';cases h'
  | some o=>rw[e] at h';cases o with
   | frz ob u=>cases u<;>cases h'
   | _=>cases h'
 | _=>cases ht
theorem yJ {a b:Int} (ha:0<=a/\a<1000) (hb:0<=b/\b<1000):FZ a b :=
 ⟨bB (show a.natAbs<1000 by omega) (by decide),bB (show b.natAbs<1000 by omega) (by decide)⟩
theorem Ay {t u:TS} (R:St->Hp->Prop) (h2:∀ σ' H',R σ' H'->u D σ' H') (h1:∀ U:St->Hp->Prop,(∀ σ' H',R σ' H'->U σ' H')->t { D with nx:=U } σ H):FR t u D σ H:=h1 _ h2
theorem cC {l:List α}{i:Int}{v:α} (h0:0<=i) (h1:l[i.toNat]?=some v):atI l i=some v:=by
 have:=bY h1
 rwa [pM h0] at this
theorem uw:(Str.ofString "abcdefghijklmnopqrstuvwxyz").cps.toList=List.range' 97 26:=by decide +kernel
theorem DX:Str.ofString ""=tx []:=by decide +kernel
theorem E8 {D:Addr}{l:List Nat} (h:H D=some (.lst (l.map fun c=>V.str (tx [c])))):SqL K H D ((l.map fun c=>tx [c]).map V.str):=.of (by rw[h,List.map_map];rfl)
theorem E7 {l:List Nat} (hl:l.length<=100000):((l.map fun c=>tx [c]).map (·.length)).sum+(l.map fun c=>tx [c]).length*(Str.ofString "").length<=16777216:=by
 have e2:(Str.ofString "").length=0:=by decide +kernel
 rw[e2,Nat.mul_zero,Nat.add_zero,List.map_map]
 have e:∀ l:List Nat,(l.map ((fun x:Str=>x.length) ∘ fun x=>tx [x])).sum=l.length:=by
  intro l
  induction l with
  | nil=>rfl
  | cons a r ih=>rw[aR,jq,ih,aO];show (tx [a]).length+_=_;rw[bj];simp;omega
 rw[e]
 omega
theorem AO (l:List Nat):Txt.join (Str.ofString "") (l.map fun c=>tx [c])=tx l:=by rw[DX,zo]
end
section
def DK (h h':Heap):Prop:=∀ b o,h.get? b=some o->∃ o',h'.get? b=some o'/\o'.cls=o.cls/\o'.dict=o.dict/\(∀ vs,o.data=.fields vs->∃ vs',o'.data=.fields vs'/\vs'[2]?=vs[2]?)
theorem DK.refl (h:Heap):DK h h:=fun b o e=>⟨o,e,rfl,rfl,fun vs q=>⟨vs,q,rfl⟩⟩
theorem DK.trans {h1 h2 h3:Heap} (x:DK h1 h2) (y:DK h2 h3):DK h1 h3:=fun b o e=>by
 obtain⟨o1,e1,c1,d1,f1⟩:=x b o e
 obtain⟨o2,e2,c2,d2,f2⟩:=y b o1 e1
 exact⟨o2,e2,c2.trans c1,d2.trans d1,fun vs q=>by obtain⟨v1,q1,g1⟩:=f1 vs q;obtain⟨v2,q2,g2⟩:=f2 v1 q1;exact⟨v2,q2,g2.trans g1⟩⟩
theorem DK.push (h:Heap) (o:Obj):DK h (h.push o):=fun b u e=>⟨u,az _ e,rfl,rfl,fun vs q=>⟨vs,q,rfl⟩⟩
structure KD {α:Type} (m:Sem α):Prop where
 out:∀ (M:Model) (Γ:PySem.Ctx) (P:α->Pos->Shared->Prop) (Ee:Value->Pos->Shared->Prop) (p:Pos) (s:Shared),Sem.wp M Γ m P Ee p s →
  Sem.wp M Γ m (fun a p' s'=>P a p' s'/\DK s.heap s'.heap) (fun e p' s'=>Ee e p' s'/\DK s.heap s'.heap) p s
namespace KD
variable {α β:Type}
theorem pure (a:α):KD (Pure.pure a:Sem α):=⟨fun _ _ _ _ _ s h=>⟨h,DK.refl _⟩⟩
theorem unsupported (w:String):KD (PySem.unsupported w:Sem α):=⟨fun _ _ _ _ _ _ h=>h⟩
theorem bind {m:Sem α}{f:α->Sem β} (hm:KD m) (hf:∀ a,KD (f a)):KD (m >>= f):=⟨fun M Γ P Ee p s h=>by
 rw[Sem.wp_bind'] at h ⊢
 refine Sem.wp_mono M Γ m (fun a p' s' h'=>?_) (fun _ _ _ x=>x) p s (hm.out M Γ _ _ p s h)
 refine Sem.wp_mono M Γ (f a) (fun b p2 s2 h2=>⟨h2.1,h'.2.trans h2.2⟩) (fun e p2 s2 h2=>⟨h2.1,h'.2.trans h2.2⟩) p' s' ((hf a).out M Γ P Ee p' s' h'.1)⟩
theorem ite {c:Prop} [Decidable c] {t u:Sem α} (ht:KD t) (hu:KD u):KD (if c then t else u):=by split<;>assumption
theorem load (a:Addr):KD (PySem.load a):=⟨fun _ _ _ _ _ s h=>by obtain⟨o,e,q⟩:=h;exact⟨o,e,q,DK.refl _⟩⟩
theorem stack:KD PySem.stack:=⟨fun M Γ P Ee p s h=>by
 unfold PySem.stack at h ⊢
 rw[Sem.wp_stack] at h ⊢
 exact⟨h,DK.refl _⟩⟩
theorem alloc (o:Obj):KD (PySem.alloc o):=⟨fun _ _ _ _ _ s h=>⟨h,DK.push _ _⟩⟩
theorem field (v:Value) (i:Nat):KD (PySem.field v i):=⟨fun _ Γ P Ee p s h=>by
 rw[wp_field_iff] at h ⊢
 obtain⟨a,o,vs,x,e1,e2,e3,e4,q⟩:=h
 exact⟨a,o,vs,x,e1,e2,e3,e4,q,DK.refl _⟩⟩
theorem update {a:Addr}{f:Obj->Obj} (hf:∀ o,(f o).cls=o.cls/\(f o).dict=o.dict/\(f o).isFreed=o.isFreed/\∀ vs,o.data=.fields vs->∃ vs',(f o).data=.fields vs'/\vs'[2]?=vs[2]?):KD (PySem.update a f):=⟨fun _ _ _ _ _ s h=>by
 refine⟨h.1,h.2,fun b o e=>?_⟩
 by_cases hb:b=a
 ·subst hb
  obtain⟨h1,h2,h3,h4⟩:=hf o
  have hfr:o.isFreed=false:=(Heap.get?_some_iff.mp e).2
  exact⟨f o,eZ _ e (by rw[h3];exact hfr),h1,h2,h4⟩
 ·exact⟨o,(dw _ _ (bt hb)).trans e,rfl,rfl,fun vs q=>⟨vs,q,rfl⟩⟩⟩
theorem setField (v:Value) (i:Nat) (x:Value) (hi:i≠2):KD (PySem.setField v i x):=⟨fun _ Γ P Ee p s h=>by
 rw[wp_setField_iff] at h ⊢
 obtain⟨a,o,vs,e1,e2,e3,e4,q⟩:=h
 refine⟨a,o,vs,e1,e2,e3,e4,q,fun b u e=>?_⟩
 by_cases hb:b=a
 ·subst hb
  rw[e2] at e
  cases e
  have hd:=Obj.data_mapFields e3 (·.setIfInBounds i x)
  exact⟨_,eZ _ e2 (Obj.isFreed_of_fields hd),Obj.cls_mapFields ..,by cases o with | mk c d dt sl=>cases dt<;>first | rfl,fun vs' q=>⟨_,hd,by rw[e3] at q;cases q;exact Array.getElem?_setIfInBounds_ne hi⟩⟩
 ·exact⟨u,(dw _ _ (bt hb)).trans e,rfl,rfl,fun vs q=>⟨vs,q,rfl⟩⟩⟩
theorem slots {a:Addr}{g:Obj->Array (Option Value)}:KD (PySem.update a fun o=>{ o with slots:=g o }):=update fun o=>⟨rfl,rfl,by cases o with | mk c d dt sl=>cases dt<;>rfl,fun vs q=>⟨vs,q,rfl⟩⟩
end KD
theorem C7 (env:Env) (outer:List Env):KD (behindIsImport env outer):=by
 unfold behindIsImport
 repeat' with_reducible first | exact KD.pure _ | exact KD.field _ _ | apply KD.ite | apply KD.bind | intro _
theorem C8:KD underTheClaimsCaller:=by
 unfold underTheClaimsCaller
 repeat' with_reducible first | exact KD.pure _ | exact KD.stack | exact KD.unsupported _ | exact KD.field _ _ | apply KD.ite | apply KD.bind | intro _ | split
theorem He (env:Env) (i:Bool) (l:List Env):KD (keptBack env i l):=by
 have:=C8
 cases l<;>unfold keptBack<;>repeat' with_reducible first | assumption | exact KD.pure _ | apply KD.ite | apply KD.bind | intro _
theorem xk:∀ l:List Env,KD (readyFrames l)
 | []=>KD.pure _
 | env::outer=>by
  have ih:=xk outer
  have h1:=C7 env outer
  have h2:=fun i=>He env i outer
  unfold readyFrames
  split
  ·refine KD.bind (KD.load _) fun o=>KD.ite (KD.pure _) (KD.bind h1 fun b=>KD.bind (h2 b) fun v=>KD.bind KD.slots fun _=>ih)
  ·exact KD.unsupported _
theorem sJ (l:List Env):KD (frameObject l):=by
 cases l with
 | nil=>exact KD.pure _
 | cons a r=>unfold frameObject;exact KD.bind (xk _) fun _=>KD.pure _
theorem zr (env:Env):KD (PySem.frameOf env):=by
 unfold PySem.frameOf frameEnvs
 refine KD.bind (KD.bind KD.stack fun _=>KD.pure _) fun l=>KD.bind (sJ _) fun o=>?_
 cases o with
 | none=>exact KD.unsupported _
 | some v=>exact KD.pure _
theorem EB (f:Addr) (b:Bool):KD (entryPlaceOf f b):=by
 unfold entryPlaceOf
 repeat' with_reducible first | exact KD.pure _ | exact KD.stack | exact KD.unsupported _ | apply KD.ite | apply KD.bind | intro _ | split
theorem E9 (a b c d e:Value) (l:List Value):KD (EntryCells.newEntry a b c d e l):=by
 unfold EntryCells.newEntry newFields newObj newObjAsIs
 repeat' first | exact KD.pure _ | exact KD.alloc _ | exact KD.unsupported _ | apply KD.ite | apply KD.bind | intro _ | split
theorem AQ (e:Value) (env:Env):KD (noteFrame e env):=by
 unfold noteFrame
 have h1:=zr env
 have h2:=EB
 have h3:=E9
 split
 ·repeat' with_reducible first | exact KD.pure _ | exact KD.field _ _ | exact KD.setField _ _ _ (by decide) | exact h1 | exact h2 _ _ | exact h3 _ _ _ _ _ _ | apply KD.ite | apply KD.bind | intro _
 ·exact KD.unsupported _
theorem qu (e:Value) (o:Option Addr):KD (setFlight e o):=by
 unfold setFlight
 repeat' with_reducible first | exact KD.pure _ | exact KD.field _ _ | exact KD.setField _ _ _ (by decide) | apply KD.ite | apply KD.bind | intro _
theorem nK (env:Env) (e:Value):KD (leaving env e):=by
 unfold leaving
 exact KD.bind (AQ _ _) fun _=>qu _ _
theorem KD.any {M:Model}{t:Sem α}{Q:α->Shared->Prop} (k:KD t) (h:wpAny M A t Q E s) :
  wpAny M A t (fun a s'=>Q a s'/\DK s.heap s'.heap) (fun e s'=>E e s'/\DK s.heap s'.heap) s:=fun Γ p hΓ=>k.out M Γ _ _ p s (h Γ p hΓ)
theorem zy (x:bM P w H h a o):∃ u,h.get? a=some u:=by
 cases o with
 | lst xs=>obtain⟨_,_,_,_,e⟩:=x;exact⟨_,e⟩
 | tup xs=>obtain⟨_,_,_,ob,e,_⟩:=x;exact⟨_,e⟩
 | dK kvs=>obtain⟨_,_,_,_,ob,_,_,e,_⟩:=x;exact⟨_,e⟩
 | dT kvs=>obtain⟨_,_,_,_,ob,_,_,e,_⟩:=x;exact⟨_,e⟩
 | set S n=>obtain⟨ob,_,_,_,e,_⟩:=x;exact⟨_,e⟩
 | ins C dx fs=>obtain⟨_,_,_,e,_⟩:=x;exact⟨_,e⟩
 | own y=>exact x
 | xd fs=>obtain⟨_,⟨od,_,_,e,_⟩,_⟩:=x;exact⟨_,e⟩
 | rng lo hi=>obtain⟨_,_,_,e⟩:=x;exact⟨_,e⟩
 | frz ob u=>exact⟨_,x.1⟩
 | tbl ps=>obtain⟨_,e,_⟩:=x;exact⟨_,e⟩
 | met f y=>exact⟨_,x⟩
 | ext φ=>exact x.2.1
def XD (o:Obj) (d:Option Addr):Prop:=o.dict=d/\∃ vs,o.data=.fields vs/\vs[2]?=some .none
theorem XD.dk {o o':Obj} (x:XD o d) (h:o'.dict=o.dict) (f:∀ vs,o.data=.fields vs->∃ vs',o'.data=.fields vs'/\vs'[2]?=vs[2]?):XD o' d:=by
 obtain⟨x1,vs,x2,x3⟩:=x
 obtain⟨vs',y1,y2⟩:=f vs x2
 exact⟨h.trans x1,vs',y1,y2.trans x3⟩
def CX1 (P:Program) (w:World):CXT:=fun outer H s E e s'=>∃ (ea C t:Addr) (B:Heap) (H':Hp) (d:Option Addr),e=.ref ea/\s'.os=s.os/\AllBare s'.gens/\Un (frs outer) [] H H' s.heap s'.heap/\HOk P w H' s'.heap ∧
 Heap.FlyingW B outer ea (.ref C) (.ref t) s'.heap/\(∃ oe,s'.heap.get? ea=some oe/\XD oe d)/\(∀ dx,d=some dx->∃ fs,H' dx=some (.xd fs)) ∧
 (∀ b o,s'.heap.get? b=some o->b∉frs outer->(H' b≠none∨∃ u,s.heap.get? b=some u)->B.get? b=some o)/\E (.ref C) d H'
section
variable {X:Cx}{pins:List (Addr×Obj)}{σ:St}{H:Hp}{s:Shared}
theorem sr {B h':Heap} (I:Inv X pins σ H s) (hst:X.stack=X.env::X.outer) (hf:X.env.frame=some X.env.locals) (hex:X.ex=[]) (hB:B.StaysIn h') (hsm:s.heap.UpToSlots h')
  (hk:∀ b o,s.heap.get? b=some o->b∉frs X.stack->(H b≠none∨∃ u,X.s₀.heap.get? b=some u)->B.get? b=some o) :
  Un (frs X.outer) [] X.H₀ H X.s₀.heap h'/\HOk X.prog X.w H h'/\∀ b o,h'.get? b=some o->b∉frs X.outer->(H b≠none∨∃ u,X.s₀.heap.get? b=some u)->B.get? b=some o:=by
 have hfs:frs X.stack=X.env.locals::frs X.outer:=by rw[hst];unfold frs;rw[List.filterMap_cons,hf]
 have old:∀ b u,X.s₀.heap.get? b=some u->b≠X.env.locals:=fun b u e z=>absurd (bB (aB e) (by rw[z];exact I.ok.above)) (eL _)
 have nstk:∀ b,b≠X.env.locals->b∉frs X.outer->b∉frs X.stack:=fun b h1 h2 z=>by rw[hfs] at z;rcases aI.mp z with z | z;exact h1 z;exact h2 z
 have trk:∀ b,H b≠none->b∉frs X.stack:=fun b h1 z=>h1 (I.rZ b z)
 have nx:∀ b:Addr,b∉X.ex:=fun b=>by rw[hex];simp
 have fr:∀ b,b∈frs X.outer->∃ o,s.heap.get? b=some o/\∀ vs,o.data≠.fields vs:=fun b hb=>(I.stack.mem (show b∈frs X.stack by rw[hfs];exact List.mem_cons_of_mem _ hb)).2
 have tkeep:∀ b o,H b≠none->s.heap.get? b=some o->h'.get? b=some o:=fun b o h1 e=>hB b o (hk b o e (trk b h1) (.inl h1))
 have okeep:∀ b o u,X.s₀.heap.get? b=some u->b∉frs X.outer->s.heap.get? b=some o->h'.get? b=some o:=fun b o u e0 h2 e=>hB b o (hk b o e (nstk b (old b u e0) h2) (.inr ⟨u,e0⟩))
 refine⟨⟨fun b o e n hb _=>?_,fun b o e n hb _=>?_,fun b o e n _=>I.base.free b o e n (nx b),fun b o e _=>?_,I.base.tups,I.base.frzs,I.base.tbls⟩,fun a o e=>?_,fun b o e hb hc=>?_⟩
 ·exact okeep b o o e hb (I.base.keep b o e n hb (nx b))
 ·obtain⟨sl,e1⟩:=I.base.slot b o e n hb (nx b)
  obtain⟨o1,e2,hd⟩:=fr b hb
  rw[e1] at e2
  cases e2
  obtain⟨sl',e3⟩:=hsm b _ e1 hd
  exact⟨sl',e3⟩
 ·obtain⟨o1,e1⟩:=I.base.there b o e (nx b)
  by_cases hb:b∈frs X.outer
  ·obtain⟨o2,e2,hd⟩:=fr b hb
   obtain⟨sl',e3⟩:=hsm b _ e2 hd
   exact⟨_,e3⟩
  ·exact⟨o1,okeep b o1 o e hb e1⟩
 ·refine (I.hok a o e).lM (fun c v hc q=>tkeep c v ?_ q) (fun _ q=>q) fun _ _ q=>q
  rcases hc with z | z
  ·rw[z,e];simp
  ·rw[z];simp
 ·rcases hc with h1 | ⟨u,e0⟩
  ·cases q:H b with
   | none=>exact absurd q h1
   | some ob =>
    obtain⟨o1,e1⟩:=zy (I.hok b ob q)
    have:=tkeep b o1 h1 e1
    rw[e] at this
    cases this
    exact hk b o e1 (trk b h1) (.inl h1)
  ·obtain⟨o1,e1⟩:=I.base.there b u e0 (nx b)
   have:=okeep b o1 u e0 hb e1
   rw[e] at this
   cases this
   exact hk b o e1 (nstk b (old b u e0) hb) (.inr ⟨u,e0⟩)
def Dy (X:Cx) (E:St->XK):Prop:=∀ (pins:List (Addr×Obj)) (σ:St) (H:Hp) (s:Shared) (h1:Heap) (e C:Addr) (vs:List Value),Inv X pins σ H s->Heap.MadeExcOf s.heap h1 e (.ref C) vs->E σ (.ref C) none H->X.xe (.ref e) { s with heap:=h1 }
end
section
variable {P:Program}{w:World}{K:PySem.W.Frag}{mg:Str->Option Value}{base:Heap}{N:List Str}{qual:Str}{scope:Scope}{f:Addr}{cd:Value}{A:Around}{outer:List Env}{s:Shared}{H:Hp}{E:XK}
theorem av:Passes (CX1 P w) (ui (CX1 P w) P w K mg base N qual scope f cd A outer s H E) (fun _=>E):=by
 intro pins σ H1 s1 e s' I h
 obtain⟨ea,C,t,B,H',d,rfl,os,bare,un,hok,fl,⟨oe,hoe,hdo⟩,hdx,hkb,hE⟩:=h
 have I':=I.Au (ch:=[]) os un hok bare (fun b z=>absurd z (by simp))
 show wpAny _ _ _ _ _ _
 refine bO (KD.any (E:=fun _ _=>False) (nK _ _) (wpAny_leaves_onW (Q:=fun _ s''=>∃ h',s''={ s' with heap:=h' }/\Heap.FlyingW B outer ea (.ref C) (.ref t) h'/\s'.heap.UpToSlots h') I.ok.frames rfl fl fun h' x1 x2=>⟨h',rfl,x1,x2⟩)) ?_ (fun _ _ z=>False.elim z.1)
 rintro _ s'' ⟨⟨h',rfl,x1,x2⟩,dk⟩
 obtain⟨u1,u2,u3⟩:=sr (B:=B) (h':=h') I' rfl rfl rfl x1.1 x2 (fun b o e1 e2 e3=>hkb b o e1 e2 (e3.elim .inl fun ⟨u,e0⟩=>.inr (I.base.there b u e0 (by show b∉([]:List Addr);simp))))
 obtain⟨oe',hoe',_,hd',hg'⟩:=dk ea oe hoe
 exact⟨ea,C,t,B,H',d,rfl,I'.os,I'.bare,u1,u2,x1,⟨oe',hoe',hdo.dk hd' hg'⟩,hdx,u3,hE⟩
theorem cL:Dy (ui (CX1 P w) P w K mg base N qual scope f cd A outer s H E) (fun _=>E):=by
 intro pins σ H1 s1 h1 e C vs I hx hE
 show wpAny _ _ _ _ _ _
 have hin:∀ env∈(envOfC qual scope s.heap.objs.size f cd::outer),∀ b,env.frame=some b->b∈frs (envOfC qual scope s.heap.objs.size f cd::outer):=fun env he b hb=>mR.mpr ⟨env,he,hb⟩
 have st:(PySem.W.hideAll s1.heap (frs (envOfC qual scope s.heap.objs.size f cd::outer))).StaysIn s1.heap:=fun b o q=>PySem.W.of_hideAll _ q
 have ff:s1.heap.FunFrames (PySem.W.hideAll s1.heap (frs (envOfC qual scope s.heap.objs.size f cd::outer))) (envOfC qual scope s.heap.objs.size f cd::outer):=PySem.W.funFrames_hide I.stack hin
 obtain⟨tt,het,_,_⟩:=hx.there
 refine bO (KD.any (E:=fun _ _=>False) (nK _ _) (wpAny_leaves_madeW (s:={ s1 with heap:=h1 }) (Q:=fun _ s''=>∃ h' t,s''={ s1 with heap:=h' }/\Heap.FlyingW (PySem.W.hideAll s1.heap (frs (envOfC qual scope s.heap.objs.size f cd::outer))) outer e (.ref C) (.ref t) h'/\h1.UpToSlots h') I.ok.frames rfl st ff hx fun h' t x1 _ _ x4=>⟨h',t,rfl,x1,x4⟩)) ?_ (fun _ _ z=>False.elim z.1)
 rintro _ s'' ⟨⟨h',t,rfl,x1,x4⟩,dk⟩
 obtain⟨u1,u2,u3⟩:=sr (h':=h') I rfl rfl rfl x1.1 ((Heap.UpToSlots.of_keeps hx.keeps).trans x4) (fun b o e1 e2 _=>PySem.W.hideAll_get _ e1 e2)
 obtain⟨oe',hoe',_,hd',hg'⟩:=dk e _ het
 exact⟨e,C,t,_,H1,none,rfl,I.os,I.bare,u1,u2,x1,⟨oe',hoe',XD.dk ⟨rfl,_,rfl,rfl⟩ hd' hg'⟩,(fun dx z=>by cases z),u3,hE⟩
end
theorem eT :Passes (CX1 P w) X E0:=fun _ _ _ _ _ _ _ h=>by
 obtain⟨_,_,_,_,_,_,_,_,_,_,_,_,_,_,_,z⟩:=h
 exact z.elim
theorem uD {outer:List Env}{e:Value}{s':Shared} (h:CX1 P w outer H s (fun _ _ _=>False) e s'):False:=by
 obtain⟨_,_,_,_,_,_,_,_,_,_,_,_,_,_,_,z⟩:=h
 exact z
section
variable {P:Program}{w:World}{K:PySem.W.Frag}{mg:Str->Option Value}{base:Heap}
theorem Fun.okX {x qual:Str}{st:Stmt}{f:Addr}{fd:FuncData}{N ps:List Str}{k:Nat} (F:Fun K x qual st f fd) (S:aG N ps (ar st)) (len:∀ vs H Q E,sp vs H Q E->vs.length=ps.length)
  (hbody:∀ (cdv:Value) (A:Around) (outer:List Env) (s:Shared) (H:Hp) (vs:List V) (Q:VK) (E:XK),eP k (A.deeper (envOfC qual (ar st) s.heap.objs.size f cdv))->sp vs H Q E →
   ∃ t,PSs (ui (CX1 P w) P w K mg base N qual (ar st) f cdv A outer s H E) (cA st) t/\t { nx:=fun _ H'=>Q .non H',rt:=Q } (start N vs) H):bJ P w K mg base (CX1 P w) (k+1) f fd ps sp:=by
 obtain⟨oc,od,kV,doc,pm,an,cdv,ct,osl,rfl,lk,hcd⟩:=F.ex
 exact Iq lk hcd S len fun A outer s H vs Q E hr hsp=>hbody cdv A outer s H vs Q E hr hsp
end
theorem Cn {newId:String} (XK:K.In h) (q:PySem.W.excIn K C bmB newId=true) :
  ∃ bm N nm qn bs hd sn sub ab col dd k0 k1 k2 k3 k5 mN,h.get? C=some (excClassObj nm qn C N bs bm hd sn sub ab col dd k0 k1 k2 k3 k5 newId)/\h.Ns N mN/\mN "__init__"=none/\OwnTail h bmB bm:=by
 unfold PySem.W.excIn at q
 split at q
 next dd cd sl ho =>
  split at q
  next C' bm k0 k1 k2 k3 n k5 hm hs =>
   simp only[bI,fq,Bool.not_eq_true'] at q
   obtain⟨⟨⟨⟨⟨e1,e2⟩,e3⟩,e4⟩,e5⟩,e6⟩:=q
   subst e1 e2
   cases cd with
   | mk nm bs mro ns qn hd sn sub ab col del =>
    simp only at hm e3 e5 e6
    subst hm e3
    have z:sl=#[k0,k1,k2,k3,some (.builtin n),k5]:=by
     cases sl with
     | mk l=>simp only at hs;rw[hs]
    subst z
    exact⟨bm,ns,nm,qn,bs,hd,sn,sub,ab,col,dd,k0,k1,k2,k3,k5,_,XK _ _ ho,.of_isNs (PySem.W.isNs_of_in XK e5),PySem.W.nsMap_none_of_in XK e5 e6,PySem.W.tail_of_in XK e4⟩
  next=>cases q
 next=>cases q
def zP (C:Addr) (E:St->XK) (t:TA):TS:=fun _ σ H=>t σ H fun vs H1=>vs.length<=sizeLine/\E σ (.ref C) none H1
theorem DF {C:Addr}{E:St->XK}{t:TA}{D:Ends}{σ:St}{H:Hp}:zP C E t D σ H=t σ H fun vs H1=>vs.length<=sizeLine/\E σ (.ref C) none H1:=propext Iff.rfl
section
variable {X:Cx}
theorem du {E:St->XK}{B newId initId:String}{e₀:Expr}{rest:List Expr}{t:TA}{np cpos pos:Pos} (FB:ExcBaseFacts B newId initId bmB) (hq:PySem.W.excIn X.K C bmB newId=true) (hm:X.mg x=some (.ref C))
  (hrx:Dy X E) (hc:X.calm=true) (ha:PA X (e₀::rest) t) (hg:X.env.kindOf x=some .globalImplicit:=by kernel_rfl) (hd:(x==("__debug__":Str))=false:=by kernel_rfl) (hs:dH (e₀::rest)=true:=by kernel_rfl) :
  PS X (.Raise (some (.Call (.Name x np) (e₀::rest) [] cpos)) none pos) (zP C E t):=by
 intro pins s σ H D I h
 obtain⟨bm,N,nm,qn,bs,hdct,sn,sub,ab,col,dd,k0,k1,k2,k3,k5,mN,g1,g2,g3,g4⟩:=Cn I.ok.mod.kin hq
 have he:=aW (es:=rest) (env:=X.env) (bg hs).1
 refine wpAny_Raise_call_subT (C:=C) (nm:=nm) (q:=qn) (N:=N) (bs:=bs) (bm:=bm) (hdct:=hdct) (sn:=sn) (sub:=sub) (ab:=ab) (col:=col) (dd:=dd) (k0:=k0) (k1:=k1) (k2:=k2) (k3:=k3) (k5:=k5)
  FB (mN:=mN) (g4.hasType FB.hasBase) (I.ok.hd hc) (cY hs) g3 (kM I hg hm ⟨rfl,?_⟩ hd)
 have ha':=ha cpos pins s σ H _ I h
 rw[he] at ha' ⊢
 refine Calls.evalArgs_plain (bO ha' (fun vs s2 h2=>?_) fun _ _ y=>y)
 obtain⟨xs,H2,I2,r,z,q⟩:=h2
 exact⟨rfl,by rw[←r.length];exact z,I2.bk _ _ g1,g2.keeps I2.bk,g4.keeps I2.bk,fun h' e hx=>hrx pins σ H2 s2 h' e C vs I2 hx q⟩
end
end
section
def xb (a:Addr) (c:Value) (d:Option Addr):HO:=.ext fun h=>∃ o,h.get? a=some o/\o.cls=c/\XD o d
theorem GW {c:Value}{o:Obj} (e:h.get? a=some o) (h1:o.cls=c) (h2:XD o d):bM P w H h a (xb a c d) :=
 ⟨⟨o,e,h1,h2⟩,⟨o,e⟩,fun _ _ ⟨o,e,q⟩ k=>⟨o,k o e,q⟩⟩
theorem Ie {l:List Env}{H1 H':Hp}{h1 h' h5 B:Heap} (u:Un (frs l) [] H1 H' h1 h') (hk:∀ b o,h'.get? b=some o->b∉frs l->(H' b≠none∨∃ u,h1.get? b=some u)->B.get? b=some o) (hB:B.StaysIn h5) (hsm:h'.UpToSlots h5)
  (hfr:∀ b∈frs l,∃ o,h'.get? b=some o/\∀ vs,o.data≠.fields vs):Un (frs l) [] H1 H' h1 h5 where
 keep:=fun b o e n hb hx=>hB b o (hk b o (u.keep b o e n hb hx) hb (.inr ⟨o,e⟩))
 slot:=fun b o e n hb hx=>by
  obtain⟨sl,e1⟩:=u.slot b o e n hb hx
  obtain⟨o1,e2,hd⟩:=hfr b hb
  rw[e1] at e2
  cases e2
  obtain⟨sl',e3⟩:=hsm b _ e1 hd
  exact⟨sl',e3⟩
 free:=u.free
 there:=fun b o e hx=>by
  obtain⟨o1,e1⟩:=u.there b o e hx
  by_cases hb:b∈frs l
  ·obtain⟨o2,e2,hd⟩:=hfr b hb
   obtain⟨sl,e3⟩:=hsm b _ e2 hd
   exact⟨_,e3⟩
  ·exact⟨o1,hB b o1 (hk b o1 e1 hb (.inr ⟨o,e⟩))⟩
 tups:=u.tups
 frzs:=u.frzs
 tbls:=u.tbls
theorem Ey {l:List Env}{H':Hp}{h1 h' h5 B:Heap} (hok:HOk P w H' h') (hk:∀ b o,h'.get? b=some o->b∉frs l->(H' b≠none∨∃ u,h1.get? b=some u)->B.get? b=some o) (hB:B.StaysIn h5)
  (hf:∀ b∈frs l,H' b=none):HOk P w H' h5:=fun a o e=>by
 refine (hok a o e).lM (fun c v hc q=>hB c v (hk c v q ?_ (.inl ?_))) (fun _ q=>q) fun _ _ q=>q
 ·intro z
  have:=hf c z
  rcases hc with rfl | hc
  ·rw[e] at this;cases this
  ·rw[hc] at this;cases this
 ·rcases hc with rfl | hc
  ·rw[e];simp
  ·rw[hc];simp
section
variable {X:Cx}{pins:List (Addr×Obj)}{σ:St}{H:Hp}{s:Shared}
theorem Inv.IY {o:HO} (I:Inv X pins σ H s) (hn:H a=none) (h0:X.s₀.heap.get? a=none) (hL:a≠X.env.locals) (hc:∀ x c,X.env.cells.lookup x=some c->c≠a) (hp:∀ p∈X.pn++pins,p.1≠a)
  (ho:bM X.prog X.w (upd H a o) s.heap a o):Inv X pins σ (upd H a o) s where
 ok:=I.ok
 os:=I.os
 bare:=I.bare
 base:=by
  have ne:∀ b u,X.s₀.heap.get? b=some u->b≠a:=fun b u e z=>by rw[z,h0] at e;cases e
  refine⟨I.base.keep,I.base.slot,fun b u e n hx=>by rw[aD (ne b u e)];exact I.base.free b u e n hx,I.base.there,fun b xs q=>?_,fun b ob u q=>?_,fun b ps q=>?_⟩
  ·have:=I.base.tups b xs q
   rw[aD (fun z=>by rw[z,hn] at this;cases this)];exact this
  ·have:=I.base.frzs b ob u q
   rw[aD (fun z=>by rw[z,hn] at this;cases this)];exact this
  ·obtain⟨m,e⟩:=I.base.tbls b ps q
   exact⟨m,by rw[aD (fun z=>by rw[z,hn] at e;cases e)];exact e⟩
 loc:=I.loc
 cell:=I.cell
 free:=by rw[aD (bt hL)];exact I.free
 freeC:=fun x c e=>by rw[aD (hc x c e)];exact I.freeC x c e
 pin:=fun p h=>by
  obtain⟨h1,h2,h3⟩:=I.pin p h
  exact⟨h1,by rw[aD (hp p h)];exact h2,h3⟩
 hok:=fun b u e=>by
  by_cases hb:b=a
  ·subst hb
   rw[a8] at e
   cases e
   exact ho
  ·rw[aD hb] at e
   refine (I.hok b u e).lM (fun _ _ _ q=>q) (fun c q=>?_) fun c xs q=>?_
   ·rw[aD (fun z=>by rw[z,hn] at q;cases q)];exact q
   ·rw[aD (fun z=>by rw[z,hn] at q;cases q)];exact q
 len:=I.len
def Ends.un (D:Ends) (i:Nat):Ends:=⟨fun σ H=>D.nx (σ.set i none) H,D.rt,fun σ H=>D.bk (σ.set i none) H,fun σ H=>D.ct (σ.set i none) H⟩
theorem Inv.LZ {xe:Value->Shared->Prop} (I:Inv X pins σ H s):Inv { X with pn:=X.pn++pins,xe:=xe } [] σ H s :=
 ⟨⟨I.ok.mod,I.ok.kind,I.ok.glob,I.ok.blt,I.ok.above,I.ok.inj,I.ok.has,I.ok.cab,I.ok.hd,I.ok.frames,I.ok.stk,I.ok.exf,I.ok.bs,I.ok.bsz,I.ok.noex,I.ok.exfs,I.ok.qr,I.ok.frf⟩,I.os,I.bare,I.base,I.loc,I.cell,I.free,I.freeC,
  fun p h=>I.pin p (by simpa using h),I.hok,I.len⟩
theorem Inv.tH {pins':List (Addr×Obj)} (I:Inv { X with pn:=X.pn++pins,xe:=xe } pins' σ H s):Inv X pins σ H s :=
 ⟨⟨I.ok.mod,I.ok.kind,I.ok.glob,I.ok.blt,I.ok.above,I.ok.inj,I.ok.has,I.ok.cab,I.ok.hd,I.ok.frames,I.ok.stk,I.ok.exf,I.ok.bs,I.ok.bsz,I.ok.noex,I.ok.exfs,I.ok.qr,I.ok.frf⟩,I.os,I.bare,I.base,I.loc,I.cell,I.free,I.freeC,
  fun p h=>I.pin p (ky _ h),I.hok,I.len⟩
theorem Inv.EI {e:Option Value} (I:Inv X pins σ H s):Inv { X with A:=X.A.mark e,calm:=false,xe:=fun _ _=>False } pins σ H s :=
 ⟨⟨I.ok.mod,I.ok.kind,I.ok.glob,I.ok.blt,I.ok.above,I.ok.inj,I.ok.has,I.ok.cab,(fun z=>by cases z),I.ok.frames,I.ok.stk,I.ok.exf,I.ok.bs,I.ok.bsz,I.ok.noex,I.ok.exfs,I.ok.qr,I.ok.frf⟩,I.os,I.bare,I.base,I.loc,I.cell,I.free,I.freeC,
  I.pin,I.hok,I.len⟩
theorem Inv.markFrom {e:Option Value} (ok:X.Ok) (I:Inv { X with A:=X.A.mark e,calm:=false,xe:=xe } pins σ H s):Inv X pins σ H s :=
 ⟨ok,I.os,I.bare,I.base,I.loc,I.cell,I.free,I.freeC,I.pin,I.hok,I.len⟩
end
end
section
structure IZ (K:PySem.W.Frag) (C:Addr):Prop where
 ga:PySem.W.findIn K (.ref C) "__getattribute__"=some (some (.builtin "BaseException.__getattribute__"))
 gn:PySem.W.findIn K (.ref C) "__getattr__"=some none
 sb:PySem.W.subIn K (.ref C) (.type "BaseException")=some true
 cl:(PySem.W.clsIn K C).isSome=true
 ha:PySem.W.findIn K (.ref C) "__class__"=some (some (.builtin "object.__class__"))
 hn:PySem.W.specialIn K (.builtin "object.__class__") "__get__"=some (some (.builtin "getset_descriptor.__get__"))
 htk:PySem.W.takesIn K (.builtin "object.__class__")=some true
 hm:PySem.W.mroIn K C (.type "object")=some true
def TyX (K:PySem.W.Frag) (H:Hp) (x:V) (t:Value):Prop:=nF K H x t∨∃ a C,x=.ref a/\t=.ref C/\H a=some (xb a (.ref C) none)/\IZ K C
def Lo (K:PySem.W.Frag):List V->Hp->VK->Prop:=fun vs H Q=>match vs with
 | [x,.ty n]=>∃ t b,TyX K H x t/\PySem.W.kitOne K t (.type n)=some b/\Q (.bl b) H
 | [x,.ref c]=>∃ t b,TyX K H x t/\(PySem.W.kitOne K t (.ref c)=some b∨∃ (a C:Addr) (cs:List Addr),x=.ref a/\t=.ref C/\H a=some (xb a (.ref C) none)/\IZ K C/\H c=some (.tup (cs.map V.ref))/\PySem.W.kitAny K t (cs.map Value.ref)=some b)/\Q (.bl b) H
 | _=>False
def KO (K:PySem.W.Frag) (C:Addr):Bool :=
 PySem.W.findIn K (.ref C) "__getattribute__"==some (some (.builtin "BaseException.__getattribute__"))&&PySem.W.findIn K (.ref C) "__getattr__"==some none&&PySem.W.subIn K (.ref C) (.type "BaseException")==some true&&(PySem.W.clsIn K C).isSome&&PySem.W.findIn K (.ref C) "__class__"==some (some (.builtin "object.__class__")) &&
 PySem.W.specialIn K (.builtin "object.__class__") "__get__"==some (some (.builtin "getset_descriptor.__get__"))&&PySem.W.takesIn K (.builtin "object.__class__")==some true&&PySem.W.mroIn K C (.type "object")==some true
def Ed (K:PySem.W.Frag) (b:Addr) (cs:List Addr):Bool :=
 cs.all fun c=>KO K c&&PySem.W.exmOne K (.ref c) (.ref b)==some true&&PySem.W.kitOne K (.ref c) (.type "ValueError")==some true&&PySem.W.kitOne K (.ref c) (.ref b)==some true &&
  cs.all fun d=>PySem.W.kitOne K (.ref c) (.ref d)==some (c==d)
structure Err (K:PySem.W.Frag) (b:Addr) (cs:List Addr) (c:Addr):Prop where
 ex:IZ K c
 em:PySem.W.exmOne K (.ref c) (.ref b)=some true
 ve:PySem.W.kitOne K (.ref c) (.type "ValueError")=some true
 ba:PySem.W.kitOne K (.ref c) (.ref b)=some true
 kd:∀ d∈cs,PySem.W.kitOne K (.ref c) (.ref d)=some (c==d)
theorem Err.any {K:PySem.W.Frag}{b:Addr}{cs:List Addr}{c:Addr} (E:Err K b cs c):∀ {ds:List Addr},(∀ d∈ds,d∈cs)->PySem.W.kitAny K (.ref c) (ds.map Value.ref)=some (ds.contains c)
 | [],_=>rfl
 | d::r,h=>by
  show (match PySem.W.kitOne K (.ref c) (.ref d) with | some true=>some true | some false=>PySem.W.kitAny K (.ref c) (r.map Value.ref) | none=>none)=_
  rw[E.kd d (h d List.mem_cons_self),Err.any E (fun x hx=>h x (List.mem_cons_of_mem _ hx)),List.contains_cons]
  cases (c==d)<;>rfl
theorem eI {v:V} (h:∃ u,X.mg x=some u/\RelV v u) (hg:X.env.kindOf x=some .globalImplicit:=by kernel_rfl) (hd:(x==("__debug__":Str))=false:=by kernel_rfl):PE X (.Name x pos) (tC v):=by
 obtain⟨u,h1,h2⟩:=h
 exact Hv hg h1 h2 hd
end
section
def up (t:TE):TE:=fun σ H R=>∃ R',t σ H R'/\∀ x H,R' x H->R x H
def upA (t:TA):TA:=fun σ H R=>∃ R',t σ H R'/\∀ x H,R' x H->R x H
theorem PE.up {X:Cx}{e:Expr}{t:TE} (h:PE X e t):PE X e (up t):=fun pins s σ H Q I ⟨R',h1,h2⟩=>thn (h pins s σ H R' I h1) fun _ _ ⟨v,H',I',r,q⟩=>⟨v,H',I',r,h2 v H' q⟩
theorem PA.up {t:TA} (h:PA X es t):PA X es (upA t):=fun pos pins s σ H Q I ⟨R',h1,h2⟩=>thn (h pos pins s σ H R' I h1) fun _ _ ⟨v,H',I',r,q⟩=>⟨v,H',I',r,h2 v H' q⟩
def Fu (K:PySem.W.Frag) (f:Str) (x:V) (H:Hp) (Q:VK):Prop:=match x with
 | .ref a=>∃ C dx fs v,H a=some (.ins C dx fs)/\Cls K C/\gm K C f/\fs.lookup f=some v/\Q v H
 | _=>False
def FO (K:PySem.W.Frag) (ta:TE) (f:Str):TE:=fun σ H Q=>ta σ H fun x H1=>Fu K f x H1 Q
theorem Jg {K:PySem.W.Frag}{ta:TE}{f:Str}{σ:St}{H:Hp}{Q:VK}:FO K ta f σ H Q=ta σ H fun x H1=>Fu K f x H1 Q:=propext Iff.rfl
def F4 (K:PySem.W.Frag) (f:Str) (y x:V) (H:Hp) (Q:Hp->Prop):Prop:=match x with
 | .ref a=>∃ C dx fs,H a=some (.ins C dx fs)/\Cls K C/\gm K C f/\fs.length<1000/\Q (upd H a (.ins C dx (lL f y fs)))
 | _=>False
def II (K:PySem.W.Frag) (ta tv:TE) (f:Str):TS:=fun D σ H=>tv σ H fun y H1=>ta σ H1 fun x H2=>F4 K f y x H2 fun H3=>D.nx σ H3
theorem GA {K:PySem.W.Frag}{ta tv:TE}{f:Str}{D:Ends}{σ:St}{H:Hp}:II K ta tv f D σ H=tv σ H fun y H1=>ta σ H1 fun x H2=>F4 K f y x H2 fun H3=>D.nx σ H3:=propext Iff.rfl
section
variable {X:Cx}{K:PySem.W.Frag}
theorem cj {ta:TE} (hK:X.K=K) (he:PE X e ta) (hb:attributeBase e f X.env (eval e X.env)=eval e X.env:=by kernel_rfl):PE X (.Attribute e f pos) (FO K ta f):=by
 subst hK
 intro pins s σ H Q I h
 refine Kd (ta:=up ta) he.up hb pins s σ H Q I ⟨_,h,fun x H1 hx=>?_⟩
 cases x with
 | ref a=>obtain⟨C,dx,fs,v,h1,h2,h3,h4,h5⟩:=hx;exact⟨a,C,dx,fs,v,rfl,h1,h2,h3,h4,h5⟩
 | _=>exact False.elim hx
theorem nv {o value:Expr}{ta tv:TE}{pos pos':Pos} (hK:X.K=K) (ha:PE X o ta) (hv:PE X value tv) (hs:swapsWith value (some (.Attribute o f pos')) pos.line X.env=pure false:=by kernel_rfl) :
  PS X (.Assign [.Attribute o f pos'] value pos) (II K ta tv f):=by
 subst hK
 intro pins s σ H D I h
 refine Kl (ta:=up ta) (tv:=up tv) ha.up hv.up hs pins s σ H D I ⟨_,h,fun y H1 hy=>⟨_,hy,fun x H2 hx=>?_⟩⟩
 cases x with
 | ref a=>obtain⟨C,dx,fs,h1,h2,h3,h4,h5⟩:=hx;exact⟨a,C,dx,fs,rfl,h1,h2,h3,h4,h5⟩
 | _=>exact False.elim hx
end
structure Mtd (P:Program) (w:World) (K:PySem.W.Frag) (mg:Str->Option Value) (base:Heap) (CX:CXT) (C:Addr) (m:Str) (k:Nat) (ps:List Str) (sp:Sp):Prop where
 ex:∃ (f:Addr) (fd:FuncData),bJ P w K mg base CX k f fd ps sp/\Meth K C m f/\Binds K fd ps []
 cl:Cls K C
def zM (C:Addr) (m:Str) (x:V) (H:Hp) (Q:Hp->Prop):Prop:=match x with
 | .ref a=>∃ dx fs,H a=some (.ins C dx fs)/\fs.lookup m=none/\Q H
 | _=>False
def wA (C:Addr) (m:Str) (sp:Sp) (E:St->XK) (ta:TE) (t:TA):TE:=fun σ H Q=>ta σ H fun x H1=>zM C m x H1 fun H1=>t σ H1 fun vs H2=>sp (x::vs) H2 Q (E σ)
theorem Gv {C:Addr}{m:Str}{sp:Sp}{E:St->XK}{ta:TE}{t:TA}{σ:St}{H:Hp}{Q:VK}:wA C m sp E ta t σ H Q=ta σ H fun x H1=>zM C m x H1 fun H1=>t σ H1 fun vs H2=>sp (x::vs) H2 Q (E σ):=propext Iff.rfl
section
variable {X:Cx}{CX:CXT}{E:St->XK}
theorem dr {pl:Sem Bool}{k:Nat}{o e:Expr}{ta:TE}{t:TA}{apos pos:Pos} (M:Mtd X.prog X.w X.K X.mg X.base CX C m k ps sp) (hx:Passes CX X E) (hr:eP k X.A) (he:PE X o ta) (ha:PA X (e::es) t)
  (hs:dH (e::es)=true:=by kernel_rfl)
  (ht:eval (.Call (.Attribute o m apos) (e::es) [] pos) X.env=(do
   let ov ←eval o X.env
   standAt apos.atName
   let (f,first) ←holding [ov] (getMethod ov m pl)
   callWith pos f first (backTo pos (starEach (e::es) X.env)) (backToKw pos (keywordEach [] X.env))):=by rfl) :
  PE X (.Call (.Attribute o m apos) (e::es) [] pos) (wA C m sp E ta t):=by
 obtain⟨f,fd,F,hm,hb⟩:=M.ex
 intro pins s σ H Q I h
 refine Hy (ta:=up ta) (t:=t) he.up M.cl hm F hr hb .nil hx ha (aW (bg hs).1) (cY (bg hs).2) ht pins s σ H Q I ⟨_,h,fun x H1 q=>?_⟩
 cases x with
 | ref a =>
  obtain⟨dx,fs,h1,h2,h3⟩:=q
  refine⟨a,dx,fs,rfl,h1,h2,?_⟩
  simp only[fb]
  exact h3
 | _=>exact False.elim q
theorem cE {pl:Sem Bool}{k:Nat}{o:Expr}{ta:TE}{apos pos:Pos} (M:Mtd X.prog X.w X.K X.mg X.base CX C m k ps sp) (hx:Passes CX X E) (hr:eP k X.A) (he:PE X o ta)
  (ht:eval (.Call (.Attribute o m apos) [] [] pos) X.env=(do
   let ov ←eval o X.env
   standAt apos.atName
   let (f,first) ←holding [ov] (getMethod ov m pl)
   callWith pos f first (backTo pos (starEach [] X.env)) (backToKw pos (keywordEach [] X.env))):=by rfl) :
  PE X (.Call (.Attribute o m apos) [] [] pos) (wA C m sp E ta Ae):=by
 obtain⟨f,fd,F,hm,hb⟩:=M.ex
 intro pins s σ H Q I h
 refine Fj (ta:=up ta) he.up M.cl hm F hr hb .nil hx ht pins s σ H Q I ⟨_,h,fun x H1 q=>?_⟩
 cases x with
 | ref a =>
  obtain⟨dx,fs,h1,h2,h3⟩:=q
  exact⟨a,dx,fs,rfl,h1,h2,h3⟩
 | _=>exact False.elim q
end
structure Mak (P:Program) (w:World) (K:PySem.W.Frag) (mg:Str->Option Value) (base:Heap) (CX:CXT) (C:Addr) (x:Str) (k:Nat) (ps:List Str) (sp:Sp):Prop where
 ex:∃ (f:Addr) (fd:FuncData),bJ P w K mg base CX k f fd ps sp/\Mk K C f/\Binds K fd ps []
 mg:mg x=some (.ref C)
def FP (C:Addr) (sp:Sp) (E:St->XK) (t:TA):TE:=fun σ H Q=>t σ H fun vs H1=>∀ x dx H2,H1 x=none->H1 dx=none->dx≠x->aw H1 H2->H2 x=some (.ins C dx [])->H2 dx=some (.own x)->sp (.ref x::vs) H2 (fun v H3=>v=.non/\Q (.ref x) H3) (E σ)
theorem Gu {C:Addr}{sp:Sp}{E:St->XK}{t:TA}{σ:St}{H:Hp}{Q:VK}:FP C sp E t σ H Q=t σ H fun vs H1=>∀ x dx H2,H1 x=none->H1 dx=none->dx≠x->aw H1 H2->H2 x=some (.ins C dx [])->H2 dx=some (.own x)->sp (.ref x::vs) H2 (fun v H3=>v=.non/\Q (.ref x) H3) (E σ):=propext Iff.rfl
section
variable {X:Cx}{CX:CXT}{E:St->XK}
theorem xN {k:Nat}{t:TA}{p pos:Pos} (M:Mak X.prog X.w X.K X.mg X.base CX C x k ps sp) (hx:Passes CX X E) (hr:eP (k+1) X.A) (ha:PA X (e::es) t)
  (hg:X.env.kindOf x=some .globalImplicit:=by kernel_rfl) (hd:(x==("__debug__":Str))=false:=by kernel_rfl) (hs:dH (e::es)=true:=by kernel_rfl) :
  PE X (.Call (.Name x p) (e::es) [] pos) (FP C sp E t):=by
 obtain⟨f,fd,F,hm,hb⟩:=M.ex
 intro pins s σ H Q I h
 refine Hx (t:=upA t) hm F hr hg M.mg hb .nil hx ha.up hd (aW (bg hs).1) (cY (bg hs).2) pins s σ H Q I ⟨_,h,fun vs H1 q x dx h1 h2 h3=>?_⟩
 simp only[fb]
 refine q x dx _ h1 h2 h3 ((dv h2).bZ h1) a8 ?_
 rw[aD h3,a8]
end
end
section
section
variable {prog:Program}{w:World}{A:Around}{E:Value->Shared->Prop}
end
theorem DA {t:TG}{u:TGs}{v:V}{r:List V}{σ:St}{H:Hp}{Q:St->Hp->Prop}:qV t u (v::r) σ H Q=t v σ H fun σ' H'=>u r σ' H' Q:=propext ⟨fun ⟨_,_,e,h⟩=>by cases e;exact h,fun h=>⟨v,r,rfl,h⟩⟩
theorem Gn {σ:St}{H:Hp}{Q:St->Hp->Prop}:Eo [] σ H Q=Q σ H:=propext ⟨fun h=>h.2,fun h=>⟨rfl,h⟩⟩
def lO (l:List Nat) (lo hi:Option Int):List Nat:=(l.drop (HT.sIx l.length 0 lo)).take (HT.sIx l.length l.length hi-HT.sIx l.length 0 lo)
theorem wK (l:List Nat) (lo hi:Option Int):(lO l lo hi).length<=l.length:=by
 unfold lO
 rw[bw,bK]
 omega
theorem zF (l:List α) (a k:Nat):((List.range k).map fun j=>a+j).filterMap (l[·]?)=(l.drop a).take k:=by
 induction k with
 | zero=>simp
 | succ k ih =>
  rw[kz,List.map_append,List.filterMap_append,ih,List.take_succ]
  congr 1
  simp only[aR,i9,List.filterMap_cons,List.filterMap_nil,i5]
  cases l[a+k]?<;>rfl
def gw:Option Int->Tok->Option (Int×Tok)
 | some i,t=>some (i,t)
 | none,_=>none
def Aw (n d:Nat):Option Int->Int
 | none=>d
 | some i=>max 0 (min (if i<0 then i+(n:Int) else i) (n:Int))
theorem xY (n d:Nat) (o:Option Int):Aw n d o=((HT.sIx n d o:Nat):Int):=by
 cases o with
 | none=>rfl
 | some v =>
  show max 0 (min (if v<0 then v+(n:Int) else v) (n:Int))=((if v<0 then (v+(n:Int)).toNat else min v.toNat n:Nat):Int)
  by_cases h:v<0
  ·rw[if_pos h,if_pos h];omega
  ·rw[if_neg h,if_neg h];omega
theorem vB (lo hi:Option Int) (n:Nat):Builtin.Str.strSliceIndices lo hi 1 n=sliceRange (Aw n 0 lo) (Aw n n hi) 1:=by
 unfold Builtin.Str.strSliceIndices Aw
 cases lo<;>cases hi<;>simp
theorem range_one (a b:Nat):sliceRange (a:Int) (b:Int) 1=(List.range (b-a)).map fun j=>a+j:=by
 unfold sliceRange
 have e3:(if (1:Int)>0 then (if (a:Int)<(b:Int) then ((b:Int)-(a:Int)+1-1)/1 else 0) else (if (a:Int)>(b:Int) then ((a:Int)-(b:Int)-1-1)/(-1) else 0)).toNat=b-a:=by
  rw[if_pos (by decide)]
  split<;>omega
 show ((List.range (if (1:Int)>0 then (if (a:Int)<(b:Int) then ((b:Int)-(a:Int)+1-1)/1 else 0) else (if (a:Int)>(b:Int) then ((a:Int)-(b:Int)-1-1)/(-1) else 0)).toNat).map fun (k:Nat)=>((a:Int)+1*(k:Int)).toNat)=_
 rw[e3]
 exact i8 fun k _=>by omega
theorem oU (x:Str) (lo hi:Option Int) (t u:Tok):slicePicked x (gw lo t) (gw hi u) none=(List.range (HT.sIx x.length x.length hi-HT.sIx x.length 0 lo)).map fun j=>HT.sIx x.length 0 lo+j:=by
 unfold slicePicked
 have e1:(gw lo t).map (·.1)=lo:=by cases lo<;>rfl
 have e2:(gw hi u).map (·.1)=hi:=by cases hi<;>rfl
 rw[e1,e2]
 show Builtin.Str.strSliceIndices lo hi 1 x.length=_
 rw[vB,xY,xY,range_one]
theorem zG (x:Str) (lo hi:Option Int) (t u:Tok):(slicePicked x (gw lo t) (gw hi u) none).filterMap (x.cps[·]?)=lO x.cps.toList lo hi:=by
 have e5:(fun i:Nat=>x.cps[i]?)=fun i:Nat=>x.cps.toList[i]?:=by funext i;rw[hZ]
 rw[oU,e5,zF]
 unfold lO
 rw[←dg]
theorem HY :SlR X (fun x lo hi H Q=>∃ z,x=.str z/\z.length<=sizeLine/\Q (.str (tx (lO z.cps.toList lo hi))) H):=by
 intro pins s σ H x v vl vu lo hi sl Q I rx hs pl pu h
 obtain⟨z,rfl,hz,q⟩:=h
 obtain⟨t,rfl⟩:=rx
 refine⟨"str",_,F.slot_str_getitem.lookup,typeIs_str s z t,?_⟩
 have h1:∃ tl,vl=partValue (gw lo tl):=by cases pl with | none=>exact⟨0,rfl⟩ | int i t=>exact⟨t,rfl⟩
 have h2:∃ tu,vu=partValue (gw hi tu):=by cases pu with | none=>exact⟨0,rfl⟩ | int i t=>exact⟨t,rfl⟩
 obtain⟨tl,rfl⟩:=h1
 obtain⟨tu,rfl⟩:=h2
 refine wpAny_getItem_str_slice (l:=gw lo tl) (u:=gw hi tu) (st:=none) hs rfl ?_
 have ec:=zG z lo hi tl tu
 have key:tx (lO z.cps.toList lo hi)=⟨((slicePicked z (gw lo tl) (gw hi tu) none).filterMap (z.cps[·]?)).toArray⟩:=by rw[ec];rfl
 unfold sliceMade
 split
 next hh =>
  have hl:(slicePicked z (gw lo tl) (gw hi tu) none).length=z.length:=by simpa using hh
  rw[oU,List.length_map,List.length_range] at hl
  have b1:=HT.FE z.length 0 (aT _) lo
  have b2:=HT.FE z.length z.length (ak _) hi
  have e:tx (lO z.cps.toList lo hi)=z:=by
   unfold lO
   rw[←dg,hl]
   by_cases hz0:z.length=0
   ·have:z.cps.toList=[]:=by rw[←mQ,←dg];exact hz0
    rw[this]
    have:=m7 z
    rw[‹z.cps.toList=[]›] at this
    simpa using this
   ·rw[show HT.sIx z.length 0 lo=0 by omega,List.drop_zero,fh (by rw[←dg];exact ak _)]
    exact m7 z
  rw[e] at q
  exact⟨.str z,H,I,⟨t,rfl⟩,q⟩
 next =>
  rw[←key]
  refine⟨?_,.str _,H,I.tok _,⟨_,rfl⟩,q⟩
  rw[bj]
  have:=wK z.cps.toList lo hi
  rw[←dg] at this
  omega
def HG (K:PySem.W.Frag):V->Option Int->Option Int->Hp->VK->Prop:=fun x lo hi H Q=>match x with
 | .ref a=>∃ xs,SqL K H a xs/\nw H (.lst (lP xs lo hi)) Q
 | .str z=>z.length<=sizeLine/\Q (.str (tx (lO z.cps.toList lo hi))) H
 | _=>False
theorem Mn :SlR X (HG X.K):=by
 intro pins s σ H x v vl vu lo hi sl Q I rx hs pl pu h
 cases x with
 | ref a =>
  obtain⟨xs,h1,h2⟩:=h
  exact HX pins s σ H _ v vl vu lo hi sl Q I rx hs pl pu ⟨a,xs,rfl,h1,h2.go⟩
 | str z=>exact HY pins s σ H _ v vl vu lo hi sl Q I rx hs pl pu ⟨z,rfl,h.1,h.2⟩
 | _=>exact False.elim h
theorem iu (hK:X.K=K):SlR X (HG K):=hK ▸ Mn
end
section
def fw (x:Key) (l:List Key):Bool:=l.any fun y=>decide (y=x)
theorem jc {x:Key}{l:List Key}:fw x l=true↔x∈l:=by
 unfold fw
 rw[List.any_eq_true]
 exact⟨fun ⟨y,h,e⟩=>iD e ▸ h,fun h=>⟨x,h,aq rfl⟩⟩
theorem uP (x y:Key) (l:List Key):fw x (l++[y])=(fw x l||decide (y=x)):=by
 unfold fw
 rw[List.any_append];simp
def bT (val:Nat->Key):Nat->List Key
 | 0=>[]
 | i+1=>if fw (val i) (bT val i)=true then bT val i else bT val i++[val i]
theorem lT (val:Nat->Key):∀ i,(bT val i).length<=i
 | 0=>ak _
 | i+1=>by
  have ih:=lT val i
  unfold bT
  split
  ·omega
  ·rw[List.length_append,c8];omega
theorem ye {S S':Key->Bool}{n n':Nat} (x:h.SetOf (aX P w) a S n) (e:∀ k,S k=S' k) (en:n=n'):h.SetOf (aX P w) a S' n':=by
 have z:S=S':=funext e
 subst z;subst en;exact x
section
variable {prog:Program}{w:World}{A:Around}{R:Result->Shared->Prop}{c:Addr}{fp wr:List Addr}{G:Array GenState->Array GenState->Prop}{n:Nat}{Pv:Nat->Value->Prop}{Sv:Nat->Shared->Prop}
theorem yp (W:WalksS prog w A.in1 c fp wr G n Pv Sv) (a:Addr) (na:a∉fp) (val:Nat->Key) (hv:∀ i v,Pv i v->jb (val i) v=true/\v.scannable=true) (hb:n+1<scanBound) :
  ∀ (k i:Nat) (s:Shared),n-i=k->i<=n->Sv i s->s.heap.SetOf (aX prog w) a (fun x=>fw x (bT val i)) (bT val i).length →
   (∀ s',Moved (a::wr) G s s'->s'.heap.SetOf (aX prog w) a (fun x=>fw x (bT val n)) (bT val n).length->R (.ok (.ret .none)) s') →
   codeAny (model prog w) A (.builtin "set.update.loop" ⟨[.ref a,.ref c],[]⟩) R s:=by
 have nw':a∉wr:=fun z=>na (W.sub _ z)
 have sb:∀ b∈wr,b∈a::wr:=fun b h=>List.mem_cons_of_mem _ h
 have lM:∀ {s s':Shared}{S:Key->Bool}{m:Nat},Moved wr G s s'->s.heap.SetOf (aX prog w) a S m->s'.heap.SetOf (aX prog w) a S m:=fun mv x=>by
  obtain⟨o,es,ep,t,ho,r⟩:=x
  exact⟨o,es,ep,t,mv.heap a _ nw' ho,r⟩
 intro k
 induction k with
 | zero =>
  intro i s hk hi st x q
  have e:i=n:=by omega
  subst e
  refine ft pW ?_
  rw[oy k8 _]
  show wpAny _ A.in1 (pyNext (.ref c) >>= _) _ _ s
  refine aa (W.done s _ _ st fun s' mv=>?_)
  exact ah (q s' (mv.mono sb) (lM mv x))
 | succ k ih =>
  intro i s hk hi st x q
  have lt:i<n:=by omega
  refine ft pW ?_
  rw[oy k8 _]
  show wpAny _ A.in1 (pyNext (.ref c) >>= _) _ _ s
  refine aa (W.item i s _ _ lt st fun v s' pv st' mv=>?_)
  obtain⟨hk1,hk2⟩:=hv i v pv
  have x':=lM mv x
  show wpAny _ A.in1 (holding [v] (setAdd a v) >>= _) _ _ s'
  refine aa (dE ?_)
  unfold setAdd
  refine dE ?_
  refine aa ((aX prog w).pyHash (k:=val i) hk1 ?_)
  have room:(bT val i).length+1<scanBound:=by have:=lT val i;omega
  refine wpAny_setAddHashed_of (knd:=aX prog w) (s:={ s' with toks:=s'.toks+1 }) hk1 hk2 x' room fun g sg xg=>?_
  have x2:g.SetOf (aX prog w) a (fun y=>fw y (bT val (i+1))) (bT val (i+1)).length:=by
   refine ye xg (fun y=>?_) ?_
   ·show (fw y (bT val i)||decide (y=val i))=fw y (if fw (val i) (bT val i)=true then bT val i else bT val i++[val i])
    by_cases hc:fw (val i) (bT val i)=true
    ·rw[if_pos hc]
     by_cases e:y=val i
     ·subst e;rw[hc,Bool.true_or]
     ·rw[decide_eq_false e,Bool.or_false]
    ·rw[if_neg hc,uP]
     congr 1
     by_cases e:y=val i
     ·rw[aq e,aq e.symm]
     ·rw[decide_eq_false e,decide_eq_false (bt e)]
   ·show (if fw (val i) (bT val i)=true then (bT val i).length else (bT val i).length+1)=(if fw (val i) (bT val i)=true then bT val i else bT val i++[val i]).length
    by_cases hc:fw (val i) (bT val i)=true
    ·rw[if_pos hc,if_pos hc]
    ·rw[if_neg hc,if_neg hc,List.length_append];rfl
  refine ah ⟨kA k8 _,ih (i+1) _ (by omega) lt (W.frame _ s' _ _ st' (fN _) fun b hb o e=>?_) x2 fun s'' mv2 x3=>?_⟩
  ·rw[sg.2 b (fun z:b=a=>na (by rw[←z];exact hb))];exact e
  ·refine q s'' (Moved.trans W.gtrans ((mv.mono sb).then_heap (fN _) fun b o hb e=>?_) mv2) x3
   rw[sg.2 b (fun z:b=a=>hb (by rw[z];exact List.mem_cons_self))];exact e
end
def jU (z:Str) (i:Nat):Key:=Sum.inr ⟨#[z.cps.toList.getD i 0]⟩
theorem sub_str_set:isSubtype (.type "str") (.type "set")=pure false:=by rw[isSubtype_type];kernel_rfl
theorem ua:isSubtype (.type "str") (.type "frozenset")=pure false:=by rw[isSubtype_type];kernel_rfl
set_option maxRecDepth 100000 in
set_option maxHeartbeats 4000000 in
theorem yf {prog:Program}{w:World}{E:Value->Shared->Prop}{s:Shared}{z:Str}{t:Tok}{Q:Value->Shared->Prop} (hh:A.handled=none) (hb:z.cps.size+1<scanBound)
  (q:∀ (g:Heap) (tk:Nat),g.SetOf (aX prog w) s.heap.objs.size (fun x=>fw x (bT (jU z) z.cps.size)) (bT (jU z) z.cps.size).length->(∀ b o,b<s.heap.objs.size->s.heap.get? b=some o->g.get? b=some o) →
   Q (.ref s.heap.objs.size) { s with heap:=g,toks:=tk }):wpAny (model prog w) A (call (.type "set") [.str z t]) Q E s:=by
 obtain⟨c,tl,hmro⟩:=dN.mro
 have hmade:=dN.made
 have hsub:=dN.sub
 refine iE (codeAny_of_tree ?_)
 show wpAny _ _ (callAny (.type "set") _) _ _ _
 refine ah ⟨Code.quiet_builtin _ (by decide +kernel),ft F.entry_type_call ?_⟩
 rw[Around.under_plain (weight_type_call_type "set" [.str z t] []) rfl]
 have h1:=dN.notType
 have h2:=dN.canCreate
 have hct:=F.typeCall_set_1 (.str z t)
 repeat (any_goals (first | assumption | wp_step))
 refine fR (code_set_new_1 (.str z t) (E:=E) (Q₁:=fun ob s1=>∃ led:Bool,ob=.ref s.heap.objs.size/\s1={ s with heap:=s.heap.push { cls:=.type "set",dict:=none,data:=.set #[] 0 (.fresh 0 0 led) } }) fun led=>⟨led,rfl,rfl⟩) fun r s1 hr=>?_
 cases r with
 | error e=>exact hr
 | ok fl =>
  cases fl with
  | ret ob =>
   obtain⟨led,rfl,rfl⟩:=hr
   generalize hg1:s.heap.push { cls:=.type "set",dict:=none,data:=.set #[] 0 (.fresh 0 0 led) }=g1
   have hS:g1.get? s.heap.objs.size=some { cls:=.type "set",dict:=none,data:=.set #[] 0 (.fresh 0 0 led) }:=by rw[←hg1];exact aZ _ rfl
   have hsz:g1.objs.size=s.heap.objs.size+1:=by rw[←hg1,iw]
   have hkp:∀ b o,s.heap.get? b=some o->g1.get? b=some o:=fun b o e=>by rw[←hg1];exact az _ e
   have hT:Shared.TypeIs { s with heap:=g1 } (.ref s.heap.objs.size) "set":=⟨_,hS,rfl⟩
   have hli:=dN.init.lookup
   have hbi:=dN.init.bind (.ref s.heap.objs.size)
   repeat (any_goals (first | assumption | wp_step))
   refine fR (codeAny_call_builtin (R:=wants (fun r s2=>r=.none/\∃ g tk,s2={ s with heap:=g,toks:=tk }/\g.SetOf (aX prog w) s.heap.objs.size (fun x=>fw x (bT (jU z) z.cps.size)) (bT (jU z) z.cps.size).length ∧
     (∀ b o,b<s.heap.objs.size->s.heap.get? b=some o->g.get? b=some o)) E) dN.init.plain F.entry_set_init (check_set_init_1 hT ?_)) fun r2 s2 hr2=>?_
   ·have k1:=sub_str_set
    have k2:=ua
    have k3:(Value.type "str"==Value.type "dict")=false:=by decide
    have hh3:A.in1.in1.in1.handled=none:=by simp [hh]
    have hval:∀ i v,SignAt z i v->jb (jU z i) v=true/\v.scannable=true:=by
     rintro i v ⟨ch,u,e,rfl⟩
     refine⟨?_,rfl⟩
     have e2:z.cps.toList.getD i 0=ch:=by rw[List.getD_eq_getElem?_getD,hZ,e];rfl
     unfold jU
     rw[e2]
     exact nj _ _
    have fin:∀ (g2:Heap),(∀ b o,g1.get? b=some o->g2.get? b=some o)->∀ s',Moved (s.heap.objs.size::[g1.objs.size]) (fun a b=>b=a) { s with heap:=g2 } s' →
      s'.heap.SetOf (aX prog w) s.heap.objs.size (fun x=>fw x (bT (jU z) z.cps.size)) (bT (jU z) z.cps.size).length →
      ∃ g tk,s'={ s with heap:=g,toks:=tk }/\g.SetOf (aX prog w) s.heap.objs.size (fun x=>fw x (bT (jU z) z.cps.size)) (bT (jU z) z.cps.size).length/\(∀ b o,b<s.heap.objs.size->s.heap.get? b=some o->g.get? b=some o):=by
     intro g2 k4 s' mv x
     obtain⟨g,ge,d,tk,os⟩:=s'
     have eg:ge=s.gens:=mv.gens
     have ed:d=s.drawn:=mv.drawn
     have eo:os=s.os:=mv.os
     subst eg;subst ed;subst eo
     refine⟨g,tk,rfl,x,fun b o hb e=>mv.heap b o ?_ (k4 b o (hkp b o e))⟩
     simp only[aI,dy,dD,not_or]
     rw[hsz]
     exact⟨aS hb,aS (fj hb)⟩
    have start:∀ g2:Heap,(∀ b o,g1.get? b=some o->g2.get? b=some o)->g2.SetOf (aX prog w) s.heap.objs.size (fun x=>fw x (bT (jU z) 0)) (bT (jU z) 0).length:=fun g2 k4 =>
     letI:BEq Key:=instBEqOfDecidableEq
     ye ((PyProof.Rows.setObjOf_fresh (knd:=aX prog w) led).setOf (k4 _ _ hS) (by unfold scanBound;omega)) (fun _=>rfl) rfl
    have na:s.heap.objs.size∉[g1.objs.size]:=by simp only[aI,dy,dD];omega
    unfold Builtin.«set.__init__» noKeywords Builtin.Frozenset.updateFrom
    generalize hPI:pyIter=PI
    wp_walk
    subst hPI
    cases ha:z.cps.all (·<128) with
    | true =>
     refine wpAny_pyIter_ascii ha ?_
     refine aa (wpAny_runValue ?_)
     refine yp ((Walks.strAscii hh3 g1.objs.size z t).toS) s.heap.objs.size na (jU z) hval hb (z.cps.size-0) 0 _ (by omega) (aT _) ⟨_,aZ _ rfl,rfl,rfl⟩ (start _ fun b o e=>az _ e) fun s' mv x=>?_
     obtain⟨g,tk,e,r1,r2⟩:=fin _ (fun b o e=>az _ e) s' mv x
     refine ah ?_
     show wpAny _ _ (ret Value.none) _ _ _
     exact ah ⟨rfl,g,tk,e,r1,r2⟩
    | false =>
     refine wpAny_pyIter_wide ha ?_
     refine aa (wpAny_runValue ?_)
     refine yp ((Walks.strWide hh3 g1.objs.size z t).toS) s.heap.objs.size na (jU z) hval hb (z.cps.size-0) 0 _ (by omega) (aT _) ⟨_,aZ _ rfl,rfl,rfl⟩ (start _ fun b o e=>az _ e) fun s' mv x=>?_
     obtain⟨g,tk,e,r1,r2⟩:=fin _ (fun b o e=>az _ e) s' mv x
     refine ah ?_
     show wpAny _ _ (ret Value.none) _ _ _
     exact ah ⟨rfl,g,tk,e,r1,r2⟩
   ·cases r2 with
    | error e=>exact hr2
    | ok fl2 =>
     cases fl2 with
     | ret v =>
      obtain⟨rfl,g,tk,rfl,x1,x2⟩:=hr2
      repeat (any_goals (first | assumption | wp_step))
      exact q _ _ x1 x2
     | _=>exact hr2.elim
  | _=>exact hr.elim
end
section
def zW (P:Program) (w:World) (a:Addr) (l:List Key):HO:=.ext fun h=>h.SetOf (aX P w) a (fun x=>fw x l) l.length
theorem HU {l:List Key} (x:h.SetOf (aX P w) a (fun x=>fw x l) l.length):bM P w H h a (zW P w a l):=by
 refine⟨x,?_,fun h1 h2 y k=>?_⟩
 ·obtain⟨o,_,_,_,e,_⟩:=x;exact⟨o,e⟩
 ·obtain⟨o,es,ep,t,e,r⟩:=y;exact⟨o,es,ep,t,k o e,r⟩
def F2 (P:Program) (w:World):List V->Hp->VK->Prop:=fun vs H Q=>match vs with
 | [.str z]=>z.length<=4000/\∀ p H',H p=none->aw H H'->H' p=some (zW P w p (bT (jU z) z.length))->Q (.ref p) H'
 | _=>False
theorem BM (hc:X.calm=true):cW X (.type "set") (F2 X.prog X.w):=by
 intro pins s σ H xs us Q I r h
 rcases xs with _ | ⟨x0,t⟩
 ·exact h.elim
 cases x0<;>try exact h.elim
 cases t<;>try exact h.elim
 next z =>
  obtain⟨u,rfl,t,rfl⟩:=vals1 r
  have hf:H s.heap.objs.size=none:=I.hok.fresh (ak _)
  have hz:z.cps.size<=4000:=h.1
  refine yf (I.ok.hd hc) (by unfold scanBound;omega) fun g tk x k=>?_
  have kk:∀ b o,s.heap.get? b=some o->g.get? b=some o:=fun b o e=>k b o (aB e) e
  exact⟨.ref s.heap.objs.size,upd H s.heap.objs.size (zW X.prog X.w s.heap.objs.size (bT (jU z) z.length)),I.laid (t':=tk) kk (ak _) (HU x),rfl,h.2 _ _ hf (dv hf) a8⟩
def Fx (P:Program) (w:World):List V->Hp->VK->Prop:=fun vs H Q=>match vs with
 | [.ref p]=>∃ l,H p=some (zW P w p l)/\Q (.int l.length) H
 | _=>False
theorem BE :cW X (.builtin "len") (Fx X.prog X.w):=by
 intro pins s σ H xs us Q I r h
 rcases xs with _ | ⟨x0,t⟩
 ·exact h.elim
 cases x0<;>try exact h.elim
 cases t<;>try exact h.elim
 next p =>
  obtain⟨l,e,q⟩:=h
  obtain⟨u,rfl,ru⟩:=vals1 r
  cases ru
  obtain⟨⟨o,es,ep,t,e1,e2,e3,_,_,e4,e5,e6⟩,_⟩:=(show bM X.prog X.w H s.heap p (zW X.prog X.w p l) from I.hok p _ e)
  refine call_len_set e1 e2 e3 e5 (by have:es.size<4096:=e4;omega) ⟨.int es.size,H,I.tok _,⟨_,rfl⟩,?_⟩
  rw[e6];exact q
theorem BL (hP:X.prog=P) (hw:X.w=w) (hc:X.calm=true):cW X (.type "set") (F2 P w):=by subst hP hw;exact BM hc
theorem yE (hP:X.prog=P) (hw:X.w=w):cW X (.builtin "len") (Fx P w):=by subst hP hw;exact BE
theorem sO (val:Nat->Key):∀ (n:Nat) (x:Key),x∈bT val n↔∃ i,i<n/\val i=x
 | 0,x=>⟨fun h=>(by cases h),fun ⟨i,h,_⟩=>absurd h (Nat.not_lt_zero _)⟩
 | n+1,x=>by
  have ih:=sO val n
  unfold bT
  by_cases hc:fw (val n) (bT val n)=true
  ·rw[if_pos hc,ih x]
   obtain⟨j,hj,ej⟩:=(ih (val n)).mp (jc.mp hc)
   constructor
   ·rintro⟨i,h,e⟩;exact⟨i,fj h,e⟩
   ·rintro⟨i,h,e⟩
    rcases pU.mp h with h | h
    ·exact⟨i,h,e⟩
    ·exact⟨j,hj,by rw[ej,←h,e]⟩
  ·rw[if_neg hc,bz,aV,ih x]
   constructor
   ·rintro (⟨i,h,e⟩ | e)
    ·exact⟨i,fj h,e⟩
    ·exact⟨n,k7 _,e.symm⟩
   ·rintro⟨i,h,e⟩
    rcases pU.mp h with h | h
    ·exact .inl ⟨i,h,e⟩
    ·exact .inr (by rw[←e,h])
theorem uQ (val:Nat->Key):∀ n,(bT val n).length=n↔∀ i j,i<n->j<n->val i=val j->i=j
 | 0=>⟨fun _ i _ h=>absurd h (Nat.not_lt_zero _),fun _=>rfl⟩
 | n+1=>by
  have ih:=uQ val n
  have hl:=lT val n
  unfold bT
  by_cases hc:fw (val n) (bT val n)=true
  ·rw[if_pos hc]
   obtain⟨j,hj,ej⟩:=(sO val n (val n)).mp (jc.mp hc)
   constructor
   ·intro h;omega
   ·intro h
    have:=h j n (fj hj) (k7 _) ej
    omega
  ·rw[if_neg hc,List.length_append,c8]
   have nm:∀ i,i<n->val i≠val n:=fun i hi e=>hc (jc.mpr ((sO val n (val n)).mpr ⟨i,hi,e⟩))
   constructor
   ·intro h i j hi hj e
    have h2:=ih.mp (by omega)
    rcases pU.mp hi with hi | hi<;>rcases pU.mp hj with hj | hj
    ·exact h2 i j hi hj e
    ·subst hj;exact absurd e (nm i hi)
    ·subst hi;exact absurd e.symm (nm j hj)
    ·omega
   ·intro h
    have:=ih.mpr fun i j hi hj=>h i j (fj hi) (fj hj)
    omega
theorem uR (z:Str):(bT (jU z) z.length).length=z.length↔z.cps.toList.Nodup:=by
 rw[uQ,List.nodup_iff_pairwise_ne,List.pairwise_iff_getElem]
 have hl:=dg z
 constructor
 ·intro h i j hi hj hij e
  have:=h i j (by omega) (by omega) (by unfold jU;rw[List.getD_eq_getElem?_getD,List.getD_eq_getElem?_getD,List.getElem?_eq_getElem hi,List.getElem?_eq_getElem hj,e])
  omega
 ·intro h i j hi hj e
  have hi':i<z.cps.toList.length:=by omega
  have hj':j<z.cps.toList.length:=by omega
  have e2:z.cps.toList[i]=z.cps.toList[j]:=by
   unfold jU at e
   rw[List.getD_eq_getElem?_getD,List.getD_eq_getElem?_getD,List.getElem?_eq_getElem hi',List.getElem?_eq_getElem hj'] at e
   have e4:=bu Str.cps (Sum.inr.inj e)
   simpa using e4
  rcases Nat.lt_trichotomy i j with z1 | z1 | z1
  ·exact absurd e2 (h i j hi' hj' z1)
  ·exact z1
  ·exact absurd e2.symm (h j i hj' hi' z1)
def Bg:V->List V->Hp->VK->Prop:=fun x vs H Q=>match x,vs with
 | .ref l,[.int i,y]=>∃ xs,H l=some (.lst xs)/\0<=i/\i<2^62/\xs.length<sizeLine/\Q .non (upd H l (.lst (xs.take i.toNat++y::xs.drop i.toNat)))
 | _,_=>False
theorem CK :MtM X "list.insert" Bg:=by
 intro pins s σ H x vs v us Q I rx rv h
 cases x<;>try exact h.elim
 rcases vs with _ | ⟨x0,t⟩
 ·exact h.elim
 cases x0<;>try exact h.elim
 rcases t with _ | ⟨y,t⟩
 ·exact h.elim
 cases t<;>try exact h.elim
 next l i =>
  obtain⟨xs,hH,h0,h1,hz,q⟩:=h
  cases rx
  obtain⟨u1,u2,rfl,⟨t,rfl⟩,ry⟩:=rv.two
  obtain⟨z,its,n,r,hl,e⟩:=I.zu hH
  have hfit:¬(!Builtin.List.listFitsIndex i)=true:=by unfold Builtin.List.listFitsIndex;simp;omega
  refine gP F.slot_list_insert ⟨_,e,rfl⟩ F.entry_list_insert (F.args_list_insert_3 _ _ _) (AutoListH.list_insert_list_int_val_1 l its.toArray n i t u2 hfit (by rw[br];omega)) ⟨e,?_⟩
  refine⟨.non,_,I.JH (ys:=xs.take i.toNat++y::xs.drop i.toNat) (its':=its.take i.toNat++u2::its.drop i.toNat) hH e ?_ ((r.take i.toNat).append (.cons ry (r.drop i.toNat))) ?_,rfl,q⟩
  ·have e0:(if i<0 then (i+((its.toArray.size:Nat):Int)).toNat else min i.toNat its.toArray.size)=min i.toNat its.length:=by rw[if_neg (by omega),br]
   show (its.toArray.extract 0 (if i<0 then (i+((its.toArray.size:Nat):Int)).toNat else min i.toNat its.toArray.size)).push u2++its.toArray.extract (if i<0 then (i+((its.toArray.size:Nat):Int)).toNat else min i.toNat its.toArray.size)=_
   rw[e0]
   apply Array.toList_inj.mp
   by_cases hb:i.toNat<=its.length
   ·rw[gN hb]
    simp
    rw[fh (by rw[bK];omega)]
   ·rw[Nat.min_eq_right (by omega)]
    simp [fh (show its.length<=i.toNat by omega),mF (show its.length<=i.toNat by omega)]
  ·rw[List.length_append,aO,bw,bK];omega
theorem BS (l:List Nat):lO l none (some (-1))=l.dropLast:=by
 unfold lO
 rw[List.dropLast_eq_take]
 have e1:HT.sIx l.length 0 none=0:=rfl
 have e2:HT.sIx l.length l.length (some (-1))=l.length-1:=by
  unfold HT.sIx
  simp
  omega
 rw[e1,e2];rfl
def ndB:List Addr->Bool
 | []=>true
 | a::r=>!r.contains a&&ndB r
theorem uC (l:List Nat) (j:Nat):lO l none (some (j:Int))=l.take j:=by
 unfold lO
 rw[HT.oW,HT.ny,Nat.sub_zero,List.drop_zero,List.take_eq_take_iff]
 omega
theorem uB (l:List Nat) (j:Nat):lO l (some (j:Int)) none=l.drop j:=by
 unfold lO
 rw[HT.oW,HT.ny]
 by_cases h:j<=l.length
 ·rw[gN h]
  exact fh (by rw[bK];exact ak _)
 ·rw[Nat.min_eq_right (by omega),mF (ak _),mF (by omega),List.take_nil]
theorem gD {H H':Hp} (s:aw H H') {x:V}{t:Tg} (h:eG H x=some t):eG H' x=some t:=by
 cases x with
 | ref a =>
  have h':kj (H a)=some t:=h
  cases e:H a with
  | none=>rw[e] at h';cases h'
  | some o =>
   show kj (H' a)=some t
   rw[s a o e,←e];exact h'
 | _=>exact h
end
section
theorem rO {k:Nat}:items[((k:Nat):Int).toNat]?=(items.toList.drop k)[0]?:=by
 rw[i5,da,Nat.add_zero,hZ]
theorem AD {k:Nat}{r:List Value} (h:items.toList.drop k=v::r):items.toList.drop (k+1)=r:=by
 rw[←List.drop_drop,h];rfl
def Iu:List Int->List Int->Bool
 | [],[]=>true
 | [],_::_=>false
 | _::_,[]=>true
 | a::x,c::y=>if a=c then Iu x y else decide (c<=a)
def xl:List Int->List Int->Bool
 | [],[]=>false
 | [],_::_=>true
 | _::_,[]=>false
 | a::x,c::y=>if a=c then xl x y else decide (a<c)
theorem Hi (l b:Addr) (items items2:Array Value) (n n2:Nat) (dd dd2:Option Addr) (sl sl2:Array (Option Value)) {prog:Program}{w:World}{A:Around}{R:Result->Shared->Prop}{s:Shared}
  (hl:s.heap.get? l=some { cls:=.type "list",dict:=dd,data:=.seq items n,slots:=sl }) (hb:s.heap.get? b=some { cls:=.type "list",dict:=dd2,data:=.seq items2 n2,slots:=sl2 }) :
  ∀ (xs:List Value) (k:Nat) (ns ms:List Int),items.toList.drop k=xs->IntsAre xs ns->IntsAre (items2.toList.drop k) ms->k<=items.size->k<=items2.size->R (.ok (.ret (.bool (xl ns ms)))) s →
   codeAny (model prog w) A (Code.builtin "list.__eq__.loop" { pos:=[.ref l,.ref b,rawInt (k:Int),rawInt 0] }) R s:=by
 obtain⟨hp,g,d,tk,os⟩:=s
 simp only at hl hb
 intro xs
 induction xs with
 | nil =>
  intro k ns ms hx hi hj hk hk2 h
  refine ft MeetsSeq3.entry_eq_loop ?_
  show wpAny _ _ (Builtin.«list.__eq__.loop» { pos:=[.ref l,.ref b,Value.int (k:Int) 0,Value.int 0 0] }) _ _ _
  unfold Builtin.«list.__eq__.loop»
  have e1:items[((k:Nat):Int).toNat]?=none:=by rw[rO,hx];rfl
  have hz:items.size=k:=by have:=bu List.length hx;rw[bK,cP,gK] at this;omega
  have hz2:items2.size-k=ms.length:=by have:=hj.length;rw[bK,cP] at this;exact this
  wp_walk using AutoSeq1.wpAny_loadPart' hl,AutoSeq1.wpAny_loadPart' hb
  rw[e1]
  wp_walk using AutoSeq1.wpAny_loadPart' hl,AutoSeq1.wpAny_loadPart' hb
  cases hi
  have e2:xl [] ms=decide (items.size<items2.size):=by
   cases ms with
   | nil=>exact (decide_eq_false (by simp only[gK] at hz2;omega)).symm
   | cons c y=>exact (aq (by simp only[aO] at hz2;omega)).symm
  rw[e2] at h
  exact h
 | cons v xs ih =>
  intro k ns ms hx hi hj hk hk2 h
  refine ft MeetsSeq3.entry_eq_loop ?_
  show wpAny _ _ (Builtin.«list.__eq__.loop» { pos:=[.ref l,.ref b,Value.int (k:Int) 0,Value.int 0 0] }) _ _ _
  unfold Builtin.«list.__eq__.loop»
  have e1:items[((k:Nat):Int).toNat]?=some v:=by rw[rO,hx];rfl
  have hz:items.size=k+(xs.length+1):=by have:=bu List.length hx;rw[bK,cP,aO] at this;omega
  wp_walk using AutoSeq1.wpAny_loadPart' hl,AutoSeq1.wpAny_loadPart' hb
  rw[e1]
  cases hi with
  | cons a t hi' =>
  generalize hy:items2.toList.drop k=ys at hj
  cases hj with
  | nil =>
   have e2:items2[((k:Nat):Int).toNat]?=none:=by rw[rO,hy];rfl
   have hz2:items2.size=k:=by have:=bu List.length hy;rw[bK,cP,gK] at this;omega
   rw[e2]
   wp_walk using AutoSeq1.wpAny_loadPart' hl,AutoSeq1.wpAny_loadPart' hb
   have e3:∀ z,xl (a::z) []=decide (items.size<items2.size):=fun z=>(decide_eq_false (by omega)).symm
   rw[e3] at h
   exact h
  | cons c u hj' =>
   have e2:items2[((k:Nat):Int).toNat]?=some (.int c u):=by rw[rO,hy];rfl
   have hz2:k+1<=items2.size:=by have:=bu List.length hy;rw[bK,cP,aO] at this;omega
   rw[e2]
   obtain⟨e,he,hiff⟩:=HT.Ea (A.under (Code.builtin "list.__eq__.loop" { pos:=[.ref l,.ref b,rawInt (k:Int),rawInt 0] })) ⟨hp,g,d,tk,os⟩ a t c u
   refine aa (he prog w _ _ ?_)
   unfold xl at h
   cases e with
   | true =>
    rw[if_pos (hiff.mp rfl)] at h
    wp_walk
    exact⟨by with_unfolding_all rfl,ih (k+1) _ _ (AD hx) hi' (by rw[AD hy];exact hj') (by omega) (by omega) h⟩
   | false =>
    rw[if_neg (fun q=>absurd (hiff.mpr q) bE)] at h
    wp_walk using AutoSeq1.wpAny_loadPart' hl,AutoSeq1.wpAny_loadPart' hb
    rw[e1,e2]
    have hri:∀ (A:Around) (E:Value->Shared->Prop) (Q:Value->Shared->Prop),Q (.bool (decide (a<c))) ⟨hp,g,d,tk,os⟩->wpAny (model prog w) A (richCompare .Lt (.int a t) (.int c u)) Q E ⟨hp,g,d,tk,os⟩:=fun A E Q h=>(PyProof.Rows.lt_int h:wpAny (model prog w) A (compareOp .Lt (.int a t) (.int c u)) Q E _)
    refine aa (hri _ _ _ ?_)
    wp_walk
    exact h
section
variable {X:Cx}{K:PySem.W.Frag}
def Lm (K:PySem.W.Frag):R2:=fun x y H Q=>match x,y with
 | .int i,.int j=>Q (.bl (decide (j<=i))) H
 | .ref a,.ref b=>∃ ns ms,SqL K H a (ns.map V.int)/\SqL K H b (ms.map V.int)/\Q (.bl (Iu ns ms)) H
 | _,_=>False
end
theorem fY {t u:TS} (h:∀ nn:TS,nn=u->t { D with nx:=fun σ' H'=>nn D σ' H' } σ H):FR t u D σ H:=h u rfl
theorem lR {lo:Int}{n:Nat}{g:TG}{tb:TS}{D:Ends} (Pv:Nat->St->Hp->Prop) (h0:Pv 0 σ H)
  (hs:∀ i σ H,i<n->Pv i σ H->∀ N:St->Hp->Prop,(∀ σ' H',Pv (i+1) σ' H'->N σ' H')->g (.int (lo+i)) σ H fun σ2 H2=>tb { D with nx:=N,ct:=N,bk:=D.nx } σ2 H2) (hd:∀ σ H,Pv n σ H->D.nx σ H):iY g tb D (Itr lo n) σ H :=
 AJ Pv h0 (fun i σ H hi hp=>hs i σ H hi hp _ fun _ _ h=>h) hd
theorem ka {g:TG}{tb:TS}{D:Ends} (Pv:Nat->St->Hp->Prop) (h0:Pv 0 σ H) (hl:∀ i σ H,i<=xs.length->Pv i σ H->SqL K H a xs)
  (hs:∀ i x σ H,xs[i]?=some x->Pv i σ H->∀ N:St->Hp->Prop,(∀ σ' H',Pv (i+1) σ' H'->N σ' H')->g x σ H fun σ2 H2=>tb { D with nx:=N,ct:=N,bk:=D.nx } σ2 H2) (hd:∀ σ H,Pv xs.length σ H->D.nx σ H):iY g tb D (Itl K a) σ H :=
 rS Pv h0 hl (fun i x σ H hi hp=>hs i x σ H hi hp _ fun _ _ h=>h) hd
end
section
theorem tZ (c:Nat):∀ (ls:List (List Nat)),(tx [c]).join (ls.map tx)=tx (Mk.dY c ls)
 | []=>rfl
 | [w]=>by rfl
 | w::v::ws=>by
  have ih:=tZ c (v::ws)
  show tx w++tx [c]++(tx [c]).join ((v::ws).map tx)=tx (w++c::Mk.dY c (v::ws))
  rw[ih,qS,qS,df]
  rfl
theorem Kx (ls:List Str):(ls.map fun z=>z.cps.toList).map tx=ls:=by
 rw[List.map_map]
 conv=>rhs;rw[←List.map_id ls]
 exact i8 fun z _=>m7 z
theorem FI (l:List Nat) (c:Nat):Txt.split (tx l) (tx [c])=(Mk.aY c l).map tx:=by
 have h1:=StrLaws.join_split (tx l) (tx [c])
 have h2:∀ p∈Txt.split (tx l) (tx [c]),c∉p.cps.toList:=fun p hp=>StrLaws.split_free (tx l) c p hp
 have h3:=PyProof.Rows.split_pos (tx l) (tx [c])
 generalize Txt.split (tx l) (tx [c])=ps at h1 h2 h3
 rw[←Kx ps] at h1 ⊢
 rw[tZ] at h1
 rw[←hO h1,Mk.rE]
 ·intro e
  have:=bu List.length e
  simp at this
  rw[this] at h3
  simp at h3
 ·intro w hw
  obtain⟨p,hp,rfl⟩:=aE.mp hw
  exact h2 p hp
theorem vf (c:Nat) (ls:List (List Nat)):Txt.join (tx [c]) (ls.map tx)=tx (Mk.dY c ls):=by
 have go:∀ (r:List (List Nat)) (acc:List Nat),(r.map tx).foldl (fun acc p=>acc++(tx [c]).cps++p.cps) acc.toArray=(acc++(r.map fun w=>c::w).flatten).toArray:=by
  intro r
  induction r with
  | nil=>intro acc;simp
  | cons a r ih =>
   intro acc
   rw[aR,List.foldl_cons]
   have e:acc.toArray++(tx [c]).cps++(tx a).cps=(acc++c::a).toArray:=by simp [tx]
   rw[e,ih]
   simp
 have jl:∀ (a:List Nat) (r:List (List Nat)),Mk.dY c (a::r)=a++(r.map fun w=>c::w).flatten:=by
  intro a r
  induction r generalizing a with
  | nil=>simp [Mk.dY]
  | cons b r ih =>
   show a++c::Mk.dY c (b::r)=_
   rw[ih b]
   simp
 unfold Txt.join Builtin.Str.glued
 cases ls with
 | nil=>rfl
 | cons a r =>
  have:=go r a
  show Str.mk ((r.map tx).foldl (fun acc p=>acc++(tx [c]).cps++p.cps) a.toArray)=tx (Mk.dY c (a::r))
  rw[this,jl]
  rfl
def F6:V->List V->Hp->VK->Prop:=fun x vs H Q=>match x,vs with
 | .str z,[.str y]=>z.length<=100000/\∃ c,y=tx [c]/\nw H (.lst ((Mk.aY c z.cps.toList).map fun w=>.str (tx w))) Q
 | _,_=>False
theorem vh:∀ (l:List (Str×Tok)),Vals ((l.map fun p=>p.1).map V.str) (strValues l)
 | []=>.nil
 | p::l=>.cons ⟨p.2,rfl⟩ (vh l)
theorem Aa {prog:Program}{w:World}{A:Around}{E:Value->Shared->Prop}{s:Shared}{x y:Str}{t u:Tok}{Q:Value->Shared->Prop} (hy:(y.length==0)=false) (hsz:x.length+2<=sizeLine)
  (h:∀ (l:List (Str×Tok)) (k:Nat),l.map (fun p=>p.1)=Txt.split x y->Q (.ref s.heap.objs.size) { s with heap:=s.heap.push { cls:=.type "list",data:=.seq (strValues l).toArray },toks:=k }) :
  wpAny (model prog w) A (call (.builtin "str.split") [.str x t,.str y u]) Q E s:=by
 have ex:Txt.split x y=if (decide (x.length<y.length)||decide (Builtin.Str.strKind x<Builtin.Str.strKind y))=true then [x] else if (Builtin.Str.occurrences x y 0 x.length (x.length+1)).isEmpty=true then [x] else Builtin.Str.partsBetween x (Builtin.Str.occurrences x y 0 x.length (x.length+1)) y.length:=rfl
 cases h1:(decide (x.length<y.length)||decide (Builtin.Str.strKind x<Builtin.Str.strKind y)) with
 | true =>
  rw[h1,if_pos rfl] at ex
  refine gP F.slot_str_split (typeIs_str s x t) F.entry_str_split (F.args_str_split_2 (Value.str x t) (Value.str y u)) (meets_str_split_cannot_occur x y t u h1) ?_
  exact h [(x,_)] _ ex.symm
 | false =>
  rw[h1,if_neg (by decide)] at ex
  cases hf:(Builtin.Str.occurrences x y 0 x.length (x.length+1)).isEmpty with
  | true =>
   rw[hf,if_pos rfl] at ex
   refine gP F.slot_str_split (typeIs_str s x t) F.entry_str_split (F.args_str_split_2 (Value.str x t) (Value.str y u)) (meets_str_split_not_found x y t u h1 hy hf) ?_
   exact h [(x,_)] _ ex.symm
  | false =>
   rw[hf,if_neg (by decide)] at ex
   have hl:=PyProof.Rows.split_le x y
   rw[ex] at hl
   refine gP F.slot_str_split (typeIs_str s x t) F.entry_str_split (F.args_str_split_2 (Value.str x t) (Value.str y u)) (meets_str_split_sep x y t u h1 hy hf (by omega) (by omega)) ?_
   show Q _ _
   rw[strsFrom_eq]
   exact h _ _ ((numbered_texts _ _).trans ex.symm)
theorem oM :MtM X "str.split" F6:=by
 intro pins s σ H x vs v us Q I rx rv h
 cases x<;>try exact h.elim
 rcases vs with _ | ⟨x0,t⟩
 ·exact h.elim
 cases x0<;>try exact h.elim
 cases t<;>try exact h.elim
 next z y =>
  obtain⟨hz,c,rfl,q⟩:=h
  obtain⟨t,rfl⟩:=rx
  obtain⟨u,rfl,ru⟩:=rv.one
  obtain⟨t2,rfl⟩:=ru
  have hb:z.length+2<=sizeLine:=by rw[ju];omega
  refine Aa rfl hb fun l k e=>?_
  have e2:l.map (fun p=>p.1)=(Mk.aY c z.cps.toList).map tx:=by rw[e,←FI,m7]
  have hl:(strValues l).length<=z.length+2:=by
   have:=PyProof.Rows.split_le z (tx [c])
   rw[←e,List.length_map] at this
   rw[show (strValues l).length=l.length from List.length_map ..]
   exact this
  have r:=vh l
  rw[e2,List.map_map] at r
  refine⟨.ref s.heap.objs.size,_,I.laid (t':=k) (o:=.lst ((Mk.aY c z.cps.toList).map fun w=>.str (tx w))) (fun b ob q=>az _ q) (ak _) ?_,rfl,q.go _ (I.hok.fresh (ak _))⟩
  refine⟨?_,_,0,r,aZ _ rfl⟩
  have:=r.length
  rw[show ((Mk.aY c z.cps.toList).map fun w=>V.str (tx w))=(Mk.aY c z.cps.toList).map (V.str ∘ tx) from rfl,this]
  omega
def IB:R2:=fun x y H Q=>match x,y with
 | .int i,.int j=>(i.natAbs<2^60∨j.natAbs<2^60)/\Q (.int (i*j)) H
 | _,_=>False
theorem AV :OpR X (binaryOp .Mult) IB:=by
 intro pins s σ H x y v u Q I rx ry h
 cases x with
 | int i=>cases y with
  | int j =>
   refine (opI (X:=X) (f:=binaryOp .Mult) (C:=fun i j=>i.natAbs<2^60∨j.natAbs<2^60) (g:=fun i j=>i*j) fun i j _ _ _ _ _ hc q=>mul_int q ?_) pins s σ H _ _ v u Q I rx ry ⟨_,_,rfl,rfl,h.1,h.2⟩
   rcases hc with hc | hc
   ·exact IntMulOk.of_left (aK (intBits_le_iff.mpr hc) (by decide))
   ·exact IntMulOk.of_right (aK (intBits_le_iff.mpr hc) (by decide))
  | _=>exact False.elim h
 | _=>exact False.elim h
end
section
theorem yP {i j}{H:Hp}{Q:VK}:Be (.int i) (.int j) H Q=(Q (.int (i+j)) H):=propext Iff.rfl
theorem yQ {a b}{H:Hp}{Q:VK}:Be (.str a) (.str b) H Q=(a.length+b.length<=sizeLine/\Q (.str (a++b)) H):=propext Iff.rfl
theorem yR {l b}{H:Hp}{Q:VK}:Be (.ref l) (.ref b) H Q=(∃ xs zs,H l=some (.lst xs)/\H b=some (.lst zs)/\xs.length+zs.length<=sizeLine/\nw H (.lst (xs++zs)) Q):=propext Iff.rfl
theorem ze {i j}{H:Hp}{Q:VK}:IG (.int i) (.int j) H Q=(Q (.int (i-j)) H):=propext Iff.rfl
theorem za {i j}{H:Hp}{Q:VK}:IC (.int i) (.int j) H Q=(FZ i j/\Q (.int (i*j)) H):=propext Iff.rfl
theorem wW {i j}{H:Hp}{Q:VK}:Ft (.int i) (.int j) H Q=((0<j/\j<2^1000)/\Q (.int (i/j)) H):=propext Iff.rfl
theorem yY {i j}{H:Hp}{Q:VK}:IA (.int i) (.int j) H Q=(0<j/\Q (.int (i%j)) H):=propext Iff.rfl
theorem zb {i j}{H:Hp}{Q:VK}:ID (.int i) (.int j) H Q=((0<=j/\j<=1000000/\i.natAbs<2^64)/\Q (.int (i^j.toNat)) H):=propext Iff.rfl
theorem yS {f:Int->Int->Bool}{i j}{H:Hp}{Q:VK}:uY f (.int i) (.int j) H Q=(Q (.bl (f i j)) H):=propext Iff.rfl
theorem Cc {K:PySem.W.Frag}{i j}{H:Hp}{Q:VK}:Lm K (.int i) (.int j) H Q=(Q (.bl (decide (j<=i))) H):=propext Iff.rfl
theorem BZ {K:PySem.W.Frag}{i j}{H:Hp}{Q:VK}:CZ K (.int i) (.int j) H Q=(Q (.bl (decide (i=j))) H):=propext Iff.rfl
theorem Ca {K:PySem.W.Frag}{i j}{H:Hp}{Q:VK}:CZ K (.str i) (.str j) H Q=(Q (.bl (decide (i=j))) H):=propext Iff.rfl
theorem Cb {K:PySem.W.Frag}{a b}{H:Hp}{Q:VK}:CZ K (.ref a) (.ref b) H Q=(∃ xs ys,SqL K H a xs/\SqL K H b ys/\xs.all dX=true/\ys.all dX=true/\Q (.bl (lK xs ys)) H):=propext Iff.rfl
theorem Cf {K:PySem.W.Frag}{i j}{H:Hp}{Q:VK}:Fz K (.int i) (.int j) H Q=(Q (.bl (!decide (i=j))) H):=propext Iff.rfl
theorem Cg {K:PySem.W.Frag}{i j}{H:Hp}{Q:VK}:Fz K (.str i) (.str j) H Q=(Q (.bl (!decide (i=j))) H):=propext Iff.rfl
theorem Ci {K:PySem.W.Frag}{a b}{H:Hp}{Q:VK}:Fz K (.ref a) (.ref b) H Q=(∃ xs ys,SqL K H a xs/\SqL K H b ys/\xs.all dX=true/\ys.all dX=true/\Q (.bl (!lK xs ys)) H):=propext Iff.rfl
theorem Cd {K:PySem.W.Frag}{p i}{H:Hp}{Q:VK}:HF K (.ref p) (.int i) H Q=(∃ xs v,Sq K H p xs/\atI xs i=some v/\Q v H):=propext Iff.rfl
theorem Ce {K:PySem.W.Frag}{z i}{H:Hp}{Q:VK}:HF K (.str z) (.int i) H Q=(z.length<=sizeLine/\∃ c,atI z.cps.toList i=some c/\Q (.str ⟨#[c]⟩) H):=propext Iff.rfl
theorem yV {K:PySem.W.Frag}{z}{H:Hp}{Q:VK}:Bh K [.str z] H Q=(z.length<=sizeLine/\Q (.int z.length) H):=propext Iff.rfl
theorem yW {K:PySem.W.Frag}{p}{H:Hp}{Q:VK}:Bh K [.ref p] H Q=(∃ xs,Sq K H p xs/\Q (.int xs.length) H):=propext Iff.rfl
theorem yO {i}{H:Hp}{Q:VK}:Iw [.int i] H Q=(Q (.int (i.natAbs:Int)) H):=propext Iff.rfl
theorem yX {i j}{H:Hp}{Q:VK}:Iz [.int i,.int j] H Q=(Q (.int (min i j)) H):=propext Iff.rfl
theorem wY {K:PySem.W.Frag}{a}{H:Hp}{Q:VK}:zL K [.ref a] H Q=(∃ ys,(Sq K H a ys∨∃ lo hi,H a=some (.rng lo hi)/\(-(2^62)<=lo/\lo<2^62/\-(2^62)<=hi/\hi<2^62)/\(hi-lo).toNat<=2^20/\ys=wa lo (hi-lo).toNat)/\nw H (.lst ys) Q):=propext Iff.rfl
theorem zc {j}{H:Hp}{Q:VK}:IE [.int j] H Q=(nw H (.rng 0 j) Q):=propext Iff.rfl
theorem yT {c:Tg}{x n}{H:Hp}{Q:VK}:Iy c [x,.ty n] H Q=(n=c.name/\∃ t,eG H x=some t/\Q (.bl (t.sub c)) H):=propext Iff.rfl
theorem Cj {K:PySem.W.Frag}{a}{lo}{hi}{H:Hp}{Q:VK}:HG K (.ref a) lo hi H Q=(∃ xs,SqL K H a xs/\nw H (.lst (lP xs lo hi)) Q):=propext Iff.rfl
theorem Ck {K:PySem.W.Frag}{z}{lo}{hi}{H:Hp}{Q:VK}:HG K (.str z) lo hi H Q=(z.length<=sizeLine/\Q (.str (tx (lO z.cps.toList lo hi))) H):=propext Iff.rfl
theorem vy {l i y}{H:Hp}{Q:VK}:Bg (.ref l) [.int i,y] H Q=(∃ xs,H l=some (.lst xs)/\0<=i/\i<2^62/\xs.length<sizeLine/\Q .non (upd H l (.lst (xs.take i.toNat++y::xs.drop i.toNat)))):=propext Iff.rfl
theorem vx {z y}{H:Hp}{Q:VK}:Bf (.str z) [.str y] H Q=(0<=Txt.find z y/\Q (.int (Txt.find z y)) H):=propext Iff.rfl
theorem wX {K:PySem.W.Frag}{z p}{H:Hp}{Q:VK}:zK K (.str z) [.ref p] H Q=(∃ ys:List Str,SqL K H p (ys.map V.str)/\(ys.map (·.length)).sum+ys.length*z.length<=16777216/\Q (.str (Txt.join z ys)) H):=propext Iff.rfl
theorem wZ {z y}{H:Hp}{Q:VK}:F6 (.str z) [.str y] H Q=(z.length<=100000/\∃ c,y=tx [c]/\nw H (.lst ((Mk.aY c z.cps.toList).map fun w=>.str (tx w))) Q):=propext Iff.rfl
theorem yZ {i j}{H:Hp}{Q:VK}:IB (.int i) (.int j) H Q=((i.natAbs<2^60∨j.natAbs<2^60)/\Q (.int (i*j)) H):=propext Iff.rfl
theorem zd {P:Program}{w:World}{z}{H:Hp}{Q:VK}:F2 P w [.str z] H Q=(z.length<=4000/\∀ p H',H p=none->aw H H'->H' p=some (zW P w p (bT (jU z) z.length))->Q (.ref p) H'):=propext Iff.rfl
theorem yU {P:Program}{w:World}{p}{H:Hp}{Q:VK}:Fx P w [.ref p] H Q=(∃ l,H p=some (zW P w p l)/\Q (.int l.length) H):=propext Iff.rfl
theorem yM {K:PySem.W.Frag}{a:Addr}{H:Hp}{R:It->Hp->Prop}:AK K (.ref a) H R=(((∃ xs,SqL K H a xs)/\R (Itl K a) H)∨((∃ xs,SqT K H a xs)/\R (Itt K a) H)):=propext Iff.rfl
theorem yN {K:PySem.W.Frag}{z:Str}{H:Hp}{R:It->Hp->Prop}:AK K (.str z) H R=R (Itx z) H:=propext Iff.rfl
end
section
def Ite (K:PySem.W.Frag) (a:Addr):It :=
 ⟨fun i H=>∃ xs x,SqL K H a xs/\xs[i]?=some x,
  fun i H v H'=>∃ x p,(∀ xs,SqL K H a xs->xs[i]?=some x)/\v=.ref p/\H p=none/\H'=upd H p (.tup [.int (i:Int),x]),
  fun i H=>∃ xs,SqL K H a xs/\xs.length<=i⟩
theorem wV {a e it:Addr} (st:(∃ old,IsEnum h e it (i:Int) old)/\h.IsListIter it a i):∀ c∈[e,it],∃ o,h.get? c=some o/\∀ v,o.data≠.cell v:=fun c hc=>by
 obtain⟨⟨old,he⟩,⟨o1,e1,c1,d1⟩⟩:=st
 simp only[aI,dy,dD] at hc
 rcases hc with rfl | rfl
 ·exact⟨_,he,fun v q=>by have q':Data.fields _=Data.cell v:=q;cases q'⟩
 ·exact⟨o1,e1,fun v q=>by rw[d1] at q;cases q⟩
theorem Dp {k:Nat} (a e it:Addr) (D:e≠it):Turn P w K (.Tuple elts k pos) (Ite K a) [e,it] e
  (fun i h=>(∃ old,IsEnum h e it (i:Int) old)/\h.IsListIter it a i) where
 mem:=by simp
 obj:=fun i h st=>wV st
 keep:=fun i h h' st k=>by
  obtain⟨⟨old,he⟩,h1⟩:=st
  exact⟨⟨old,k e (by simp) _ he⟩,h1.at fun o e=>k it (by simp) o e⟩
 item:=by
  intro X hP hw hK hc i pins s σ H E I hf st hg
  subst hP hw hK
  obtain⟨xs,x,hx,ex⟩:=hg
  obtain⟨us,r1,p1,_⟩:=I.list hx
  obtain⟨u,hu,ru⟩:=r1.get ex
  obtain⟨⟨old,he⟩,h1⟩:=id st
  refine wpAny_pyNext_enum_item he h1 p1.isList (x:=u) (by simpa using hu) D fun h' a1 a2 a3 a4 a5=>?_
  refine⟨_,rfl,wpAny_letOwnedTupleGo_enum (s:={ s with heap:=h',toks:=s.toks+1 }) a1 fun h'' b1 b2=>?_⟩
  have b2':Heap.SameBut e h' h'':=b2
  have ne:∀ c∈[e,it],c<s.heap.objs.size:=fun c hc=>by
   obtain⟨o,e,_⟩:=wV st c hc
   exact aB e
  have kk:∀ c o,c∉[e,it]->s.heap.get? c=some o->h''.get? c=some o:=fun c o hc e=>by
   simp only[aI,dy,dD,not_or] at hc
   exact (b2'.2 c hc.1).trans (a5 c o hc.1 hc.2 e)
  have hT:h''.get? s.heap.objs.size=some { cls:=.type "tuple",data:=.seq #[.int (i:Int) s.toks,u] }:=(b2'.2 _ (gO (ne e (by simp)))).trans a3
  have I1:Inv X pins σ (upd H s.heap.objs.size (.tup [.int (i:Int),x])) { s with heap:=h'',toks:=s.toks+1 }:=by
   refine I.Bt (t':=s.toks+1) (ch:=[e,it]) hf kk (fun c o ee=>?_) (ak _) (show bM X.prog X.w _ h'' _ (.tup [.int (i:Int),x]) from ⟨by show 2<=sizeLine;decide,[.int (i:Int) s.toks,u],.cons ⟨_,rfl⟩ (.cons ru .nil),⟨_,hT,rfl,_,rfl⟩⟩)
   by_cases hc:c∈[e,it]
   ·simp only[aI,dy,dD] at hc
    rcases hc with rfl | rfl
    ·exact⟨_,b1⟩
    ·obtain⟨o1,e1,_⟩:=a2;exact⟨_,(b2'.2 _ (bt D)).trans e1⟩
   ·exact⟨_,kk c o hc ee⟩
  refine⟨.ref s.heap.objs.size,_,I1,rfl,⟨x,_,fun zs hz=>by rw[I.oJ hz hx];exact ex,rfl,I.hok.fresh (ak _),rfl⟩,⟨⟨_,by have:=b1;rw[show ((i+1:Nat):Int)=(i:Int)+1 from rfl];exact this⟩,a2.at fun o e=>(b2'.2 _ (bt D)).trans e⟩,fun c hc=>?_⟩
  rw[aD (aS (ne c hc))];exact (hf c hc).1
 done:=by
  intro X hP hw hK hc i pins s σ H E I hf st hg
  subst hP hw hK
  obtain⟨xs,hx,hl⟩:=hg
  obtain⟨us,r1,p1,_⟩:=I.list hx
  obtain⟨⟨old,he⟩,h1⟩:=id st
  have l1:=r1.length
  refine wpAny_pyNext_enum_end (I.ok.hd hc) he h1 p1.isList (by simp;omega) fun h' kk=>⟨rfl,I.Bs (t':=s.toks) (ch:=[e,it]) hf fun c o hc e=>?_⟩
  simp only[aI,dy,dD,not_or] at hc
  exact kk c o hc.2 e
 self:=fun _ _ _ _ _ st h=>by
  obtain⟨⟨old,he⟩,_⟩:=st
  exact wpAny_pyIter_enum he h
section
variable {X:Cx}
def Ez (K:PySem.W.Frag) (ta:TA):TI:=fun σ H R=>ta σ H fun vs H1=>∃ a,vs=[.ref a]/\(∃ xs,SqL K H1 a xs)/\R (Ite K a) H1
theorem DC {K:PySem.W.Frag}{ta:TA}{σ:St}{H:Hp}{R:It->Hp->Prop}:Ez K ta σ H R=ta σ H fun vs H1=>∃ a,vs=[.ref a]/\(∃ xs,SqL K H1 a xs)/\R (Ite K a) H1:=propext Iff.rfl
theorem Hz {elts:List Expr}{k:Nat}{tpos:Pos}{a:Expr}{p pos:Pos} (hg:Gl X "enumerate") (hm:X.mg "enumerate"=none) (ha:PA X [a] ta) (hs:starEach [a] X.env=[(false,eval a X.env)]:=by rfl) :
  PI X (.Tuple elts k tpos) (.Call (.Name "enumerate" p) [a] [] pos) (Ez X.K ta):=by
 intro pins s σ H R I h
 refine Call_ (nL I hg hm vp (mW (thn (ha pos pins s σ H _ I h) fun us s1 ⟨vs,H1,I1,r1,q1⟩=>?_) hs (by rfl)))
 obtain⟨l1,e,⟨xs,hx⟩,q⟩:=q1
 subst e
 cases r1 with
 | cons r rr =>
  cases rr
  cases r
  obtain⟨us,_,p1,_⟩:=I1.list hx
  refine call_enumerate_list p1.isList fun h' he hi hsz hk=>wpAny_pyIter_enum (s:={ s1 with heap:=h' }) he ?_
  have I2:Inv X pins σ H1 { s1 with heap:=h' }:=I1.kept (t':=s1.toks) hk
  refine⟨_,[s1.heap.objs.size+1,s1.heap.objs.size],_,_,H1,rfl,I2,Dp l1 (s1.heap.objs.size+1) s1.heap.objs.size (Nat.succ_ne_self _),⟨⟨_,he⟩,hi⟩,fun c hc=>?_,q⟩
  have hle:s1.heap.objs.size<=c:=by
   simp only[aI,dy,dD] at hc
   rcases hc with rfl | rfl<;>omega
  exact I1.vz hle (I1.hok.fresh hle)
theorem tE {elts:List Expr}{k:Nat}{tpos:Pos}{a:Expr}{p pos:Pos} (hK:X.K=K) (hm:X.mg "enumerate"=none) (ha:PA X [a] ta) (hg:X.env.kindOf "enumerate"=some .globalImplicit:=by kernel_rfl) (hs:noStar a=true:=by kernel_rfl) :
  PI X (.Tuple elts k tpos) (.Call (.Name "enumerate" p) [a] [] pos) (Ez K ta):=hK ▸ Hz hg hm ha (aW hs)
end
theorem uJ {g:TG}{tb:TS}{D:Ends} (Pv:Nat->St->Hp->Prop) (h0:Pv 0 σ H) (hl:∀ i σ H,i<=xs.length->Pv i σ H->SqL K H a xs)
  (hs:∀ i x σ H,xs[i]?=some x->Pv i σ H->∀ N:St->Hp->Prop,(∀ σ' H',Pv (i+1) σ' H'->N σ' H')->∀ p H',H p=none->aw H H'->H' p=some (.tup [.int (i:Int),x])->g (.ref p) σ H' fun σ2 H2=>tb { D with nx:=N,ct:=N,bk:=D.nx } σ2 H2) (hd:∀ σ H,Pv xs.length σ H->D.nx σ H):iY g tb D (Ite K a) σ H:=by
 refine⟨fun i m σ H=>i+m=xs.length/\Pv i σ H,⟨xs.length,by omega,h0⟩,fun i m σ H hw=>?_⟩
 obtain⟨e,hp⟩:=hw
 have hL:=hl i σ H (by omega) hp
 by_cases hm:m=0
 ·subst hm
  have:i=xs.length:=by omega
  subst this
  exact .inl ⟨⟨xs,hL,ak _⟩,hd σ H hp⟩
 ·have hi:xs[i]?=some xs[i]:=List.getElem?_eq_getElem (by omega)
  refine .inr ⟨⟨xs,_,hL,hi⟩,Pv (i+1),fun σ' H' n=>⟨m-1,by omega,by omega,n⟩,fun v H' hy=>?_⟩
  obtain⟨x,p,h1,rfl,h2,rfl⟩:=hy
  have hx:=h1 xs hL
  exact hs i x σ H hx hp _ (fun _ _ h=>h) p _ h2 (dv h2) a8
section
variable {X:Cx}{tg:Expr}
end
theorem HL {k:Key} (h:jb k v=true):RelV (kV k) v:=by
 rcases c9 h with ⟨i,t,rfl,rfl⟩ | ⟨x,t,rfl,rfl⟩
 ·exact⟨t,rfl⟩
 ·exact⟨t,rfl⟩
theorem JF {vs:List (Key×Value)} (r:KV kvs vs):∀ {i:Nat}{p:Key×V},kvs[i]?=some p->∃ q,vs[i]?=some q/\p.1=q.1/\RelV p.2 q.2:=by
 unfold KV at r
 induction r with
 | nil=>intro i p h;simp at h
 | @cons a b as bs h t ih =>
  intro i p hp
  cases i with
  | zero =>
   rw[List.getElem?_cons_zero] at hp
   cases hp
   exact⟨b,rfl,h⟩
  | succ i=>exact ih (by simpa using hp)
theorem En {ob:Obj}{es:Array DictEntry}{ep:Nat} (x:HOk P w H h) (e:H a=some (.frz ob (.dK kvs))) (hd:ob.data=.dict es ep) :
  ∃ vs,KV kvs vs/\h.DictAt (aX P w) a vs ep:=by
 obtain⟨h1,_,_,vs,r,o,es',ep',h2,h3,h4,h5⟩:=(show bM P w H h a (.frz ob (.dK kvs)) from x a _ e)
 have:o=ob:=Option.some.inj (h2.symm.trans h1)
 subst this
 rw[hd] at h4
 injection h4 with e1 e2
 subst e1 e2
 exact⟨vs,r,o,es,h2,h3,hd,h5⟩
section
variable {X:Cx}
theorem Gi {td ty:TE}{σ:St}{H:Hp}{Q:VK}:FL td ty σ H Q=td σ H fun x H1=>ty σ H1 fun y H2=>∃ a v,x=.ref a/\lH H2 a y (some v)/\Q v H2:=propext Iff.rfl
theorem D8 {td ty:TE}{σ:St}{H:Hp}{Q:VK}:Ac td ty σ H Q=td σ H fun x H1=>∃ a,x=.ref a/\IsD H1 a/\ty σ H1 fun y H2=>∃ o,lH H2 a y o/\Q (o.getD .non) H2:=propext Iff.rfl
theorem tD {o i:Expr}{td ty:TE} (hu:X.A.units+1<cLine) (ho:PE X o td) (hi:PE X i ty) (hs:Jb i:=by exact fun _ _=>rfl):PE X (.Subscript o i pos) (FL td ty):=Hu hu ho hi hs
theorem CT {o e:Expr}{td ty:TE}{apos cpos:Pos} (hu:X.A.units+1<cLine) (ho:PE X o td) (he:PE X e ty) (hbase:attributeBase o "get" X.env (eval o X.env)=eval o X.env:=by kernel_rfl) (hs:dH [e]=true:=by kernel_rfl)
  (hline:(apos.endLine==cpos.line)=true:=by kernel_rfl) (htr:backTo cpos (starEach [e] X.env)=[(false,eval e X.env)]:=by rfl):PE X (.Call (.Attribute o "get" apos) [e] [] cpos) (Ac td ty):=by
 refine Fg hu ho he ⟨hbase,?_,hline,htr⟩
 rw[nG hs]
 rfl
end
end
section
def mB (zs:List Str) (i:Nat):Key:=Sum.inr (zs.getD i (tx []))
theorem Ec:∀ {x:V},dX x=true->eqV x x=true
 | .non,_=>rfl
 | .bl b,_=>by show (b==b)=true;simp
 | .int i,_=>by show (i==i)=true;simp
 | .str z,_=>by show (z==z)=true;simp
section
variable {X:Cx}
end
end
end L2

namespace L2
section
variable {α:Type} [DecidableEq α]
abbrev Nk (α:Type):=α×Bool
theorem qA {β:Type} [DecidableEq β]:∀ (U l:List β),l.Nodup->(∀ x∈l,x∈U)->l.length<=U.length
 | [],l,_,h=>by
  cases l with
  | nil=>exact ak _
  | cons x r=>cases h x (by simp)
 | u::U,l,hn,h=>by
  have h2:∀ x∈l.erase u,x∈U:=fun x hx=>by
   rcases aI.mp (h x (List.mem_of_mem_erase hx)) with q | q
   ·subst q;exact absurd hx (List.Nodup.not_mem_erase hn)
   ·exact q
  have:=qA U (l.erase u) (hn.erase u) h2
  have h3:=List.length_erase (a:=u) (l:=l)
  rw[aO]
  by_cases hu:u∈l
  ·rw[if_pos hu] at h3;omega
  ·rw[if_neg hu] at h3;omega
inductive Wk (St:Nk α->List (Nk α×Int)) (u:Nk α):Nk α->Int->Prop
 | nil:Wk St u u 0
 | snoc {v x:Nk α}{w c:Int}:Wk St u v w->(x,c)∈St v->Wk St u x (w+c)
theorem Wk.mono {St St':Nk α->List (Nk α×Int)}{u v:Nk α}{w:Int} (h:∀ k p,p∈St k->p∈St' k) (x:Wk St u v w):Wk St' u v w:=by
 induction x with
 | nil=>exact .nil
 | snoc _ m ih=>exact ih.snoc (h _ _ m)
theorem Wk.cons {St:Nk α->List (Nk α×Int)}{u v y:Nk α}{w c:Int} (m:(v,c)∈St u) (x:Wk St v y w):Wk St u y (c+w):=by
 induction x with
 | nil =>
  have:=Wk.snoc (Wk.nil (St:=St) (u:=u)) m
  rw[km] at this
  rw[Int.add_zero];exact this
 | snoc _ m2 ih =>
  have:=ih.snoc m2
  rw[Int.add_assoc] at this;exact this
structure Ln (α:Type) where
 a:α
 b:α
 p:Option Int
 c:Option Int
def Up (x:Option Int) (w:Int):Prop:=∃ a,x=some a/\a<=w
theorem Up.mono {x:Option Int}{w w':Int} (h:Up x w) (l:w<=w'):Up x w':=by obtain⟨a,e,q⟩:=h;exact⟨a,e,by omega⟩
section
variable {zs bs:List α}{ls:List (Ln α)}{p g:Int}
end
end
end L2

namespace L2
open PySem PySem.Spec PyProof.Rows
variable {A:Around}{E:Value->Shared->Prop}{H:Hp}{H1:Hp}{K:PySem.W.Frag}{M:Model}{P:Program}{Pt:Addr}{Q:Option Value->Shared->Prop}{X:Cx}{a:Addr}{e:Expr}{ep:Nat}{es:Array (Int×Value)}{e₀:Expr}{fI:Addr}{fd:FuncData}{h:Heap}{hs:List ExceptHandler}{it:Addr}{kvs:List (Key×V)}{lb:Bool}{mN:Str->Option Value}{o:Obj}{oI:Obj}{ob:Obj}{params:Arguments}{pos:Pos}{ps:Array Value}{q:Str}{s:Shared}{scope:Scope}{sp:Sp}{st:Stmt}{te:TE}{tk:Tok}{vs:List Value}{w:World}{x:Str}{zs:List Str}{σ:St}
section
abbrev nA (q:Str):HO:=.tbl #[.str q 0]
section
variable {X:Cx}{pins:List (Addr×Obj)}{σ:St}{H:Hp}{s:Shared}
theorem tab_of {P:Addr} (I:Inv X pins σ H s) (e:H P=some (nA q)):∃ qs:Array Value,s.heap.get? P=some { cls:=.none,data:=.fields qs }/\TriplesOk qs.toList ∧
  ∀ pos c,codeAmong pos qs.toList=some c->∃ c' oc vs t,c=.ref c'/\H c'=some (.frz oc (.own P))/\s.heap.get? c'=some oc/\oc.data=.fields vs/\vs[1]?=some (.str q t):=by
 obtain⟨qs,h1,h2,h3⟩:=(show bM X.prog X.w H s.heap P (nA q) from I.hok P _ e)
 refine⟨qs,h1,h2,fun pos c z=>?_⟩
 obtain⟨c',oc,vs,t,q',a1,a2,a4,a5,a6⟩:=h3 pos c z
 have a7:q=q':=by
  have:=bu Array.toList a6
  simp at this
  exact this
 subst a7
 exact⟨c',oc,vs,t,a1,a2,(I.hok c' _ a2).1,a4,a5⟩
theorem Inv.tabled {P c':Addr}{h':Heap}{ps more:Array Value}{tk:Nat}{oc:Obj}{vs:Array Value}{tq:Tok} (I:Inv X pins σ H s) (e:H P=some (nA q)) (hx:∀ b o,b≠P->s.heap.get? b=some o->h'.get? b=some o) (hc:s.heap.objs.size<=c')
  (h1:h'.get? P=some { cls:=.none,data:=.fields more }) (h2:TriplesOk more.toList) (h3:∀ pos c,codeAmong pos more.toList=some c->codeAmong pos ps.toList=some c∨c=.ref c') (h0:s.heap.get? P=some { cls:=.none,data:=.fields ps })
  (c1:h'.get? c'=some oc) (c2:oc.data=.fields vs) (c3:vs[1]?=some (.str q tq)):Inv X pins σ (upd H c' (.frz oc (.own P))) { s with heap:=h',toks:=tk }:=by
 have hn:=I.hok.fresh hc
 have nP:∀ b,H b=none->b≠P:=fun b hb z=>by rw[z,e] at hb;cases hb
 have lt:∀ b o,s.heap.get? b=some o->b≠c':=fun b o z=>aS (bB (aB z) hc)
 obtain⟨qs,g1,g2,g3⟩:=tab_of I e
 have eq:qs=ps:=by
  rw[h0] at g1
  have:=Option.some.inj g1
  injection this with _ _ z
  injection z with z
  exact z.symm
 subst eq
 refine I.un ⟨fun b o z n _ _=>hx b o (nP b n) z,fun b o z n _ _=>⟨o.slots,hx b o (nP b n) z⟩,fun b o z n _=>by rw[aD (lt b o z)];exact n,fun b o z _=>?_,fun b xs z=>by rw[aD (bc z hn)];exact z,fun b u xs z=>by rw[aD (bc z hn)];exact z,
  fun b xs z=>⟨#[],by rw[aD (bc z hn),z];simp⟩⟩ fun b u z=>?_
 ·by_cases hb:b=P
  ·rw[hb];exact⟨_,h1⟩
  ·exact⟨o,hx b o hb z⟩
 ·by_cases hb:b=c'
  ·subst hb
   rw[a8] at z;cases z
   exact⟨c1,_,c1⟩
  ·rw[aD hb] at z
   by_cases hp:b=P
   ·subst hp
    rw[e] at z;cases z
    refine⟨more,h1,h2,fun pos c w=>?_⟩
    rcases h3 pos c w with w | rfl
    ·obtain⟨c2',oc2,vs2,t2,a1,a2,a3,a4,a5⟩:=g3 pos c w
     exact⟨c2',oc2,vs2,t2,q,a1,by rw[aD (bc a2 hn)];exact a2,a4,a5,rfl⟩
    ·exact⟨c',oc,vs,tq,q,rfl,a8,c2,c3,rfl⟩
   ·refine (I.hok b u z).lM (fun c v hc2 w=>hx c v ?_ w) (fun c w=>by rw[aD (bc w hn)];exact w) fun c xs w=>by rw[aD (bc w hn)];exact w
    rcases hc2 with rfl | w2
    ·exact hp
    ·exact iN w2 e (by intro z;cases z)
end
theorem yC {pos p2:Pos}{c:Value}:∀ (l:List Value),TriplesOk l->∀ x,codeAmong pos (l++[rawInt p2.line,rawInt p2.col,c])=some x->codeAmong pos l=some x∨x=c:=by
 intro l h
 fun_induction TriplesOk l with
 | case1 =>
  intro x e
  simp only[List.nil_append,codeAmong,rawInt] at e
  split at e
  ·exact .inr (Option.some.inj e).symm
  ·cases e
 | case2 a t b u y rest ih =>
  intro x e
  simp only[List.cons_append,codeAmong] at e ⊢
  split at e
  ·rename_i hc
   rw[if_pos hc];exact .inl e
  ·rename_i hc
   rw[if_neg hc];exact ih h x e
 | case3=>exact h.elim
section
variable {X:Cx}{pins:List (Addr×Obj)}{σ:St}{H:Hp}{s:Shared}{a:Addr}{y v:V}{u:Value}{A:Around}{E:Value->Shared->Prop}
end
section
variable {X:Cx}{pins:List (Addr×Obj)}{σ:St}{H:Hp}{s:Shared}
def oz (H:Hp) (P:Addr) (q:Str) (c':Addr):Prop:=∃ oc vs t,H c'=some (.frz oc (.own P))/\oc.data=.fields vs/\vs[1]?=some (.str q t)
theorem oz.same {H H':Hp}{P c':Addr} (h:oz H P q c') (s:aw H H'):oz H' P q c':=by
 obtain⟨oc,vs,t,h1,h2⟩:=h
 exact⟨oc,vs,t,s _ _ h1,h2⟩
theorem oz.rec {P c':Addr} (I:Inv X pins σ H s) (h:oz H P q c'):s.heap.CodeRec (.ref c') q:=by
 obtain⟨oc,vs,t,h1,h2,h3⟩:=h
 exact⟨c',oc,vs,t,rfl,(I.hok c' _ h1).1,h2,h3⟩
end
section
variable {prog:Program}{w:World}{A:Around}{E:Value->Shared->Prop}{s:Shared}{d it:Addr}{D J:Obj}{es:Array DictEntry}{ep i:Nat}
theorem F7 {Q:Value->Shared->Prop} (n0:(d==sysModules)=false) (g1:s.heap.get? d=some D) (g2:D.ExactDict) (g3:D.data=.dict es ep)
  (k:Q (.ref s.heap.objs.size) { s with heap:=s.heap.push { cls:=.type "dict_keyiterator",data:=.fields #[.ref d,.int 0 0,.int es.size 0,.int ep 0] } }):wpAny (model prog w) A (pyIter (.ref d)) Q E s:=by
 have ty:s.TypeIs (.ref d) "dict":=⟨D,g1,g2.1⟩
 refine wpAny_pyIter_slot ty F.slot_dict_iter (fv F.slot_dict_iter ty F.entry_dict_iter ?_ (F.args_dict_iter_1 _))
 unfold Builtin.«dict.__iter__» Builtin.Dict.dictSlotNone
 refine aa (aa (wpAny_notOrdered_dict ty ?_))
 refine ah (show wpAny _ _ (Builtin.Dict.showsAll d >>= _) _ _ s from ?_)
 unfold Builtin.Dict.showsAll
 rw[if_neg (fun z=>by rw[n0] at z;cases z)]
 refine aa (ah (aa (wpAny_dictEntries g1 g3 (aa (wpAny_dictEpoch g1 g3 ?_)))))
 refine aa (fS (ah ⟨_,rfl,"dict_keyiterator",_,⟨_,aZ _ rfl,rfl⟩,qf.lookup,?_⟩))
 simpa [rawInt] using k
theorem F8 {Q:Option Value->Shared->Prop} (j:s.heap.IsKeyIter it d i es.size ep) (g1:s.heap.get? d=some D) (g3:D.data=.dict es ep) (hi:i<es.size)
  (k:∀ h',h'.IsKeyIter it d (i+1) es.size ep->Heap.SameBut it s.heap h'->Q (some es[i].key) { s with heap:=h' }):wpAny (model prog w) A (pyNext (.ref it)) Q E s:=by
 obtain⟨J,j1,j2,j3⟩:=id j
 unfold pyNext
 refine aa (jv (kD (name:=Str.ofString "__next__") j.typeIs qf (fv qf j.typeIs F.entry_dict_keyiterator_next ?_ (F.args_dict_keyiterator_next_1 _))))
 refine aa (ah (aa (aa ?_)))
 first | refine aa (qh j.typeIs (ah (aa (iF j1 j3 ?_)))) | refine aa (qi j.typeIs (ah (aa (iF j1 j3 ?_))))
 have ow:Builtin.Dict_items.ownsTuple "dict_keyiterator"=false:=by decide
 simp only[ow,ic,dU]
 show wpAny _ _ (if (Value.ref d==Value.none)=true then _ else _) _ _ _
 rw[if_neg (fun z:(Value.ref d==Value.none)=true=>bE z)]
 refine aa (ah (aa (wpAny_dictEntries g1 g3 ?_)))
 rw[if_neg (by simp)]
 refine aa (ah (aa (wpAny_dictEpoch g1 g3 ?_)))
 rw[if_neg (by simp)]
 refine ah ?_
 simp only[show ¬ ((i:Int)<0) from by omega,dU,da,iM hi]
 refine aa ?_
 first | refine aa (qh j.typeIs (ah (aa (wpAny_isOneOf_keyiter j.typeIs ?_)))) | refine aa (qi j.typeIs (ah (aa (wpAny_isOneOf_keyiter j.typeIs ?_))))
 refine show wpAny _ _ (setField (.ref it) 1 (rawInt ((i:Int)+1)) >>= _) _ _ s from aa (wpAny_setField j1 j3 (by simp) ?_)
 have jn:(s.heap.update it (Obj.mapFields (·.setIfInBounds 1 (rawInt ((i:Int)+1))))).IsKeyIter it d (i+1) es.size ep :=
  ⟨_,eZ _ j1 (Obj.isFreed_of_fields (Obj.data_mapFields j3 _)),(Obj.cls_mapFields ..).trans j2,by rw[Obj.data_mapFields j3];simp [rawInt]⟩
 refine aa (dE (aa (wpAny_isOneOf_keyiter (s:={ s with heap:=s.heap.update it (Obj.mapFields (·.setIfInBounds 1 (rawInt ((i:Int)+1)))) }) jn.typeIs ?_)))
 refine show wpAny _ _ (pure es[i].key) _ _ _ from ?_
 exact ah (ah ⟨_,rfl,ah (k _ jn (Heap.SameBut.update ..))⟩)
theorem HH {Q:Option Value->Shared->Prop} (ha:A.handled=none) (j:s.heap.IsKeyIter it d i es.size ep) (hi:es.size<=i) (g1:s.heap.get? d=some D) (g3:D.data=.dict es ep)
  (k:∀ h',Heap.ExtBut it s.heap h'->Q none { s with heap:=h' }):wpAny (model prog w) A (pyNext (.ref it)) Q E s:=by
 obtain⟨J,j1,j2,j3⟩:=id j
 unfold pyNext
 refine aa (jv (kD (name:=Str.ofString "__next__") j.typeIs qf (fv qf j.typeIs F.entry_dict_keyiterator_next ?_ (F.args_dict_keyiterator_next_1 _))))
 refine aa (ah (aa (aa ?_)))
 first | refine aa (qh j.typeIs (ah (aa (iF j1 j3 ?_)))) | refine aa (qi j.typeIs (ah (aa (iF j1 j3 ?_))))
 have ow:Builtin.Dict_items.ownsTuple "dict_keyiterator"=false:=by decide
 simp only[ow,ic,dU]
 show wpAny _ _ (if (Value.ref d==Value.none)=true then _ else _) _ _ _
 rw[if_neg (fun z:(Value.ref d==Value.none)=true=>bE z)]
 refine aa (ah (aa (wpAny_dictEntries g1 g3 ?_)))
 rw[if_neg (by simp)]
 refine aa (ah (aa (wpAny_dictEpoch g1 g3 ?_)))
 rw[if_neg (by simp)]
 refine ah ?_
 simp only[show ¬ ((i:Int)<0) from by omega,dU,da,mY hi]
 refine aa ?_
 first | refine aa (qh j.typeIs (ah ?_)) | refine aa (qi j.typeIs (ah ?_))
 refine show wpAny _ _ (setField (.ref it) 0 .none >>= _) _ _ s from aa (wpAny_setField j1 j3 (by simp) ?_)
 refine show wpAny _ _ (newExc (.type "StopIteration") [] >>= _) _ _ _ from aa ?_
 simp only[newExc,newTuple]
 refine aa (fS (aa (m:=firstArgMember _ _) (wpAny_of_eq (a:=Value.none) (by first | rfl | (simp only[firstArgMember];rfl)) ?_)) (by size_fits))
 refine fS ?_ (by size_fits)
 simp only[raiseNew]
 refine aa (wpAny_handled ?_)
 rw[show A.in1.handled=none from ha]
 refine aa (ah (wpAny_throw ?_))
 refine aa (wpAny_isInstance (T:="StopIteration") (b:=true) ⟨_,aZ _ rfl,rfl⟩ isSubtype_stop (ah ?_))
 exact (k _ (((Heap.SameBut.update ..).extBut.push _).push _))
end
section
variable {X:Cx}{pins:List (Addr×Obj)}{σ:St}{H:Hp}{A:Around}{s0:Shared}{l q I S:Addr}{vs:List Value}{R:Result->Shared->Prop}
end
section
variable {X:Cx}
end
def Bp:TE:=fun _ H Q=>nw H (.dT []) Q
theorem D9 {σ:St}{H:Hp}{Q:VK}:Bp σ H Q=nw H (.dT []) Q:=propext Iff.rfl
theorem CU :PE X (.Dict [] [] pos) Bp:=fun pins s σ H Q I h=>Fi pins s σ H Q I (nw.go h)
theorem Gk {td ty tv:TE}{D:Ends}{σ:St}{H:Hp}:FD td ty tv D σ H=tv σ H fun v H1=>td σ H1 fun x H2=>ty σ H2 fun y H3=>∃ a H4,x=.ref a/\yu H3 a y v H4/\D.nx σ H4:=propext Iff.rfl
theorem tI {o i value:Expr}{pos pos':Pos}{td ty tv:TE} (hu:X.A.units+1<cLine) (ho:PE X o td) (hi:PE X i ty) (hv:PE X value tv) (hs:swapsWith value (some (.Subscript o i pos')) pos.line X.env=pure false:=by kernel_rfl) :
  PS X (.Assign [.Subscript o i pos'] value pos) (FD td ty tv):=HB hu ho hi hv hs
theorem oH:∀ {ns:List Int}{us:List Value},Vals (ns.map V.int) us->IntsAre us ns
 | [],_,r=>by rw[i9] at r;cases r;exact .nil
 | n::ns,_,r=>by
  rw[aR] at r
  cases r with
  | cons r1 r2=>obtain⟨t,rfl⟩:=r1;exact .cons n t (oH r2)
theorem nt {α β:Type}{F:α->β->Prop}:∀ {l₁:List α}{l₂:List β},Paired F l₁ l₂->∀ {i:Nat}{x:α},l₁[i]?=some x->∃ y,l₂[i]?=some y/\F x y
 | _,_,.nil,i,x,e=>by simp at e
 | _,_,.cons r t,0,x,e=>by simp at e;subst e;exact⟨_,rfl,r⟩
 | _,_,.cons r t,i+1,x,e=>nt t (by simpa using e)
theorem CC {P:Program}{w:World}{K:PySem.W.Frag}{mg mb:Str->Option Value}{CX:CXT}{k:Nat}{fa a c Pt:Addr}{q:Str}{fd:FuncData}{x:Str}{sp:Sp}{s₁:Shared}{vs:List Value}{ns:List Int}
  (KX:K.In s₁.heap) (hns:s₁.heap.Ns mainGlobals mg) (hb:s₁.heap.Ns builtinsNs mb) (hbb:∀ x:Str,x≠"__name__"->mb x=bootBuiltins x) (hlim:s₁.heap.NoLimit)
  (hbm:∃ bm ob,mg "__builtins__"=some (.ref bm)/\bm≠builtinsNs/\s₁.heap.get? bm=some ob/\ob.cls=.type "module"/\ob.dict=some builtinsNs/\ob.data=.plain) (hg:s₁.gens=#[])
  (ha:s₁.heap.get? a=some { cls:=.type "list",data:=.seq vs.toArray }) (hi:IntsAre vs ns) (hl:ns.length<=sizeLine) (hr:eP k callerA) (hC:PySem.W.codeHdIn K c Pt=true) (hPt:s₁.heap.get? Pt=some { cls:=.none,data:=.fields #[] }) (hKP:K.lookup Pt=none)
  (F:∀ base:Heap,K.In base->base.Ns mainGlobals mg->bJ P w K mg base CX k fa fd [x] sp) (hbind:∀ (s:Shared) (u:Value),BindsTo s fd ⟨[u],[]⟩ [(x,u)])
  (hsp:∀ H:Hp,SqL K H a (ns.map V.int)->H Pt=some (nA q)->sp [.ref a] H (fun v _=>v=.bl true) fun _ _ _=>False)
  (hCX:∀ H e s',CX [] H s₁ (fun _ _ _=>False) e s'->False) :
  codeAny (model P w) callerA (.call (.ref fa) ⟨[.ref a],[]⟩) (fun r s'=>r=.ok (.ret (.bool true))/\OldK s₁.heap s'.heap/\s'.os=s₁.os/\AllBare s'.gens) s₁:=by
 have rv:=vg hi
 have lenV:=hi.length
 have hCd:=PySem.W.codeHd_of_K KX hC
 have nPa:Pt≠a:=fun z=>by rw[z,ha] at hPt;cases hPt
 have core:∀ H:Hp,SqL K H a (ns.map V.int)->HOk P w H s₁.heap->H Pt=some (nA q)->(∀ b,H b≠none->b=Pt∨(b=a/\∃ o xs,H b=some (.frz o (.lst xs))))->(H a≠none->K.lookup a=none) →
   codeAny (model P w) callerA (.call (.ref fa) ⟨[.ref a],[]⟩) (fun r s'=>r=.ok (.ret (.bool true))/\OldK s₁.heap s'.heap/\s'.os=s₁.os/\AllBare s'.gens) s₁:=by
  intro H hS hok hT hA hK
  have base_of:∀ {b:Addr}{o:Obj},s₁.heap.get? b=some o->H b=none->(vA s₁.heap H).get? b=some o:=fun e n=>Ew e n
  have noO:∀ {b:Addr}{o:Obj},s₁.heap.get? b=some o->(∀ xs n,o.data≠.seq xs n)->(∀ xs,o.data≠.fields xs)->H b=none:=fun {b o} e d1 d2=>by
   cases qb:H b with
   | none=>rfl
   | some u =>
    rcases hA b (by rw[qb];simp) with z | ⟨z,_⟩
    ·subst z
     rw[hPt] at e;cases e
     exact absurd rfl (d2 _)
    ·subst z
     rw[ha] at e;cases e
     exact absurd rfl (d1 _ _)
  have nsK:∀ {b:Addr}{m:Str->Option Value},s₁.heap.Ns b m->(vA s₁.heap H).Ns b m:=fun {b m} ⟨o,es,ep,e,d,r⟩=>⟨o,es,ep,base_of e (noO e (fun _ _ z=>by rw[d] at z;cases z) fun _ z=>by rw[d] at z;cases z),d,r⟩
  have hKb:K.In (vA s₁.heap H):=fun b o e=>base_of (KX b o e) (by
   cases qb:H b with
   | none=>rfl
   | some u =>
    rcases hA b (by rw[qb];simp) with z | ⟨z,_⟩
    ·subst z
     rw[hKP] at e;cases e
    ·subst z
     rw[hK (by rw[qb];simp)] at e;cases e)
  have hM:Mod K mg (vA s₁.heap H):=⟨hKb,nsK hns,⟨mb,nsK hb,hbb⟩,let ⟨mc,h1,h2⟩:=hlim;⟨mc,nsK h1,h2⟩,let ⟨bm,ob,b1,b2,b3,b4,b5,b6⟩:=hbm;⟨bm,ob,b1,b2,base_of b3 (noO b3 (fun _ _ z=>by rw[b6] at z;cases z) fun _ z=>by rw[b6] at z;cases z),b4,b5,b6⟩⟩
  have e0:yw P w K mg (vA s₁.heap H) callerA [] s₁ H:=⟨rfl,hM,fun b o e=>Hj e,k6 (Ct _ _),trivial,fun b hb=>absurd (show b∈([]:List Addr) from hb) (by simp),hok,.of_eq hg⟩
  refine fR ((F _ hKb (nsK hns)).run callerA [] s₁ H ⟨[.ref a],[]⟩ [.ref a] [.ref a] _ _ hr e0 (hbind s₁ (.ref a)) (.cons rfl .nil) (hsp H hS hT)) fun r s' h=>?_
  cases r with
  | error e=>exact (hCX H e s' h).elim
  | ok fl =>
   cases fl with
   | next=>exact False.elim h
   | brk=>exact False.elim h
   | cont=>exact False.elim h
   | ret u =>
    obtain⟨v,H',os,bare,un,hok',r',qv⟩:=h
    have qv':v=.bl true:=qv
    subst qv'
    obtain rfl:u=Value.bool true:=r'
    refine⟨rfl,⟨fun b o e=>?_,fun b o e=>un.there b o e (by simp)⟩,os,bare⟩
    cases qb:H b with
    | none=>exact .inl (un.keep b o e qb (by intro z;exact absurd (show b∈([]:List Addr) from z) (by simp)) (by simp))
    | some u =>
     rcases hA b (by rw[qb];simp) with z | ⟨z,ob,xs,z1⟩
     ·subst z
      rw[hPt] at e;cases e
      obtain⟨more,z2⟩:=un.tbls b _ hT
      obtain⟨qs,z3,_⟩:=(show bM P w H' s'.heap b _ from hok' b _ z2)
      exact .inr (.inl ⟨(hCd.tab hPt).isCodeTable,rfl,#[],qs,rfl,by simpa using z3⟩)
     ·have z2:=un.frzs b ob _ z1
      obtain⟨e1,_⟩:=hok b _ z1
      obtain⟨e2,_⟩:=hok' b _ z2
      rw[e] at e1;cases e1
      exact .inl e2
 have okT:∀ H:Hp,bM P w H s₁.heap Pt (nA q):=fun H=>⟨#[],hPt,trivial,fun pos c z=>by simp [codeAmong] at z⟩
 cases hk:K.lookup a with
 | some o =>
  have e:=KX a o hk
  rw[ha] at e
  cases e
  refine core (fun b=>if b=Pt then some (nA q) else none) (.inr ⟨_,vs.toArray,_,hk,rfl,rfl,rfl,by rw[br,lenV];exact hl,by simpa using rv⟩) (fun b u z=>?_) (if_pos rfl) (fun b z=>?_) fun z=>absurd (if_neg (bt nPa)) z
  ·by_cases hb':b=Pt
   ·have z':=(if_pos hb').symm.trans z
    cases z'
    subst hb'
    exact okT _
   ·have z':=(if_neg hb').symm.trans z
    cases z'
  ·by_cases hb':b=Pt
   ·exact .inl hb'
   ·exact absurd (if_neg hb') z
 | none =>
  refine core (fun b=>if b=Pt then some (nA q) else if b=a then some (.frz { cls:=.type "list",data:=.seq vs.toArray } (.lst (ns.map V.int))) else none) (.inl (.inr ⟨{ cls:=.type "list",data:=.seq vs.toArray },(if_neg (bt nPa)).trans (if_pos rfl)⟩)) (fun b u z=>?_) (if_pos rfl) (fun b z=>?_) fun _=>hk
  ·by_cases hb':b=Pt
   ·have z':=(if_pos hb').symm.trans z
    cases z'
    subst hb'
    exact okT _
   ·have z0:=(if_neg hb').symm.trans z
    clear z
    have z:=z0
    by_cases hb2:b=a
    ·have z':=(if_pos hb2).symm.trans z
     cases z'
     subst hb2
     exact⟨ha,by rw[List.length_map];exact hl,vs,_,rv,ha⟩
    ·have z':=(if_neg hb2).symm.trans z
     cases z'
  ·by_cases hb':b=Pt
   ·exact .inl hb'
   ·by_cases hb2:b=a
    ·exact .inr ⟨hb2,_,_,(if_neg hb').trans (if_pos hb2)⟩
    ·exact absurd ((if_neg hb').trans (if_neg hb2)) z
theorem FX {l:PySem.W.OpenLaw}{n k:Nat}{qq:Program}{loose:List Str}{XP:(Str->Option Value)->Heap->Prop}{YP:World->Heap->Prop}{d:DefRec}{K:Params->PySem.W.Frag}{CX:World->CXT}{sp:World->Sp}{x:Str}{Pt:Addr} (q:Str)
  (hn:l.most=some n) (hn2:n<=sizeLine) (hdf:d.params.defaults=[]) (hr:eP k callerA)
  (hY:∀ (w:World) (h:Heap),YP w h->(K w.params).In h/\h.get? Pt=some { cls:=.none,data:=.fields #[] })
  (F:∀ (w:World) (mg:Str->Option Value) (fa:Addr) (h:Heap),(K w.params).In h->h.Ns mainGlobals mg->mg d.name=some (.ref fa) →
   (∃ c,PySem.W.codeHdIn (K w.params) c Pt=true)/\∃ fd:FuncData,(∀ (s:Shared) (u:Value),BindsTo s fd ⟨[u],[]⟩ [(x,u)]) ∧
    ∀ base:Heap,(K w.params).In base->base.Ns mainGlobals mg->bJ l.prog w (K w.params) mg base (CX w) k fa fd [x] (sp w))
  (hKP:∀ w:World,(K w.params).lookup Pt=none)
  (hsp:∀ (w:World) (H:Hp) (a:Addr) (ns:List Int),ns.length<=n->SqL (K w.params) H a (ns.map V.int)->H Pt=some (nA q)->sp w [.ref a] H (fun v _=>v=.bl true) fun _ _ _=>False)
  (hCX:∀ (w:World) (H:Hp) (s:Shared) (e:Value) (s':Shared),CX w [] H s (fun _ _ _=>False) e s'->False) :
  PySem.W.WalkO qq loose XP YP l.row.toRowW d [] (fun f vs=>PySem.call f vs):=by
 refine Att.wG hn hdf fun w s₀ s₁ mg mb fa o pm cd doc a vs ns G Y ho hd hcd hmg hobj hints hlen hg=>?_
 obtain⟨KX,hPt⟩:=hY w _ Y
 obtain⟨⟨c,hC⟩,fd,hb,hF⟩:=F w mg fa _ KX G.T.g hmg
 exact CC (q:=q) KX G.T.g G.T.b G.T.builtins G.T.nolimit G.T.bmain hg hobj hints (aK hlen hn2) hr hC hPt (hKP w) hF hb (fun H hS hT=>hsp w H a ns hlen hS hT) fun H e s'=>hCX w H s₁ e s'
section
variable {P:Program}{w:World}{K:PySem.W.Frag}{mg:Str->Option Value}{base:Heap}
end
end
section
theorem iV:∀ {zs:List Str}{us:List Value},StrsAre us zs->Vals (zs.map V.str) us
 | _,_,.nil=>.nil
 | _,_,.cons z t h=>.cons ⟨t,rfl⟩ (iV h)
section
variable {prog:Program}{w:World}{A:Around}{E:Value->Shared->Prop}{s:Shared}
end
section
variable {prog:Program}{w:World}{A:Around}{E:Value->Shared->Prop}{s:Shared}
end
section
variable {α:Type}
theorem KG {p:List α->Prop} (h:p []) (us:List α) (e:us.length=0):p us:=by
 cases us with
 | nil=>exact h
 | cons _ _=>cases e
theorem bind1 {p:List α->Prop} (h:∀ a,p [a]) (us:List α) (e:us.length=1):p us:=by
 cases us with
 | nil=>cases e
 | cons a r=>exact KG (p:=fun r=>p (a::r)) (h a) r (Nat.succ.inj e)
theorem cJ {p:List α->Prop} (h:∀ a b,p [a,b]) (us:List α) (e:us.length=2):p us:=by
 cases us with
 | nil=>cases e
 | cons a r=>exact bind1 (p:=fun r=>p (a::r)) (h a) r (Nat.succ.inj e)
theorem oF {p:List α->Prop} (h:∀ a b c,p [a,b,c]) (us:List α) (e:us.length=3):p us:=by
 cases us with
 | nil=>cases e
 | cons a r=>exact cJ (p:=fun r=>p (a::r)) (h a) r (Nat.succ.inj e)
theorem Ar {p:List α->Prop} (h:∀ a b c d,p [a,b,c,d]) (us:List α) (e:us.length=4):p us:=by
 cases us with
 | nil=>cases e
 | cons a r=>exact oF (p:=fun r=>p (a::r)) (h a) r (Nat.succ.inj e)
end
end
section
end
section
section
variable {X:Cx}
end
section
variable {prog:Program}{w:World}{A:Around}{E:Value->Shared->Prop}{s:Shared}
end
section
variable {X:Cx}
end
end
section
structure Ga (K:PySem.W.Frag) (x qual:Str) (st:Stmt) (f:Addr) (fd:FuncData):Prop where
 ex:∃ (oc:Value) (od:Option Addr) (dV kV doc pm:Value) (an:Option Addr) (cdv ct:Value) (osl:Array (Option Value)),
  fd=PySem.W.fnOf x qual (cK st) (cA st) (ar st) dV kV doc pm an cdv ct/\K.lookup f=some ⟨oc,od,.func fd,osl⟩/\PySem.W.codeIn K cdv qual=true
 kp:PySem.W.keepIn K (.ref f)=true
section
variable {P:Program}{w:World}{K:PySem.W.Frag}{mg:Str->Option Value}{base:Heap}
theorem Ha {x qual:Str}{f:Addr}{oc:Value}{od an:Option Addr}{osl:Array (Option Value)}{dV kV doc pm cdv ct:Value} (l:K.lookup f=some ⟨oc,od,.func (PySem.W.fnOf x qual (cK st) (cA st) (ar st) dV kV doc pm an cdv ct),osl⟩)
  (c:PySem.W.codeIn K cdv qual=true) (k:PySem.W.keepIn K (.ref f)=true):Ga K x qual st f (PySem.W.fnOf x qual (cK st) (cA st) (ar st) dV kV doc pm an cdv ct):=⟨⟨oc,od,dV,kV,doc,pm,an,cdv,ct,osl,rfl,l,c⟩,k⟩
theorem Ga.okT {x qual:Str}{f c:Addr}{N ps:List Str}{k:Nat} (F:Ga K x qual st f fd) (hc:fd.code=.ref c) (S:aG N ps (ar st)) (len:∀ vs H Q E,sp vs H Q E->vs.length=ps.length)
  (hbody:∀ (A:Around) (outer:List Env) (s:Shared) (H:Hp) (vs:List V) (Q:VK) (E:XK),eP k (A.deeper (envOfC qual (ar st) s.heap.objs.size f (.ref c)))->sp vs H Q E →
   ∃ t,PSs (ui (CX1 P w) P w K mg base N qual (ar st) f (.ref c) A outer s H E) (cA st) t/\t { nx:=fun _ H'=>Q .non H',rt:=Q } (start N vs) H):bJ P w K mg base (CX1 P w) (k+1) f fd ps sp:=by
 obtain⟨oc,od,dV,kV,doc,pm,an,cdv,ct,osl,rfl,lk,hcd⟩:=F.ex
 have e:cdv=.ref c:=hc
 subst e
 exact Iq lk hcd S len fun A outer s H vs Q E hr hsp=>hbody A outer s H vs Q E hr hsp
end
structure LK (P:Program) (w:World) (K:PySem.W.Frag) (mg:Str->Option Value) (base:Heap) (CX:CXT) (C:Addr) (m:Str) (k:Nat) (ps:List Str) (sp:Sp):Prop where
 ex:∃ (f:Addr) (fd:FuncData),bJ P w K mg base CX k f fd ps sp/\Meth K C m f/\Binds K fd ps [.none]
 cl:Cls K C
section
variable {X:Cx}{CX:CXT}{E:St->XK}
end
section
variable {X:Cx}{pins:List (Addr×Obj)}{σ:St}{H:Hp}{s:Shared}
abbrev AR (q:Str) (params:Arguments) (body:Expr) (scope:Scope) (cl:List (Str×Addr)) (pm cd ctv:Value):Obj :=
 { cls:=.type "function",data:=.func (PySem.W.kla_fn "<lambda>" q params body scope cl pm cd ctv) }
theorem CB {A:Around}{E:Value->Shared->Prop}{Q:Value->Shared->Prop}{P c:Addr}{params:Arguments}{body:Expr}{scope:Scope}{lpos:Pos}{cl:List (Str×Addr)} (I:Inv X pins σ H s) (e:H P=some (nA q))
  (hcd:X.env.code=.ref c) (hC:PySem.W.codeHdIn X.K c P=true) (hq:X.env.qual++"<lambda>"=q) (hd:defaultsOf params X.env=([],[])) (hcl:clo X.env.cells scope.names []=some cl)
  (k:∀ f c' ctv H' s',Inv X pins σ H' s'->aw H H'->H f=none->H' f=some (.frz (AR q params body scope cl ((X.mg "__name__").getD .none) (.ref c') ctv) (.own P))->oz H' P q c'->Q (.ref f) s') :
  wpAny (model X.prog X.w) A (eval (.Lambda params body scope lpos) X.env) Q E s:=by
 refine PySem.W.kla_eval hd ?_
 rw[hq]
 have C:=PySem.W.codeHd_of_K I.kIn hC
 obtain⟨qs,g1,g2,g3⟩:=tab_of I e
 have hg:=I.mod.glob.keeps I.bk
 obtain⟨bm,ob,b1,b2,b3,b4,b5,b6⟩:=I.mod.bmn
 have hgP:mainGlobals≠P:=fun z=>by
  obtain⟨o,es,ep,w1,w2,_⟩:=I.mod.glob
  have:=(I.bs _ _ w1).2
  rw[z,e] at this;cases this
 have hbP:bm≠P:=fun z=>by
  have:=(I.bs _ _ b3).2
  rw[z,e] at this;cases this
 have hbG:bm≠mainGlobals:=fun z=>by
  obtain⟨o,es,ep,w1,w2,_⟩:=I.mod.glob
  rw[z,w1] at b3;cases b3;rw[w2] at b6;cases b6
 have hb:s.heap.BuiltinsAt X.mg P:=⟨bm,ob,b1,b2,hbG,hbP,I.bk _ _ b3,b4,b5,b6⟩
 have hcl':=ja hcl
 cases hf:codeAmong lpos qs.toList with
 | none =>
  refine PySem.W.kla_makeFunction (mg:=X.mg) hcl' I.ok.glob hg hcd C g1 g2 hf hgP hb fun c' ctv h' tk hx hge hlt hrec htb=>?_
  obtain⟨c2,oc,vs,t,z1,z2,z3,z4⟩:=id hrec
  cases z1
  have I1:Inv X pins σ (upd H c' (.frz oc (.own P))) { s with heap:=h',toks:=tk }:=I.tabled (ps:=qs) e (fun b o hb z=>hx b o hb z) hge htb (by simpa using TriplesOk_snoc _ _ _ _ g2) (fun pos x z=>yC qs.toList g2 x (by simpa using z)) g1 z2 z3 z4
  have hn:=I.hok.fresh hge
  have kp:∀ b o,h'.get? b=some o->(h'.push (PySem.W.kla_obj "<lambda>" q params body scope cl ((X.mg "__name__").getD .none) c' ctv)).get? b=some o:=fun b o z=>az _ z
  have hf1:=I1.hok.fresh (ak h'.objs.size)
  have hfH:H h'.objs.size=none:=I.hok.fresh (aP (cI hge hlt))
  refine k h'.objs.size c' ctv _ _ (I1.laid (a:=h'.objs.size) (o:=.frz (AR q params body scope cl ((X.mg "__name__").getD .none) (.ref c') ctv) (.own P)) (t':=tk) kp (ak _) ⟨aZ _ rfl,_,aZ _ rfl⟩) ((dv hn).trans (dv hf1)) hfH a8 ?_
  exact oz.same ⟨oc,vs,t,a8,z3,z4⟩ (dv hf1)
 | some cv =>
  obtain⟨c',oc,vs,t,a1,a2,a3,a4,a5⟩:=g3 lpos cv hf
  subst a1
  refine PySem.W.kla_makeFunctionHit (mg:=X.mg) hcl' I.ok.glob hg hcd C g1 g2 hf hb fun ctv h' tk hx hsz=>?_
  have kp:∀ b o,s.heap.get? b=some o->(h'.push { cls:=.type "function",data:=.func (PySem.W.kla_fn "<lambda>" q params body scope cl ((X.mg "__name__").getD .none) (.ref c') ctv) }).get? b=some o:=fun b o z=>az _ (hx b o z)
  have hf1:=I.hok.fresh hsz
  refine k h'.objs.size c' ctv _ _ (I.laid (a:=h'.objs.size) (o:=.frz (AR q params body scope cl ((X.mg "__name__").getD .none) (.ref c') ctv) (.own P)) (t':=tk) kp hsz ⟨aZ _ rfl,_,aZ _ rfl⟩) (dv hf1) hf1 a8 ?_
  exact oz.same ⟨oc,vs,t,a2,a4,a5⟩ (dv hf1)
def qj (q:Str) (Pt:Addr) (H:Hp) (f:Addr):Prop:=∃ (pm ctv:Value) (c':Addr) (params:Arguments) (scope:Scope) (x:Str) (j:Nat) (p:Pos),
 H f=some (.frz (AR q params (.Constant (.bool false) j p) scope [] pm (.ref c') ctv) (.own Pt))/\oz H Pt q c' ∧
 (∀ u:Value,bindArgs (PySem.W.kla_fn "<lambda>" q params (.Constant (.bool false) j p) scope [] pm (.ref c') ctv) ⟨[u],[]⟩=pure [(x,u)]) ∧
 scope.isCoroutine=false/\scope.isGenerator=false/\scope.kind=.function/\(∀ y∈scope.names,y.2≠.cell)/\scope.names.lookup x=some .local
theorem qj.same {q:Str}{Pt f:Addr}{H H':Hp} (h:qj q Pt H f) (s:aw H H'):qj q Pt H' f:=by
 obtain⟨pm,ctv,c',params,scope,x,j,p,h1,h2,h3⟩:=h
 exact⟨pm,ctv,c',params,scope,x,j,p,s _ _ h1,h2.same s,h3⟩
theorem DJ {R:Value->Shared->Prop}{E:Value->Shared->Prop}{Pt f:Addr}{u:Value} (I:Inv X pins σ H s) (hr:A.depth<recursionLimit) (B:qj q Pt H f) (k:∀ s',Inv X pins σ H s'->R (.bool false) s') :
  wpAny (model X.prog X.w) A (call (.ref f) [u]) R E s:=by
 obtain⟨pm,ctv,c',params,scope,x,j,p,hf,hc,hbind,hco,hgen,hk,hcell,hx⟩:=B
 have hf':=(I.hok f _ hf).1
 refine iE (PySem.W.kla_callFunE hr hf' rfl hco hgen rfl (hc.rec I) ?_)
 rw[hbind]
 refine ah (wpAny_newFunctionEnv hcell (fun y hy=>by rw[aV.mp hy];exact hx) (fun h₁ hns hsb=>⟨(I.nolimit).fresh _ hsb,?_⟩) hk)
 show codeAny _ _ (.expr _ (PySem.W.envX q scope s.heap.objs.size f (.ref c') [])) _ _
 have k1:∀ b o,s.heap.get? b=some o->h₁.get? b=some o:=fun b o z=>hsb.extBut b o (aS (aB z)) (az _ z)
 have I1:Inv X pins σ H { s with heap:=h₁,toks:=s.toks+1 }:=I.kept (t':=s.toks+1) k1
 refine PySem.W.kla_codeExpr ?_
 exact Constant_bool (k _ I1)
end
def IP (q:Str) (Pt:Addr):TE:=fun _ H Q=>H Pt=some (nA q)/\∀ f H',H f=none->aw H H'->qj q Pt H' f->Q (.ref f) H'
theorem Gs {q:Str}{Pt:Addr}{σ:St}{H:Hp}{Q:VK}:IP q Pt σ H Q=(H Pt=some (nA q)/\∀ f H',H f=none->aw H H'->qj q Pt H' f->Q (.ref f) H'):=propext Iff.rfl
def FK (q:Str) (Pt:Addr) (tv:TE) (t:TA):TE:=fun σ H Q=>tv σ H fun x H1=>∃ f,x=.ref f/\qj q Pt H1 f/\t σ H1 fun vs H2=>qj q Pt H2 f/\vs.length=1/\Q (.bl false) H2
theorem D3 {q:Str}{Pt:Addr}{tv:TE}{t:TA}{σ:St}{H:Hp}{Q:VK}:FK q Pt tv t σ H Q=tv σ H fun x H1=>∃ f,x=.ref f/\qj q Pt H1 f/\t σ H1 fun vs H2=>qj q Pt H2 f/\vs.length=1/\Q (.bl false) H2:=propext Iff.rfl
section
variable {X:Cx}
theorem Hw {Pt c:Addr}{q x:Str}{params:Arguments}{j:Nat}{p lpos:Pos} (hcd:X.env.code=.ref c) (hC:PySem.W.codeHdIn X.K c Pt=true) (hq:X.env.qual++"<lambda>"=q) (hcl:clo X.env.cells scope.names []=some [])
  (hx:scope.names.lookup x=some .local)
  (hbind:∀ (pm ctv:Value) (c':Addr) (u:Value),bindArgs (PySem.W.kla_fn "<lambda>" q params (.Constant (.bool false) j p) scope [] pm (.ref c') ctv) ⟨[u],[]⟩=pure [(x,u)])
  (hd:defaultsOf params X.env=([],[]):=by rfl)
  (hco:scope.isCoroutine=false:=by rfl) (hgen:scope.isGenerator=false:=by rfl) (hk:scope.kind=.function:=by rfl) (hcell:∀ y∈scope.names,y.2≠.cell:=by decide +kernel) :
  PE X (.Lambda params (.Constant (.bool false) j p) scope lpos) (IP q Pt):=by
 intro pins s σ H Q I h
 obtain⟨h1,h2⟩:=h
 exact CB I h1 hcd hC hq hd hcl fun f c' ctv H' s' I' sm hn hf hc=>⟨.ref f,H',I',rfl,h2 f H' hn sm ⟨_,ctv,c',params,scope,x,j,p,hf,hc,fun u=>hbind _ _ _ u,hco,hgen,hk,hcell,hx⟩⟩
theorem tp {q x:Str}{tv:TE}{t:TA}{p pos:Pos}{k:Nat} (hv:PE X (.Name x p) tv) (hr:eP k X.A) (ha:PA X [e] t) (hs:dH [e]=true:=by kernel_rfl):PE X (.Call (.Name x p) [e] [] pos) (FK q Pt tv t):=by
 intro pins s σ H Q I h
 refine kB (thn (hv pins s σ H _ I h) fun u s1 ⟨v,H1,I1,r,f,ev,B1,q1⟩=>?_)
 subst ev
 cases r
 have fnA:∀ {H:Hp}{s:Shared},Inv X pins σ H s->qj q Pt H f->PySem.W.FnAt f s.heap:=fun I B=>by
  obtain⟨pm,ctv,c',params,scope,x,j,p,hf,_⟩:=B
  exact⟨_,_,_,_,(I.hok f _ hf).1⟩
 refine PySem.W.callWith_F (fnA I1 B1) (thn (ha pos pins s1 σ H1 _ I1 q1) fun us s2 ⟨vs,H2,I2,r2,B2,l2,q2⟩=>⟨fnA I2 B2,?_⟩) (aW (bg hs).1) (cY (bg hs).2)
 obtain⟨u,rfl⟩:∃ u,us=[u]:=by
  have:=r2.length
  rw[l2] at this
  exact List.length_eq_one_iff.mp this.symm
 exact DJ I2 hr.depth B2 fun s3 I3=>⟨.bl false,H2,I3,rfl,q2⟩
end
def Fw:List V->Hp->VK->Prop:=fun vs H Q=>match vs with
 | [.ref a]=>∃ kvs,Rd H a (.dK kvs)/\Q (.int kvs.length) H
 | _=>False
theorem Ef {a:Addr}{H:Hp}{Q:VK}:Fw [.ref a] H Q=(∃ kvs,Rd H a (.dK kvs)/\Q (.int kvs.length) H):=propext Iff.rfl
theorem BD :cW X (.builtin "len") Fw:=by
 intro pins s σ H xs us Q I r h
 rcases xs with _ | ⟨x0,t⟩
 ·exact h.elim
 cases x0<;>try exact h.elim
 cases t<;>try exact h.elim
 next a =>
  obtain⟨kvs,ha,q⟩:=h
  obtain⟨u,rfl,r2⟩:=vals1 r
  cases r2
  exact KJ I ha fun t s' I'=>⟨.int kvs.length,H,I',⟨t,rfl⟩,q⟩
section
variable {prog:Program}{w:World}{A:Around}{E:Value->Shared->Prop}{s:Shared}
end
end
section
section
variable {prog:Program}{w:World}{A:Around}{E:Value->Shared->Prop}{s:Shared}
end
section
variable {X:Cx}
end
end
section
end
section
section
variable {prog:Program}{w:World}{A:Around}{E:Value->Shared->Prop}{h:Heap}{g:Array GenState}{d:Drawn}{t:Nat}{os:OsState}
variable {nm q:Str}{C N:Addr}{bs bm bmB:List Value}{hdct:Bool}{sn:List Str}{sub:List Value}{ab:Bool}{col:Option Bool}{dd:Option Addr}{k0 k1 k2 k3 k5:Option Value}{B newId initId:String}
abbrev gd (C t:Addr) (dx:Option Addr):Obj:={ cls:=.ref C,dict:=dx,data:=.fields #[.ref t,.none,.none,.none,.bool false,.none] }
abbrev oC (vs:List Value):Obj:={ cls:=.type "tuple",data:=.seq vs.toArray }
theorem HN (F:ExcBaseFacts B newId initId bmB) (T:OwnTail h bmB bm) {mN:Str->Option Value}{rest:List Value}{fI:Addr}{oI:Obj}{Q:Fin->Shared->Prop}
  (hC:h.get? C=some (excClassObj nm q C N bs bm hdct sn sub ab col dd k0 k1 k2 k3 k5 newId)) (hn:h.Ns N mN) (hi:mN "__init__"=some (.ref fI)) (hfI:h.get? fI=some oI) (hfc:oI.cls=.type "function") (hz:rest.length<=sizeLine)
  (k:wpAny (model prog w) A (call (.ref fI) (.ref (h.objs.size+1)::rest)) (fun r s'=>r=.none/\Q (.done (.ret (.ref (h.objs.size+1)))) s') E ⟨(h.push (oC rest)).push (gd C h.objs.size none),g,d,t,os⟩) :
  wpAny (model prog w) A (Builtin.«type.__call__» ⟨.ref C::rest,[]⟩) Q E ⟨h,g,d,t,os⟩:=by
 have up:∀ b o,h.get? b=some o->((h.push (oC rest)).push (gd C h.objs.size none)).get? b=some o:=fun b o e=>az _ (az _ e)
 have hC':=up _ _ hC
 have he:((h.push (oC rest)).push (gd C h.objs.size none)).get? (h.objs.size+1)=some (gd C h.objs.size none):=by heap_get
 have own:(Value.ref C::bm).contains (.ref C)=true:=by simp
 repeat (first | with_reducible refine nc hC ?_ | with_reducible refine wpAny_madeBy_exc hC ?_ | wp_step)
 refine codeAny_call_builtin_code (Code.quiet_builtin _ F.quiet) (wpAny_check_new_subT F T hC (codeAny_exc_new_subT F T hC ?_ hz))
 show wpAny _ _ _ _ _ _
 unfold isInstance
 repeat (first | with_reducible refine nc he ?_ | (with_reducible refine wpAny_isSubtype_exc hC' ?_;rw[own]) | wp_step)
 show wpAny _ _ (typeLookup (.ref C) _) _ _ _
 refine wpAny_typeLookup_tail hC' (hn.keeps up) (T.keeps up) F.mroIs F.init.lookup ?_
 rw[hi]
 refine dE (aa ?_)
 unfold bindSpecial
 refine aa (wpAny_typeOf (T:="function") ⟨_,up _ _ hfI,hfc⟩ ?_)
 rw[if_pos (by decide)]
 refine ah (aa (bO k (fun r s' z=>?_) fun _ _ z=>z))
 obtain⟨rfl,z⟩:=z
 wp_walk
 exact z
theorem HM (F:ExcBaseFacts B newId initId bmB) (T:OwnTail h bmB bm) {mN:Str->Option Value}{rest:List Value}{fI:Addr}{oI:Obj}{Q:Value->Shared->Prop}
  (hC:h.get? C=some (excClassObj nm q C N bs bm hdct sn sub ab col dd k0 k1 k2 k3 k5 newId)) (hn:h.Ns N mN) (hi:mN "__init__"=some (.ref fI)) (hfI:h.get? fI=some oI) (hfc:oI.cls=.type "function") (hz:rest.length<=sizeLine)
  (k:wpAny (model prog w) (A.under (.builtin "type.__call__" ⟨.ref C::rest,[]⟩)) (call (.ref fI) (.ref (h.objs.size+1)::rest)) (fun r s'=>r=.none/\Q (.ref (h.objs.size+1)) s') E ⟨(h.push (oC rest)).push (gd C h.objs.size none),g,d,t,os⟩) :
  wpAny (model prog w) A (call (.ref C) rest) Q E ⟨h,g,d,t,os⟩:=by
 have f1:=tc_lookup
 have f2:=tc_bind (.ref C)
 have ty:(⟨h,g,d,t,os⟩:Shared).TypeIs (.ref C) "type":=⟨_,hC,rfl⟩
 refine iE (codeAny_of_tree ?_)
 show wpAny _ _ (callAny (.ref C) _) _ _ _
 repeat (any_goals (first | assumption | with_reducible refine nc hC ?_ | wp_step))
 exact⟨rfl,codeAny_call_builtin_at (Code.quiet_builtin _ (by decide +kernel)) entry_typeCall (wpAny_check_type_call_sub hC (HN F T hC hn hi hfI hfc hz k))⟩
theorem FA {M:Model}{env:Env}{s:Shared}{x:Sem Value}{Q:Flow->Shared->Prop} (hbase:bm.contains (.type "BaseException")=true) (hh:A.handled=none)
  (k:wpAny M A x (fun v s₁=>∃ e t dx,v=.ref e/\s₁.heap.get? C=some (excClassObj nm q C N bs bm hdct sn sub ab col dd k0 k1 k2 k3 k5 newId)/\s₁.heap.get? e=some (gd C t dx)/\E (.ref e) s₁) E s) :
  wpAny M A (raiseStmt env (some x) none) Q E s:=by
 have has:(Value.ref C::bm).contains (.type "BaseException")=true:=by rw[List.contains_cons,hbase,Bool.or_true]
 unfold raiseStmt
 refine aa (bO k (fun v s₁ z=>?_) fun _ _ z=>z)
 obtain⟨e,t,dx,rfl,hC,he,hE⟩:=z
 obtain⟨hp,g,d,tk,os⟩:=s₁
 repeat (first | with_reducible refine nc he ?_ | with_reducible refine nc hC ?_ | (with_reducible refine wpAny_isSubtype_exc hC ?_;rw[has]) | wp_step)
 exact wpAny_raiseNew_none hh hE
end
def nI:List Value->Bool
 | .ref _::r=>nI r
 | l=>l==[.type "ValueError",.type "Exception",.type "BaseException",.type "object"]
theorem zf:∀ (l:List Value),nI l=true->l.contains (.type "object")=true/\∀ self,refuseLoop self "__setattr__" l=pure ():=by
 intro l
 induction l with
 | nil=>intro e;cases (fq.mp e:([]:List Value)=_)
 | cons v r ih =>
  intro e
  unfold nI at e
  split at e
  ·rename_i c r' z
   cases z
   obtain⟨h1,h2⟩:=ih e
   refine⟨by rw[List.contains_cons,h1,Bool.or_true],fun self=>?_⟩
   rw[refuseLoop_ref]
   exact h2 self
  ·have e':=fq.mp e
   rw[e']
   exact⟨by decide +kernel,fun self=>by kernel_rfl⟩
section
variable {prog:Program}{w:World}{A:Around}{E:Value->Shared->Prop}{s:Shared}{K:PySem.W.Frag}{x C t:Addr}{name:Str}{v:Value}
theorem Kp {Q:Unit->Shared->Prop} (X:K.In s.heap) (hx:s.heap.get? x=some (gd C t none)) (hs:PySem.W.findIn K (.ref C) "__setattr__"=some (some (.builtin "object.__setattr__")))
  (hp:((PySem.W.clsIn K C).any fun cd=>nI cd.mro)=true) (ht:PySem.W.takerIn K C name=some none) (hh:PySem.W.hasDictIn K C=true)
  (k:∀ h',h'.get? x=some (gd C t (some s.heap.objs.size))->h'.Ns1 s.heap.objs.size (fun y=>if y=name then some v else none)->(∀ b o,b≠x->s.heap.get? b=some o->h'.get? b=some o)->Q () { s with heap:=h',toks:=s.toks+2 }) :
  wpAny (model prog w) A (setAttr (.ref x) name v) Q E s:=by
 have J:PySem.W.InstAt s.heap x (gd C t none) C none:=⟨hx,rfl,rfl,trivial⟩
 refine PySem.W.set_plain X J hs ?_
 have SF:=PySem.F.store_object
 obtain⟨cd,hc,ho⟩:=PySem.W.any_some hp
 obtain⟨o1,o2⟩:=zf _ ho
 have ne:cd.mro.isEmpty=false:=by cases q:cd.mro with | nil=>rw[q] at o1;cases o1 | cons _ _=>rfl
 have sub:PySem.W.Looks (model prog w) s.heap (isInstance (.ref x) (.type "object")) true:=J.type.andThen (PySem.W.looks_mroIn X (by unfold PySem.W.mroIn;rw[hc,Option.bind_some,if_neg (by rw[ne];decide),o1]))
 refine codeAny_call_builtin SF.slot.plain SF.entry (@PySem.W.check_slot (model prog w) _ _ { s with toks:=s.toks+1 } "object.__setattr__" "object" "__setattr__" (.ref x) [.str name s.toks,v] [] _ SF.kind SF.split sub (SF.args (.ref x) (.str name s.toks) v) ?_)
 obtain⟨attr,ha,hr⟩:=Option.bind_eq_some_iff.mp ht
 have hm:PySem.W.Looks (model prog w) s.heap (mroOf (.ref C)) cd.mro:=(PySem.W.looks_clsIn X hc).andThen .now
 have L3:PySem.W.Looks (model prog w) s.heap (Builtin.ObjectAttr.storeTaker? attr) none:=by
  cases attr with
  | none=>exact .now
  | some a =>
   obtain⟨b,hb,e⟩:=dB.mp hr
   refine (PySem.W.looks_takesIn X hb).andThen ?_
   cases b with
   | false=>exact .now
   | true=>cases e
 rw[PySem.W.osa_eq,refuse_eq]
 refine aa (aa (J.type.here (s:={ s with toks:=s.toks+1 }) (aa (hm.here (s:={ s with toks:=s.toks+1 }) ?_))))
 rw[o2]
 refine ah (aa (J.type.here (s:={ s with toks:=s.toks+1 }) (aa ((PySem.W.looks_findIn X ha).here (s:={ s with toks:=s.toks+1 }) (aa (L3.here (s:={ s with toks:=s.toks+1 }) ?_))))))
 obtain⟨cd',hc',hd'⟩:=PySem.W.any_some hh
 refine aa (ah (aa (aa (wpAny_loadPart (s:={ s with toks:=s.toks+1 }) hx (aa (PySem.W.Looks.here (s:={ s with toks:=s.toks+1 }) (PySem.W.looks_clsIn X hc') ?_))))))
 rw[hd']
 rw[if_neg (by decide)]
 refine aa (m:=alloc PySem.W.emptyDict) (wpAny_alloc ?_)
 have e0:(s.heap.push PySem.W.emptyDict).get? x=some (gd C t none):=az _ hx
 have ed:(s.heap.push PySem.W.emptyDict).get? s.heap.objs.size=some PySem.W.emptyDict:=aZ s.heap rfl
 have nx:x≠s.heap.objs.size:=aS (aB hx)
 refine aa (wpAny_update (s:=⟨s.heap.push PySem.W.emptyDict,s.gens,s.drawn,s.toks+1,s.os⟩) e0 ?_)
 have upx:((s.heap.push PySem.W.emptyDict).update x fun o=>{ o with dict:=some s.heap.objs.size }).get? x=some (gd C t (some s.heap.objs.size)):=eZ _ e0 rfl
 have upo:∀ b o,b≠x->(s.heap.push PySem.W.emptyDict).get? b=some o->((s.heap.push PySem.W.emptyDict).update x fun o=>{ o with dict:=some s.heap.objs.size }).get? b=some o:=fun b o hb q=>(dw _ _ (bt hb)).trans q
 refine ah (a:=some s.heap.objs.size) (aa (ah (aa ?_)))
 have n0:((s.heap.push PySem.W.emptyDict).update x fun o=>{ o with dict:=some s.heap.objs.size }).Ns s.heap.objs.size (fun _=>none):=⟨PySem.W.emptyDict,#[],_,upo _ _ (bt nx) ed,rfl,(fun e he=>absurd he (by simp)),fun _=>rfl⟩
 refine wpAny_nsSet1 (s:=⟨(s.heap.push PySem.W.emptyDict).update x fun o=>{ o with dict:=some s.heap.objs.size },s.gens,s.drawn,s.toks+1,s.os⟩) (Heap.Ns1.of_empty n0) fun h' hn2 hs2=>?_
 obtain⟨oD,esD,epD,hoD,hdD,hcD⟩:=hn2.count (ns:=[name]) (fun y hy=>by
  by_cases z:y=name
  ·rw[z];simp
  ·exact absurd (if_neg z) hy)
 refine aa (wpAny_lookBehind hoD (by rw[hdD];exact pastItsLine_dict (aK hcD (by rw[aO];exact Nat.succ_le_succ (aT _)))) ?_)
 exact ah (k _ ((hs2.2 _ nx).trans upx) hn2 fun b o hb q=>(hs2.2 _ (aS (aB q))).trans (upo b o hb (az _ q)))
end
abbrev GP:List Value:=[.type "ValueError",.type "Exception",.type "BaseException",.type "object"]
theorem JN {N:Addr}{m:Str->Option Value}{v:Value} (X:K.In h) (G:h.Ns N m) (q:PySem.W.nsIn K N x=some (some v)):m x=some v:=by
 obtain⟨ob,ents,pp,h1,h2,_,h3⟩:=G
 unfold PySem.W.nsIn at q
 split at q
 next c d l n sl e1 =>
  have e2:=(X _ _ e1).symm.trans h1
  cases e2
  cases h2
  split at q
  next u e3 =>
   cases q
   rw[←h3]
   unfold nsFind findBy
   rw[←Array.find?_toList,e3]
   rfl
  next=>split at q<;>cases q
 next=>cases q
structure By (K:PySem.W.Frag) (C f:Addr):Prop where
 ex:∃ nm q N bs bm hdct sn sub ab col dd k0 k1 k2 k3 k5,K.lookup C=some (excClassObj nm q C N bs bm hdct sn sub ab col dd k0 k1 k2 k3 k5 "ValueError.__new__")/\PySem.W.nsOkIn K N=true/\PySem.W.nsIn K N "__init__"=some (some (.ref f))/\PySem.W.tailIn K GP bm=true
 fn:PySem.W.isFn K (.ref f)=true
 kp:PySem.W.keepIn K (.ref C)=true
theorem By.at {C f:Addr} (O:By K C f) (X:K.In h) :
  ∃ nm q N bs bm hdct sn sub ab col dd k0 k1 k2 k3 k5 mN oI,h.get? C=some (excClassObj nm q C N bs bm hdct sn sub ab col dd k0 k1 k2 k3 k5 "ValueError.__new__")/\h.Ns N mN/\mN "__init__"=some (.ref f)/\OwnTail h GP bm/\h.get? f=some oI/\oI.cls=.type "function":=by
 obtain⟨nm,q,N,bs,bm,hdct,sn,sub,ab,col,dd,k0,k1,k2,k3,k5,h1,h2,h3,h4⟩:=O.ex
 have hns:h.Ns N _:=.of_isNs (PySem.W.isNs_of_in X h2)
 have hf:PySem.W.typeIn K (.ref f)=some (.type "function"):=fq.mp O.fn
 have:∃ oI,h.get? f=some oI/\oI.cls=.type "function":=by
  have hf':(K.lookup f).map (fun o=>o.cls)=some (.type "function"):=hf
  obtain⟨o,q1,q2⟩:=dB.mp hf'
  exact⟨o,X _ _ q1,q2⟩
 obtain⟨oI,i1,i2⟩:=this
 exact⟨nm,q,N,bs,bm,hdct,sn,sub,ab,col,dd,k0,k1,k2,k3,k5,_,oI,X _ _ h1,hns,JN X hns h3,PySem.W.tail_of_in X h4,i1,i2⟩
def xiO (e C:Addr) (dx:Option Addr):HO:=.ext fun h=>∃ t,h.get? e=some (gd C t dx)
theorem An {e C t:Addr}{dx:Option Addr} (q:h.get? e=some (gd C t dx)):bM P w H h e (xiO e C dx):=⟨⟨t,q⟩,⟨_,q⟩,fun _ _ ⟨t,q⟩ k=>⟨t,k _ q⟩⟩
def hid (e:Addr) (H:Hp):Hp:=fun b=>if b=e then none else H b
theorem oG {e:Addr}:hid e H e=none:=by unfold hid;rw[if_pos rfl]
theorem fA {e b:Addr} (h:b≠e):hid e H b=H b:=by unfold hid;rw[if_neg h]
structure Dw (P:Program) (w:World) (K:PySem.W.Frag) (mg:Str->Option Value) (base:Heap) (CX:CXT) (C:Addr) (x:Str) (k:Nat) (ps:List Str) (sp:Sp):Prop where
 ex:∃ (f:Addr) (fd:FuncData),bJ P w K mg base CX k f fd ps sp/\By K C f/\Binds K fd ps []
 mg:mg x=some (.ref C)
section
variable {X:Cx}{pins:List (Addr×Obj)}{σ:St}{H:Hp}{s:Shared}
theorem Inv.hid {e:Addr}{φ:Heap->Prop} (I:Inv X pins σ H s) (h0:X.s₀.heap.objs.size<=e) (he:H e=some (.ext φ)):Inv X pins σ (L2.hid e H) s:=by
 have ne:∀ b u,X.s₀.heap.get? b=some u->b≠e:=fun b u q z=>absurd (aB q) (by rw[z];exact Nat.not_lt.mpr h0)
 have no:∀ b,H b=none->L2.hid e H b=none:=fun b q=>by unfold L2.hid;split;rfl;exact q
 refine⟨I.ok,I.os,I.bare,⟨I.base.keep,I.base.slot,fun b o q n hx=>no b (I.base.free b o q n hx),I.base.there,fun b xs q=>?_,fun b ob u q=>?_,fun b ps q=>?_⟩,I.loc,I.cell,no _ I.free,fun x c q=>no _ (I.freeC x c q),fun p hp=>?_,fun b u q=>?_,I.len⟩
 ·have z:=I.base.tups b xs q
  rw[fA (fun y=>by rw[y,he] at z;cases z)];exact z
 ·have z:=I.base.frzs b ob u q
  rw[fA (fun y=>by rw[y,he] at z;cases z)];exact z
 ·obtain⟨m,z⟩:=I.base.tbls b ps q
  exact⟨m,by rw[fA (fun y=>by rw[y,he] at z;cases z)];exact z⟩
 ·obtain⟨q1,q2,q3⟩:=I.pin p hp
  exact⟨q1,no _ q2,q3⟩
 ·have hb:b≠e:=fun z=>by rw[z,oG] at q;cases q
  rw[fA hb] at q
  refine (I.hok b u q).lM (fun _ _ _ z=>z) (fun c z=>?_) (fun c xs z=>?_) fun c ob u' z=>?_
  ·rw[fA (fun y=>by rw[y,he] at z;cases z)];exact z
  ·rw[fA (fun y=>by rw[y,he] at z;cases z)];exact z
  ·rw[fA (fun y=>by rw[y,he] at z;cases z)];exact z
def Ap (X:Cx) (E:St->XK):Prop:=∀ (pins:List (Addr×Obj)) (σ:St) (H:Hp) (s:Shared) (e C t dx:Addr),Inv X pins σ H s->X.s₀.heap.objs.size<=e->s.heap.get? e=some (gd C t (some dx))->H e=none->(∃ fs,H dx=some (.xd fs))->E σ (.ref C) (some dx) H->X.xe (.ref e) s
end
section
variable {P:Program}{w:World}{K:PySem.W.Frag}{mg:Str->Option Value}{base:Heap}{N:List Str}{qual:Str}{scope:Scope}{f:Addr}{cd:Value}{A:Around}{outer:List Env}{s:Shared}{H:Hp}{E:XK}
theorem nS:Ap (ui (CX1 P w) P w K mg base N qual scope f cd A outer s H E) (fun _=>E):=by
 intro pins σ H1 s1 e C t dx I h0 het hn hdx hE
 show wpAny _ _ _ _ _ _
 have hin:∀ env∈(envOfC qual scope s.heap.objs.size f cd::outer),∀ b,env.frame=some b->b∈e::frs (envOfC qual scope s.heap.objs.size f cd::outer):=fun env he b hb=>List.mem_cons_of_mem _ (mR.mpr ⟨env,he,hb⟩)
 have st:(PySem.W.hideAll s1.heap (e::frs (envOfC qual scope s.heap.objs.size f cd::outer))).StaysIn s1.heap:=fun b o q=>PySem.W.of_hideAll _ q
 have ff:s1.heap.FunFrames (PySem.W.hideAll s1.heap (e::frs (envOfC qual scope s.heap.objs.size f cd::outer))) (envOfC qual scope s.heap.objs.size f cd::outer):=PySem.W.funFrames_hide I.stack hin
 have hen:(PySem.W.hideAll s1.heap (e::frs (envOfC qual scope s.heap.objs.size f cd::outer))).get? e=none:=PySem.W.hideAll_none _ List.mem_cons_self
 refine bO (KD.any (E:=fun _ _=>False) (nK _ _) (wpAny_leaving_firstW (a0:=.ref t) (oe:=gd C t (some dx)) (Q:=fun _ s''=>∃ h',s''={ s1 with heap:=h' }/\Heap.FlyingW (PySem.W.hideAll s1.heap (e::frs (envOfC qual scope s.heap.objs.size f cd::outer))) outer e (.ref C) (.ref t) h'/\s1.heap.UpToSlots h') I.ok.frames ff rfl het st hen rfl rfl rfl fun h' hL=>?_)) ?_ (fun _ _ z=>False.elim z.1)
 ·obtain⟨k1,⟨_,_,k2⟩,k3,k4⟩:=hL
  exact⟨h',rfl,⟨k1,hen,k2,k3⟩,k4⟩
 rintro _ s'' ⟨⟨h',rfl,x1,x4⟩,dk⟩
 obtain⟨u1,u2,u3⟩:=sr (h':=h') I rfl rfl rfl x1.1 x4 (fun b o e1 e2 e3=>PySem.W.hideAll_get _ e1 (fun z=>by
  rcases aI.mp z with z | z
  ·subst z
   rcases e3 with q | ⟨u,q⟩
   ·exact q hn
   ·exact absurd (aB q) (Nat.not_lt.mpr h0)
  ·exact e2 z))
 obtain⟨oe',hoe',_,hd',hg'⟩:=dk e _ het
 exact⟨e,C,t,_,H1,some dx,rfl,I.os,I.bare,u1,u2,x1,⟨oe',hoe',XD.dk ⟨rfl,_,rfl,rfl⟩ hd' hg'⟩,(fun dx' z=>by cases z;exact hdx),u3,hE⟩
end
def Bk (C:Addr) (sp:Sp) (E:St->XK) (t:TA):TS:=fun _ σ H=>t σ H fun vs H1=>vs.length<=sizeLine/\∀ e H2,H1 e=none->aw H1 H2->H2 e=some (xiO e C none) →
 sp (.ref e::vs) H2 (fun v H3=>v=.non/\∃ dx fs,H3 e=some (xiO e C (some dx))/\H3 dx=some (.xd fs)/\E σ (.ref C) (some dx) (hid e H3)) (fun _ _ _=>False)
theorem B5 {C:Addr}{sp:Sp}{E:St->XK}{t:TA}{D:Ends}{σ:St}{H:Hp}:Bk C sp E t D σ H=t σ H fun vs H1=>vs.length<=sizeLine/\∀ e H2,H1 e=none->aw H1 H2->H2 e=some (xiO e C none) →
 sp (.ref e::vs) H2 (fun v H3=>v=.non/\∃ dx fs,H3 e=some (xiO e C (some dx))/\H3 dx=some (.xd fs)/\E σ (.ref C) (some dx) (hid e H3)) (fun _ _ _=>False):=propext Iff.rfl
section
variable {X:Cx}
theorem qI {C:Addr}{k:Nat}{ps:List Str}{E:St->XK}{e₀:Expr}{rest:List Expr}{t:TA}{np cpos pos:Pos} (M:Dw X.prog X.w X.K X.mg X.base (CX1 X.prog X.w) C x k ps sp)
  (hrx:Ap X E) (hc:X.calm=true) (hr:eP (k+1) X.A) (ha:PA X (e₀::rest) t) (hg:X.env.kindOf x=some .globalImplicit:=by kernel_rfl) (hd:(x==("__debug__":Str))=false:=by kernel_rfl) (hs:dH (e₀::rest)=true:=by kernel_rfl) :
  PS X (.Raise (some (.Call (.Name x np) (e₀::rest) [] cpos)) none pos) (Bk C sp E t):=by
 intro pins s σ H D I h
 obtain⟨f,fd,F,O,hb⟩:=M.ex
 obtain⟨nm,q,N,bs,bm,hdct,sn,sub,ab,col,dd,k0,k1,k2,k3,k5,mN,oI,g1,g2,g3,g4,g5,g6⟩:=O.at I.ok.mod.kin
 have FB:=cT
 rw[arm_exec_Raise]
 refine aa (kH ?_)
 refine FA (C:=C) (nm:=nm) (q:=q) (N:=N) (bs:=bs) (bm:=bm) (hdct:=hdct) (sn:=sn) (sub:=sub) (ab:=ab) (col:=col) (dd:=dd) (k0:=k0) (k1:=k1) (k2:=k2) (k3:=k3) (k5:=k5) (newId:="ValueError.__new__") (g4.hasType FB.hasBase) (I.ok.hd hc) ?_
 refine aa (kB (kM I hg M.mg ?_ hd))
 refine qd (h₀:=X.base) I.ok.mod.kin O.kp (thn (ha cpos pins s σ H _ I h) fun us s1 ⟨vs,H1,I1,r,hz,q1⟩=>⟨I1.kIn,?_⟩) (aW (bg hs).1) (cY (bg hs).2)
 obtain⟨hh,gg,d1,tt,os⟩:=s1
 have e2:((hh.push (oC us)).push (gd C hh.objs.size none)).get? (hh.objs.size+1)=some (gd C hh.objs.size none):=by heap_get
 have J1:Inv X pins σ H1 ⟨hh.push (oC us),gg,d1,tt,os⟩:=I1.kept (t':=tt) (h':=hh.push (oC us)) fun b u z=>az _ z
 have J2:=J1.laid (a:=hh.objs.size+1) (o:=xiO (hh.objs.size+1) C none) (h':=(hh.push (oC us)).push (gd C hh.objs.size none)) (t':=tt) (fun b u z=>az _ z) (k6 (iw _ _)) (An e2)
 have fr:H1 (hh.objs.size+1)=none:=I1.hok.fresh (fN _)
 have hq:=q1 (hh.objs.size+1) _ fr (dv fr) a8
 have r2:Vals (V.ref (hh.objs.size+1)::vs) (Value.ref (hh.objs.size+1)::us):=.cons rfl r
 have hl:(Value.ref (hh.objs.size+1)::us++[]).length=ps.length:=by
  rw[fb,←r2.length];exact F.len _ _ _ _ hq
 refine HM FB (g4.keeps I1.bk) (I1.bk _ _ g1) (g2.keeps I1.bk) g3 (I1.bk _ _ g5) g6 (show us.length<=_ by rw[←r.length];exact hz) ?_
 have hbb:=hb ⟨(hh.push (oC us)).push (gd C hh.objs.size none),gg,d1,tt,os⟩ (Value.ref (hh.objs.size+1)::us) J2.kIn hl
 rw[fb] at hbb
 refine iE (fR (F.run _ X.stack _ _ ⟨Value.ref (hh.objs.size+1)::us,[]⟩ (Value.ref (hh.objs.size+1)::us) _ _ (fun _ _ _=>False) (hr.make C us []) (J2.Jx.make C us []) hbb r2 hq) fun r s' hq'=>?_)
 cases r with
 | error e=>exact (uD hq').elim
 | ok fl =>
  cases fl with
  | ret u =>
   obtain⟨v,H',I3,rv,ev,dx,fs,q3,q4,q5⟩:=J2.after hq'
   subst ev
   refine⟨rv,?_⟩
   obtain⟨⟨t',e3⟩,_⟩:=(show bM X.prog X.w H' s'.heap _ (xiO (hh.objs.size+1) C (some dx)) from I3.hok _ _ q3)
   have h0:X.s₀.heap.objs.size<=hh.objs.size+1:=Nat.le_succ_of_le I1.sz
   have hne:dx≠hh.objs.size+1:=fun z=>by rw[z,q3] at q4;cases q4
   refine aa (kH (ah ?_))
   exact⟨_,t',some dx,rfl,I3.bk _ _ g1,e3,hrx pins σ _ s' _ C t' dx (I3.hid h0 q3) h0 e3 oG ⟨fs,by rw[fA hne];exact q4⟩ q5⟩
  | next=>exact False.elim hq'
  | brk=>exact False.elim hq'
  | cont=>exact False.elim hq'
end
def rFS:V->Hp->VK->Prop:=fun v H Q=>match v with
 | .int n=>0<=n/\n<1000000/\∀ y,Q (.str y) H
 | _=>False
def tFS (te:TE):TE:=fun σ H Q=>te σ H fun v H1=>rFS v H1 Q
theorem K5 {te:TE}{σ:St}{H:Hp}{Q:VK}:tFS te σ H Q=te σ H fun v H1=>rFS v H1 Q:=propext Iff.rfl
section
variable {X:Cx}
theorem Lg {lit:Str}{k:Nat}{p1 p2 pos:Pos} (he:PE X e te) (hz:lit.length<=1000:=by decide) :
  PE X (.JoinedStr [.Constant (.str lit) k p1,.FormattedValue e (-1) none p2] pos) (tFS te):=by
 intro pins s σ H Q I h
 refine PyProof.Rows.JoinedStr_many (PyProof.Rows.joinParts_cons (Calls.Constant_str ⟨?_,PyProof.Rows.joinParts_cons (PyProof.Rows.FormattedValue_plain (thn (he pins _ σ H _ (I.tok _) h) fun u s1 ⟨x,H1,I1,rx,q⟩=>?_))⟩))
 ·show (Str.empty++lit).length<=sizeLine
  rw[strLen_append]
  exact aK (Nat.add_le_add (ak _) hz) (by decide)
 replace q:rFS x H1 Q:=q
 unfold rFS at q
 split at q
 next n =>
  obtain⟨n0,n1,q⟩:=q
  obtain⟨tk,rfl⟩:=(show ∃ t,u=Value.int n t from rx)
  have hl:n.natAbs.log2<1920:=by
   by_cases h0:n.natAbs=0
   ·rw[h0];decide
   ·exact (Nat.log2_lt h0).mpr (bB (by omega:n.natAbs<2^20) (jr (by decide) (by decide)))
  have hl2:=int_text_length_le (a:=n) (k:=1920) (by decide) hl
  have hz2:((Str.empty++lit)++Str.ofString (toString n)).length<=sizeLine:=by
   rw[strLen_append,strLen_append,PySem.ofString_length,ju]
   have:Str.empty.length=0:=rfl
   omega
  exact PyProof.Rows.formatField_int_small hl ⟨hz2,PyProof.Rows.joinParts_nil ⟨.str _,H1,I1.tok _,⟨_,rfl⟩,q _⟩ hz2⟩
 next=>exact q.elim
end
structure Il (K:PySem.W.Frag) (B:Addr):Prop where
 ga:PySem.W.specialIn K (.ref B) "__getattribute__"=some (some (.builtin "type.__getattribute__"))
 rd:PySem.W.readsIn K B (.type "type")=true
 fc:PySem.W.findCls K (.ref B) (.type "type") "__init__"=some (.val (.builtin "ValueError.__init__"))
def rBI (K:PySem.W.Frag):List V->Hp->VK->Prop:=fun vs H Q=>match vs with
 | [.ref e,_]=>∃ C,H e=some (xiO e C none)/\(∃ f,By K C f)/\Q .non H
 | _=>False
def tBI (K:PySem.W.Frag) (t:TA):TE:=fun σ H Q=>t σ H fun vs H1=>rBI K vs H1 Q
theorem K2 {K:PySem.W.Frag}{t:TA}{σ:St}{H:Hp}{Q:VK}:tBI K t σ H Q=t σ H fun vs H1=>rBI K vs H1 Q:=propext Iff.rfl
section
variable {X:Cx}
theorem rb {pl:Sem Bool}{B:Addr}{rest:List Expr}{t:TA}{np apos pos:Pos} (hK:X.K=K) (BI:Il K B) (hm:X.mg x=some (.ref B)) (ha:PA X (e₀::rest) t)
  (hg:X.env.kindOf x=some .globalImplicit:=by kernel_rfl) (hd:(x==("__debug__":Str))=false:=by kernel_rfl) (hs:dH (e₀::rest)=true:=by kernel_rfl)
  (ht:eval (.Call (.Attribute (.Name x np) "__init__" apos) (e₀::rest) [] pos) X.env=(do
   let ov ←eval (.Name x np) X.env
   standAt apos.atName
   let (f,first) ←holding [ov] (getMethod ov "__init__" pl)
   callWith pos f first (backTo pos (starEach (e₀::rest) X.env)) (backToKw pos (keywordEach [] X.env))):=by rfl) :
  PE X (.Call (.Attribute (.Name x np) "__init__" apos) (e₀::rest) [] pos) (tBI K t):=by
 subst hK
 intro pins s σ H Q I h
 have FB:=cT
 refine PySem.W.methodCall_KW (pl:=pl) (kM I hg hm (PySem.W.method_cls I.kIn BI.ga (PySem.W.cls_value I.kIn BI.rd BI.fc (by decide +kernel) ?_)) hd) ht
 refine PyProof.Rows.callWith_builtin1 (thn (ha pos pins _ σ H _ (I.tok _) h) fun us s1 ⟨vs,H1,I1,r,q⟩=>?_) (aW (bg hs).1) (cY (bg hs).2)
 replace q:rBI X.K vs H1 Q:=q
 unfold rBI at q
 split at q
 next e y =>
  obtain⟨C,he,⟨f,O⟩,hQ⟩:=q
  obtain⟨u1,u2,rfl,r1,r2⟩:=vals2 r
  cases (show u1=Value.ref e from r1)
  obtain⟨nm,qn,N,bs,bm,hdct,sn,sub,ab,col,dd,k0,k1,k2,k3,k5,mN,oI,g1,g2,g3,g4,g5,g6⟩:=O.at I1.kIn
  obtain⟨⟨t',e3⟩,_⟩:=(show bM X.prog X.w H1 s1.heap _ (xiO e C none) from I1.hok _ _ he)
  obtain⟨hh,gg,d1,tt,os⟩:=s1
  refine iE (codeAny_call_builtin FB.init.plain FB.initEntry (wpAny_check_init_subT FB g4 g1 e3 rfl ?_))
  wp_walk
  have e4:(hh.push { cls:=.type "tuple",data:=.seq #[u2] }).get? e=some (gd C t' none):=az _ e3
  refine⟨.non,H1,?_,rfl,hQ⟩
  have J:=(I1.kept (t':=tt) (h':=hh.push { cls:=.type "tuple",data:=.seq #[u2] }) fun b u z=>az _ z)
  have W:=J.write (x:=e) (e:=e) (o:=xiO e C none) (t':=tt) (h':=(hh.push { cls:=.type "tuple",data:=.seq #[u2] }).update e (Obj.mapFields fun x=>x.setIfInBounds 0 (Value.ref hh.objs.size))) (by rw[he];trivial) (.inl rfl)
   (fun b u hb z=>(dw _ _ (bt hb)).trans z) ⟨_,eZ _ e4 rfl⟩ (An (t:=hh.objs.size) (eZ _ e4 rfl))
  have same:upd H1 e (xiO e C none)=H1:=by
   funext b
   by_cases z:b=e
   ·rw[z,a8,he]
   ·exact aD z
  rw[same] at W
  exact W
 next=>exact q.elim
structure Jd (K:PySem.W.Frag) (C:Addr) (f:Str):Prop where
 sa:PySem.W.findIn K (.ref C) "__setattr__"=some (some (.builtin "object.__setattr__"))
 mr:((PySem.W.clsIn K C).any fun cd=>nI cd.mro)=true
 tk:PySem.W.takerIn K C f=some none
 hd:PySem.W.hasDictIn K C=true
def Bi (K:PySem.W.Frag) (f:Str) (x v:V) (H:Hp) (Q:Hp->Prop):Prop:=match x with
 | .ref e=>∃ C,H e=some (xiO e C none)/\Jd K C f/\∀ dx H',H dx=none->dx≠e->H' e=some (xiO e C (some dx))->H' dx=some (.xd [(f,v)])->aw (hid e H) (hid e H')->Q H'
 | _=>False
def IJ (K:PySem.W.Frag) (ta tv:TE) (f:Str):TS:=fun D σ H=>tv σ H fun y H1=>ta σ H1 fun x H2=>Bi K f x y H2 fun H3=>D.nx σ H3
theorem Gz {K:PySem.W.Frag}{ta tv:TE}{f:Str}{D:Ends}{σ:St}{H:Hp}:IJ K ta tv f D σ H=tv σ H fun y H1=>ta σ H1 fun x H2=>Bi K f x y H2 fun H3=>D.nx σ H3:=propext Iff.rfl
theorem Bc {o value:Expr}{ta tv:TE}{f:Str}{pos pos':Pos} (hK:X.K=K) (ha:PE X o ta) (hv:PE X value tv) (hs:swapsWith value (some (.Attribute o f pos')) pos.line X.env=pure false:=by kernel_rfl) :
  PS X (.Assign [.Attribute o f pos'] value pos) (IJ K ta tv f):=by
 subst hK
 intro pins s σ H D I h
 refine plainObj_wpAny_Assign_Attribute (thn (hv pins s σ H _ I h) fun u s1 ⟨y,H1,I1,ry,q⟩=>thn (ha pins s1 σ H1 _ I1 q) fun ov s2 ⟨x,H2,I2,rx,q2⟩=>?_) hs
 replace q2:Bi X.K f x y H2 (fun H3=>D.nx σ H3):=q2
 unfold Bi at q2
 split at q2
 next e =>
  obtain⟨C,he,SC,q3⟩:=q2
  cases (show ov=Value.ref e from rx)
  obtain⟨⟨t',e3⟩,_⟩:=(show bM X.prog X.w H2 s2.heap _ (xiO e C none) from I2.hok _ _ he)
  refine Kp I2.kIn e3 SC.sa SC.mr SC.tk SC.hd fun h' h1 h2 h3=>?_
  have hn:H2 s2.heap.objs.size=none:=I2.fresh
  have ne:s2.heap.objs.size≠e:=fun z=>by rw[z,he] at hn;cases hn
  have J:=I2.write (x:=e) (e:=e) (o:=xiO e C (some s2.heap.objs.size)) (h':=h') (t':=s2.toks+2) (by rw[he];trivial) (.inl rfl) (fun b u' hb z=>h3 b u' hb z) ⟨_,h1⟩ (An h1)
  have hn':upd H2 e (xiO e C (some s2.heap.objs.size)) s2.heap.objs.size=none:=by rw[aD ne];exact hn
  have J2:=J.IY (a:=s2.heap.objs.size) (o:=.xd [(f,y)]) hn' (Heap.get?_none_of_le I2.sz) (fun z=>absurd I2.lt (by rw[z];exact eL _))
   (fun yy c hc z=>by
    obtain⟨w9,o9,e9,_⟩:=I2.cell yy c hc
    rw[z] at e9
    exact absurd (aB e9) (eL _))
   (fun p hp z=>by
    have e9:=(I2.pin p hp).1
    rw[z] at e9
    exact absurd (aB e9) (eL _))
   ⟨_,h2,fun g=>by
    by_cases z:g=f
    ·subst z
     rw[if_pos rfl]
     simp only[List.lookup,beq_self_eq_true]
     exact ry
    ·rw[if_neg z]
     have hb:(g==f)=false:=jt.mpr z
     simp only[List.lookup,hb]
     exact True.intro⟩
  refine⟨σ,_,J2,q3 s2.heap.objs.size _ hn ne (by rw[aD (bt ne),a8]) a8 fun b o hb=>?_⟩
  by_cases z:b=e
  ·rw[z,oG] at hb;cases hb
  ·rw[fA z] at hb ⊢
   have hb2:b≠s2.heap.objs.size:=fun y=>by rw[y,hn] at hb;cases hb
   rw[aD hb2,aD z]
   exact hb
 next=>exact q2.elim
end
section
variable {X:Cx}
end
theorem xZ {e:Addr}{H1 H2 H3:Hp} (n:H1 e=none) (a:aw H1 H2) (b:aw (hid e H2) (hid e H3)):aw H1 (hid e H3):=fun c o q=>by
 have hc:c≠e:=fun z=>by rw[z,n] at q;cases q
 exact b c o (by rw[fA hc];exact a c o q)
abbrev TH:=Value->Addr->TS
structure Ja (X:Cx) (pins:List (Addr×Obj)) (σ:St) (H:Hp) (s:Shared) (ea C t:Addr) (B:Heap) (d:Option Addr):Prop where
 mkI:∀ h6,Heap.FlyingW B X.stack ea (.ref C) (.ref t) h6->s.heap.UpToSlots h6->(∃ o6,h6.get? ea=some o6/\XD o6 d)->Inv X pins σ (upd H ea (xb ea (.ref C) d)) { s with heap:=h6 }
 fl:Heap.FlyingW B X.stack ea (.ref C) (.ref t) s.heap
 obj:∃ oe,s.heap.get? ea=some oe/\XD oe d
def PH (X:Cx) (hs:List ExceptHandler) (th:TH):Prop:=∀ (pins:List (Addr×Obj)) (s:Shared) (σ:St) (H:Hp) (D:Ends) (ea C t:Addr) (B:Heap) (d:Option Addr),X.Ok->Ja X pins σ H s ea C t B d->th (.ref C) ea D σ (upd H ea (xb ea (.ref C) d)) →
 wpAny (model X.prog X.w) X.A (handleBy (.ref ea) X.env hs) (SP X pins D) X.xe s
theorem FW (h:Heap):h.UpToSlots h:=Heap.UpToSlots.of_keeps fun _ _ e=>e
def IW:TH:=fun _ _ _ _ _=>False
def L5 (K:PySem.W.Frag) (CE:Addr) (t1:TS) (r:TH):TH:=fun c ea D σ H=>∃ b,PySem.W.exmOne K c (.ref CE)=some b/\if b=true then t1 D σ H else r c ea D σ H
theorem DG {c:Value}{ea:Addr}{D:Ends}{σ:St}{H:Hp}:IW c ea D σ H=False:=propext Iff.rfl
theorem GC {K:PySem.W.Frag}{CE:Addr}{t1:TS}{r:TH}{c:Value}{ea:Addr}{D:Ends}{σ:St}{H:Hp}:L5 K CE t1 r c ea D σ H=(∃ b,PySem.W.exmOne K c (.ref CE)=some b/\if b=true then t1 D σ H else r c ea D σ H):=propext Iff.rfl
section
variable {X:Cx}
theorem Kh:PH X [] IW:=fun _ _ _ _ _ _ _ _ _ _ _ _ h=>h.elim
theorem Lj {CE:Addr}{np hpos:Pos}{b₀:Stmt}{suite:List Stmt}{hs:List ExceptHandler}{t1:TS}{r:TH} (hm:X.mg x=some (.ref CE))
  (hh:∀ ea:Addr,PSs { X with A:=X.A.mark (some (.ref ea)),calm:=false,xe:=fun _ _=>False } (b₀::suite) t1) (hr:PH X hs r)
  (hg:X.env.kindOf x=some .globalImplicit:=by kernel_rfl) (hd:(x==("__debug__":Str))=false:=by kernel_rfl) :
  PH X (.ExceptHandler (some (.Name x np)) none (b₀::suite) hpos::hs) (L5 X.K CE t1 r):=by
 intro pins s σ H D ea C t B d ok L h
 obtain⟨bb,hb,q⟩:=h
 obtain⟨oe,hoe,hdo⟩:=L.obj
 have I5:=L.mkI s.heap L.fl (FW _) ⟨oe,hoe,hdo⟩
 obtain⟨o5',v5,e5',c5,t5,_⟩:=L.fl.first
 rw[hoe] at e5'
 cases e5'
 refine wpAny_handleBy_cons (codeAny_handlers_test ?_) (by intro q;cases q)
 refine kM (X:={ X with A:=X.A.mark (some (.ref ea)),calm:=false,xe:=fun _ _=>False }) I5.EI hg hm ?_ hd
 have LT:PySem.W.Looks (model X.prog X.w) s.heap (typeOf (.ref ea)) (.ref C):=c5 ▸ (PySem.W.Looks.ld hoe).andThen .now
 refine PySem.W.exm_one I5.kIn LT hb _ _ _ _ (fun _ _ e=>e) ?_
 cases bb with
 | false=>exact hr pins s σ H D ea C t B d ok L (by simpa using q)
 | true =>
 rw[if_pos rfl] at q
 refine codeAny_handlers_suite ?_
 refine bO (KD.any (E:=fun _ _=>False) (qu _ _) (lands_againW (s:=s) (Q:=fun _ s''=>∃ h6,s''={ s with heap:=h6 }/\Heap.FlyingW B X.stack ea (.ref C) (.ref t) h6/\s.heap.UpToSlots h6) L.fl fun h6 x1 x2=>⟨h6,rfl,x1,x2⟩)) ?_ (fun _ _ z=>False.elim z.1)
 rintro _ _ ⟨⟨h6,rfl,f6,sm6⟩,dk6⟩
 obtain⟨o6,e6,_,d6,g6⟩:=dk6 ea oe hoe
 have I6:=L.mkI h6 f6 sm6 ⟨o6,e6,hdo.dk d6 g6⟩
 refine bO (hh ea pins _ _ _ D I6.EI q) (fun f s8 hsp=>?_) (fun _ _ z=>False.elim z)
 cases f with
 | next =>
  obtain⟨σ9,H9,I9,q9⟩:=hsp
  exact⟨σ9,H9,Inv.markFrom ok I9,q9⟩
 | brk =>
  obtain⟨σ9,H9,I9,q9⟩:=hsp
  exact⟨σ9,H9,Inv.markFrom ok I9,q9⟩
 | cont =>
  obtain⟨σ9,H9,I9,q9⟩:=hsp
  exact⟨σ9,H9,Inv.markFrom ok I9,q9⟩
 | ret u =>
  obtain⟨v9,σ9,H9,I9,r9,q9⟩:=hsp
  exact⟨v9,σ9,H9,Inv.markFrom ok I9,r9,q9⟩
def IK (tb:(St->XK)->TS) (th:TH):TS:=fun D σ H=>tb (fun σ' c d H'=>∀ ea H2,H' ea=none->aw H' H2->H2 ea=some (xb ea c d)->(∀ dx,d=some dx->∃ fs,H2 dx=some (.xd fs))->th c ea D σ' H2) D σ H
theorem GD {tb:(St->XK)->TS}{th:TH}{D:Ends}{σ:St}{H:Hp}:IK tb th D σ H=tb (fun σ' c d H'=>∀ ea H2,H' ea=none->aw H' H2->H2 ea=some (xb ea c d)->(∀ dx,d=some dx->∃ fs,H2 dx=some (.xd fs))->th c ea D σ' H2) D σ H:=propext Iff.rfl
theorem HC {body:List Stmt}{h₀:ExceptHandler}{hs:List ExceptHandler}{pos:Pos}{tb:(St->XK)->TS}{th:TH} (hst:X.stack=X.env::X.outer) (hf:X.env.frame=some X.env.locals) (hex:X.ex=[])
  (hb:∀ (pn:List (Addr×Obj)) (xe:Value->Shared->Prop) (E:St->XK),PassesOwn (model X.prog X.w) X.A X.env xe->Passes (CX1 X.prog X.w) { X with pn:=pn,xe:=xe } E->PSs { X with pn:=pn,xe:=xe } body (tb E))
  (hh:PH X (h₀::hs) th):PS X (.Try body (h₀::hs) [] [] pos) (IK tb th):=by
 intro pins s σ H D I h
 refine wpAny_Try_except ?_
 refine bO (hb (X.pn++pins) _ _ PassesOwn.looking ?_ [] s σ H D I.LZ h) ?_ (fun e s1 he=>he)
 ·intro pins' σ' H1 s1 e s' I' hcx
  obtain⟨ea,C,t,B,H',d,rfl,os,bare,un,hok,fl,⟨oe,hoe,hdo⟩,hdx,hkb,hE⟩:=hcx
  have IX:Inv X pins σ' H1 s1:=I'.tH
  have I2:Inv X pins σ' H' s':=IX.Au (ch:=[]) os un hok bare (fun b z=>absurd z (by simp))
  have hfr:∀ b∈frs X.stack,∃ o,s'.heap.get? b=some o/\∀ vs,o.data≠.fields vs:=fun b hb=>(I2.stack.mem hb).2
  have hff:∀ b∈frs X.stack,H' b=none:=I2.rZ
  obtain⟨oe0,vs0,hoe0,_,hdat0,_⟩:=fl.first
  have nfr:ea∉frs X.stack:=fun z=>by
   obtain⟨o,e1,e2⟩:=hfr ea z
   rw[hoe0] at e1;cases e1;exact e2 _ hdat0
  have hea:H' ea=none:=by
   cases q:H' ea with
   | none=>rfl
   | some o=>have:=hkb ea oe hoe nfr (.inl (by rw[q];simp));rw[fl.2.1] at this;cases this
  have new1:s1.heap.get? ea=none:=by
   cases q:s1.heap.get? ea with
   | none=>rfl
   | some o=>have:=hkb ea oe hoe nfr (.inr ⟨o,q⟩);rw[fl.2.1] at this;cases this
  have new0:X.s₀.heap.get? ea=none:=by
   cases q:X.s₀.heap.get? ea with
   | none=>rfl
   | some o =>
    obtain⟨o2,e2⟩:=IX.base.there ea o q (by rw[hex];simp)
    rw[new1] at e2;cases e2
  have mk:∀ h6,Heap.FlyingW B X.stack ea (.ref C) (.ref t) h6->s'.heap.UpToSlots h6->(∃ o6,h6.get? ea=some o6/\XD o6 d)->Inv X pins σ' (upd H' ea (xb ea (.ref C) d)) { s' with heap:=h6 }:=by
   intro h6 f6 sm6 ⟨o6,e6,d6⟩
   have J:Inv X pins σ' H' { s' with heap:=h6 }:=IX.Au (s':={ s' with heap:=h6 }) (ch:=[]) os (Ie un hkb f6.1 sm6 hfr) (Ey hok hkb f6.1 hff) bare (fun b z=>absurd z (by simp))
   obtain⟨o7,v7,e7,c7,t7,_⟩:=f6.first
   rw[e6] at e7
   cases e7
   refine J.IY hea new0 (fun z=>?_) (fun y c e z=>?_) (fun p hp z=>?_) (GW e6 c7 d6)
   ·obtain⟨m,⟨ob,_,_,e9,_⟩,_⟩:=IX.loc
    rw[←z,new1] at e9;cases e9
   ·obtain⟨w9,o9,e9,_⟩:=IX.cell y c e
    rw[z,new1] at e9;cases e9
   ·have e9:=(IX.pin p hp).1
    rw[z,new1] at e9;cases e9
  refine bO (KD.any (E:=fun _ _=>False) (AQ _ _) (wpAny_looks_onW (Q:=fun _ s''=>∃ h4,s''={ s' with heap:=h4 }/\Heap.HeldW B X.stack ea (.ref C) (.ref t) X.env.locals h4/\s'.heap.UpToSlots h4) (by rw[←hst];exact I.ok.frames) hf (by rw[←hst];exact fl) fun h4 x1 x2=>⟨h4,rfl,by rw[hst];exact x1,x2⟩)) ?_ (fun _ _ z=>False.elim z.1)
  rintro _ _ ⟨⟨h4,rfl,l4,sm4⟩,dk4⟩
  refine bO (KD.any (E:=fun _ _=>False) (qu _ _) (wpAny_landsW (s:={ s' with heap:=h4 }) (Q:=fun _ s''=>∃ h5,s''={ s' with heap:=h5 }/\Heap.FlyingW B X.stack ea (.ref C) (.ref t) h5/\h4.UpToSlots h5) l4 fun h5 x1 x2=>⟨h5,rfl,x1,x2⟩)) ?_ (fun _ _ z=>False.elim z.1)
  rintro _ _ ⟨⟨h5,rfl,f5,sm5⟩,dk5⟩
  obtain⟨o5,e5,_,d5,g5⟩:=(dk4.trans dk5) ea oe hoe
  have hne:∀ dx,d=some dx->dx≠ea:=fun dx z y=>by
   obtain⟨fs,q⟩:=hdx dx z
   rw[y,hea] at q;cases q
  exact hh pins { s' with heap:=h5 } σ' H' D ea C t B d I.ok ⟨fun h6 x1 x2 x3=>mk h6 x1 ((sm4.trans sm5).trans x2) x3,f5,⟨o5,e5,hdo.dk d5 g5⟩⟩ (hE ea _ hea (dv hea) a8 (fun dx z=>by
   obtain⟨fs,q⟩:=hdx dx z
   exact⟨fs,by rw[aD (hne dx z)];exact q⟩))
 ·intro f s1 hsp
  cases f with
  | next =>
   obtain⟨σ9,H9,I9,q9⟩:=hsp
   exact wpAny_execs_nil ⟨σ9,H9,I9.tH,q9⟩
  | brk =>
   obtain⟨σ9,H9,I9,q9⟩:=hsp
   exact⟨σ9,H9,I9.tH,q9⟩
  | cont =>
   obtain⟨σ9,H9,I9,q9⟩:=hsp
   exact⟨σ9,H9,I9.tH,q9⟩
  | ret u =>
   obtain⟨v9,σ9,H9,I9,r9,q9⟩:=hsp
   exact⟨v9,σ9,H9,I9.tH,r9,q9⟩
end
theorem EE {xs:List V}{js:List Nat}{σ:St}{tc:TT}{te:TE}{Q:VK} (hx:SqL K H1 a xs) (hl:xs.length<sizeLine) (pr:Nat->Bool) (g:Nat->V)
  (hc:∀ (i:Nat) x,xs[i]?=some x->∀ H,aw H1 H->∀ R:Bool->Hp->Prop,(∀ H',aw H H'->R (pr i) H')->tc (some (.int (i:Int))::some x::js.map fun j=>(σ[j]?).join) H R)
  (he:∀ (i:Nat) x,xs[i]?=some x->pr i=true->∀ H,aw H1 H->∀ R:VK,(∀ H',aw H H'->R (g i) H')->te (some (.int (i:Int))::some x::js.map fun j=>(σ[j]?).join) H R)
  (q:∀ D H,H1 D=none->aw H1 H->H D=some (.lst (((List.range xs.length).filter pr).map g))->Q (.ref D) H):fU (Ep K 2 (qV (gf 0) (qV (gf 1) Eo))) tc te (iZ 2 js σ) (Ite K a) H1 Q:=by
 intro D hD
 refine⟨fun i m ys σ1 H=>m=xs.length-i/\i<=xs.length/\(∃ o1 o2,σ1=o1::o2::js.map fun j=>(σ[j]?).join)/\ys=((List.range i).filter pr).map g/\aw H1 H/\H D=some (.lst ys),
  ⟨xs.length,by simp,aT _,⟨none,none,rfl⟩,by simp,(aw.refl H1).bZ hD,a8⟩,?_⟩
 rintro i m ys σ1 H ⟨rfl,hi,⟨o1,o2,rfl⟩,rfl,sH,hL⟩
 have hyn:(((List.range i).filter pr).map g).length<=i:=by
  rw[List.length_map]
  have:=ku pr (List.range i)
  rwa [List.length_range] at this
 refine⟨hL,by omega,?_⟩
 by_cases hlt:i<xs.length
 ·have e:xs[i]?=some xs[i]:=List.getElem?_eq_getElem hlt
  refine .inr ⟨⟨xs,xs[i],sH.seq hx,e⟩,fun v H' hyl=>?_⟩
  obtain⟨x,p,hx',rfl,hp,rfl⟩:=hyl
  have ex:=hx' xs (sH.seq hx)
  have hpD:D≠p:=bc hL hp
  refine⟨p,[.int (i:Int),x],rfl,SqT.of a8,rfl,.int (i:Int),[x],rfl,x,[],rfl,rfl,?_⟩
  have s1:aw H1 (upd H p (.tup [.int (i:Int),x])):=sH.bZ (sH.free hp)
  have hL1:upd H p (.tup [.int (i:Int),x]) D=some (.lst (((List.range i).filter pr).map g)):=by rw[aD hpD];exact hL
  have rs:List.range (i+1)=List.range i++[i]:=kz
  show tc (some (.int (i:Int))::some x::js.map fun j=>(σ[j]?).join) _ _
  refine hc i x ex _ s1 _ fun H4 s4=>?_
  have hL4:=s4 _ _ hL1
  cases hpr:pr i with
  | false =>
   rw[if_neg bE]
   exact⟨xs.length-(i+1),by omega,rfl,hlt,⟨_,_,rfl⟩,by rw[rs,fL];simp [hpr],s1.trans s4,hL4⟩
  | true =>
   rw[if_pos rfl]
   refine he i x ex hpr _ (s1.trans s4) _ fun H5 s5=>⟨s5 _ _ hL4,xs.length-(i+1),by omega,rfl,hlt,⟨_,_,rfl⟩,?_,((s1.trans s4).trans s5).bZ hD,a8⟩
   rw[rs,fL,List.map_append];simp [hpr]
 ·have e:i=xs.length:=by omega
  subst e
  exact .inl ⟨⟨xs,sH.seq hx,ak _⟩,q D H hD sH hL⟩
end
section
theorem Hg (t:SetTable) (es:Array (Int×Value)) (h:Int) (x:Value):(layNew t es h x).2.1.led=t.led:=by
 unfold layNew
 split
 ·show (SetTable.orStandIn _ _).led=_
  unfold SetTable.orStandIn
  split<;>rfl
 ·rfl
theorem Dd (t:SetTable) (es:Array (Int×Value)) (n:Nat):(relayAll t es n).2.1.led=t.led/\(t.plain=false->(relayAll t es n).2.1.plain=false):=by
 unfold relayAll
 split
 ·rename_i t' order e
  have e2:t'.led=t.led/\t'.plain=t.plain:=by
   unfold SetTable.relaid SetTable.laid at e
   cases hL:SetTable.layClean (SetTable.sizeAbove n-1) (es.map (·.1)) with
   | none=>rw[hL] at e;cases e
   | some o=>rw[hL] at e;cases e;exact⟨rfl,rfl⟩
  dsimp only
  split
  ·exact⟨e2.1,fun h=>e2.2.trans h⟩
  ·exact⟨rfl,fun _=>rfl⟩
 ·exact⟨rfl,fun _=>rfl⟩
def qk (P:Program) (w:World) (lb:Bool) (h:Heap) (a:Addr) (l:List Key):Prop:=∃ o es ep t,h.get? a=some o/\o.ExactSet/\o.data=.set es ep t/\ElemsOf (aX P w) es.toList/\(∀ k,fw k l=true↔∃ e∈es.toList,jb k e.2=true) ∧
 es.size<scanBound/\t.fits es.size=true/\es.size=l.length/\t.led=lb/\(es.size≠0->t.plain=false)
section
variable {prog:Program}{w:World}{A:Around}{E:Value->Shared->Prop}{s:Shared}
theorem K1 {l:List Key}{z:Str}{tk:Tok}{Q:Bool->Shared->Prop} (hS:qk prog w lb s.heap a l) (hroom:l.length+1<scanBound)
  (h:∀ h',Heap.SameBut a s.heap h'->qk prog w lb h' a (if fw (.inr z) l=true then l else l++[.inr z])->Q (!fw (.inr z) l) { s with heap:=h' }) :
  wpAny (model prog w) A (setAddHashed a (.str z tk) ((aX prog w).hash (.inr z))) Q E s:=by
 obtain⟨o,es,ep,t,ho,hex,hd,hel,hmem,hb,hf,hn,hled,hpl⟩:=hS
 have hkey:(aX prog w).is (.inr z) (.str z tk)=true:=nj z tk
 have hsc:(Value.str z tk).scannable=true:=rfl
 have hb1:es.size+1<scanBound:=by rw[hn];exact hroom
 unfold setAddHashed setAddHashedIn
 refine dE (aa (kF ho hd hf ?_))
 dsimp only
 rw[byScan_of hsc hb hel]
 simp only[↓reduceIte]
 unfold setAddByScan
 refine aa (aa (wpAny_rule (aa (wpAny_setScan_of hkey ho hd hf hel ?_))))
 cases hr:List.findIdx? (fun e=>(aX prog w).is (.inr z) e.2) es.toList with
 | some j =>
  dsimp only
  obtain⟨hj,hpj,_⟩:=List.findIdx?_eq_some_iff_getElem.mp hr
  have hSk:fw (.inr z) l=true:=(hmem _).mpr ⟨es.toList[j],i6 hj,hpj⟩
  refine ah (ah ?_)
  have:=h s.heap (Heap.SameBut.refl a s.heap)
  rw[hSk,if_pos rfl] at this
  exact this ⟨o,es,ep,t,ho,hex,hd,hel,hmem,hb,hf,hn,hled,hpl⟩
 | none =>
  dsimp only
  have hSk:fw (.inr z) l=false:=by
   cases hk:fw (.inr z) l with
   | false=>rfl
   | true=>obtain⟨e,he,hp⟩:=(hmem _).mp hk;have:=List.findIdx?_eq_none_iff.mp hr e he;rw[show (aX prog w).is (.inr z) e.2=jb (.inr z) e.2 from rfl,hp] at this;cases this
  rw[hSk,if_neg (by decide)] at h
  have hgw:∀ (b:Bool) {s₁:Shared}{Q':Unit->Shared->Prop},Q' () s₁->wpAny (model prog w) A (match b with | true=>rule "set.scan.the-table-gave-way" | false=>pure ()) Q' E s₁:=fun b s₁ Q' hq=>by
   cases b
   ·exact ah hq
   ·exact wpAny_rule hq
  have hperm:=layNew_perm t es ((aX prog w).hash (.inr z)) (.str z tk)
  have hfits:=layNew_fits t es ((aX prog w).hash (.inr z)) (.str z tk)
  have hl1:=Hg t es ((aX prog w).hash (.inr z)) (.str z tk)
  generalize layNew t es ((aX prog w).hash (.inr z)) (.str z tk)=L at hperm hfits hl1 ⊢
  obtain⟨es1,t1,wasDummy,gave⟩:=L
  dsimp only at hperm hfits hl1 ⊢
  rw[Array.toList_push] at hperm
  have hel1:ElemsOf (aX prog w) es1.toList:=(hel.push hkey hsc).perm hperm
  have hmem1:∀ k',fw k' (l++[.inr z])=true↔∃ e∈es1.toList,jb k' e.2=true:=fun k'=>by
   have:=mem_push_iff (knd:=aX prog w) hkey hmem hperm k'
   rw[uP,show decide (Sum.inr z=k')=decide (k'=Sum.inr z) from decide_eq_decide.mpr ⟨Eq.symm,Eq.symm⟩]
   exact this
  have hsz1:es1.size=(l++[(Sum.inr z:Key)]).length:=by rw[←cP,hperm.length_eq,List.length_append,cP,hn,List.length_append];rfl
  have hb1':es1.size<scanBound:=by rw[hsz1,List.length_append];exact hroom
  refine aa (hgw _ ?_)
  have tail:∀ t2:SetTable,t2.fits es1.size=true->t2.led=lb->t2.plain=false->wpAny (model prog w) A (do
    storeSet a es1 t2
    if (!wasDummy&&t2.tooFull)=true then do
      (match (relayAll t2 es1 (SetTable.grown es1.size)).2.2 with | true=>rule "set.scan.the-table-gave-way" | false=>pure ())
      storeSet a (relayAll t2 es1 (SetTable.grown es1.size)).1 (relayAll t2 es1 (SetTable.grown es1.size)).2.1
      pure (some true)
     else pure (some true)) (fun r s'=>r=some true/\Q true s') E s:=fun t2 hf2 hl2 hp2=>by
   refine aa (wpAny_storeSet_of ho hd ?_ (fits_of_scanBound hb1'))
   have ho1:(s.heap.update a (Obj.putSet es1 t2)).get? a=some { o with data:=.set es1 (ep+1) t2 }:=by
    have:=eZ (Obj.putSet es1 t2) ho (by rw[putSet_of es1 t2 hd];rfl)
    rw[putSet_of es1 t2 hd] at this;exact this
   have hsb1:=Heap.SameBut.update s.heap a (Obj.putSet es1 t2)
   split
   ·have hp:=relayAll_perm t2 es1 (SetTable.grown es1.size)
    have hfr:=relayAll_fits t2 es1 (SetTable.grown es1.size)
    have hlr:=Dd t2 es1 (SetTable.grown es1.size)
    generalize relayAll t2 es1 (SetTable.grown es1.size)=Rl at hp hfr hlr ⊢
    obtain⟨es2,t3,gave2⟩:=Rl
    dsimp only at hp hfr hlr ⊢
    have hsz:es2.size=es1.size:=by rw[←cP,hp.length_eq,cP]
    refine aa (hgw _ ?_)
    refine aa (wpAny_storeSet_of ho1 rfl ?_ (fits_of_scanBound (by rw[hsz];exact hb1')))
    have ho2:((s.heap.update a (Obj.putSet es1 t2)).update a (Obj.putSet es2 t3)).get? a=some { o with data:=.set es2 (ep+1+1) t3 }:=by
     have:=eZ (Obj.putSet es2 t3) ho1 (by rw[putSet_of es2 t3 rfl];rfl)
     rw[putSet_of es2 t3 rfl] at this;exact this
    exact ah ⟨rfl,h _ (hsb1.trans (Heap.SameBut.update _ a _)) ⟨_,es2,_,t3,ho2,hex,rfl,hel1.perm hp,fun k'=>(hmem1 k').trans ⟨fun ⟨e,he,q⟩=>⟨e,hp.mem_iff.mpr he,q⟩,fun ⟨e,he,q⟩=>⟨e,hp.mem_iff.mp he,q⟩⟩,by rw[hsz];exact hb1',hfr,hsz.trans hsz1,hlr.1.trans hl2,fun _=>hlr.2 hp2⟩⟩
   ·exact ah ⟨rfl,h _ hsb1 ⟨_,es1,_,t2,ho1,hex,rfl,hel1,hmem1,hb1',hf2,hsz1,hl2,fun _=>hp2⟩⟩
  have fin:∀ {m:Sem (Option Bool)},wpAny (model prog w) A m (fun r s'=>r=some true/\Q true s') E s->wpAny (model prog w) A m (fun r s'=>wpAny (model prog w) A (match r with | some added=>pure added | none=>setAddHashedIn a (.str z tk) ((aX prog w).hash (.inr z)) 99999) Q E s') E s:=fun hm=>bO hm (fun r s' ⟨e,q⟩=>by rw[e];exact ah q) fun _ _ x=>x
  split
  ·refine aa ?_
   rw[hashByValue_scannable 8 hsc]
   refine ah ?_
   exact fin (tail _ (SetTable.fits_plain_off hfits) (hl1.trans hled) rfl)
  ·rename_i hnp
   refine aa (ah ?_)
   simp only[↓reduceIte]
   exact fin (tail _ hfits (hl1.trans hled) (by simpa using hnp))
theorem BP (a:Value) {Q₁:Value->Shared->Prop}
  (h:Q₁ (.ref s.heap.objs.size) { s with heap:=s.heap.push { cls:=.type "set",dict:=none,data:=.set #[] 0 (.fresh 0 0 (!w.params.followText "set-order")) } }) :
  codeAny (model prog w) A (.call (.builtin "set.__new__") ⟨[.type "set",a],[]⟩) (wants Q₁ E) s:=by
 refine codeAny_of_tree ?_
 show wpAny _ A.in1 (do checkBuiltinCall "set.__new__" ⟨[.type "set",a],[]⟩;again (.builtin "set.__new__" ⟨[.type "set",a],[]⟩)) _ _ s
 refine aa (wpAny_of_eq (F.newCall_set_1 a) (ah ⟨kA F.plain_set_new _,ft F.entry_set_new ?_⟩))
 rw[oy F.plain_set_new _]
 unfold Builtin.«set.__new__» Builtin.Frozenset.newClass
 have hsub:=sub_set_self
 obtain⟨hp,g,d,tk,os⟩:=s
 dsimp only
 wp_walk
 refine kC (ah ?_)
 dsimp only
 simp only[newObj]
 refine aa (wpAny_alloc (ah ?_))
 exact ah h
end
section
variable {prog:Program}{w:World}{A:Around}{R:Result->Shared->Prop}{c:Addr}{fp wr:List Addr}{G:Array GenState->Array GenState->Prop}{n:Nat}{Pv:Nat->Value->Prop}{Sv:Nat->Shared->Prop}
theorem Dr (W:WalksS prog w A.in1 c fp wr G n Pv Sv) (a:Addr) (na:a∉fp) (val:Nat->Key) {lb:Bool} (hv:∀ i v,Pv i v->∃ z tk,v=Value.str z tk/\val i=Sum.inr z) (hb:n+1<scanBound) :
  ∀ (k i:Nat) (s:Shared),n-i=k->i<=n->Sv i s->qk prog w lb s.heap a (bT val i) →
   (∀ s',Moved (a::wr) G s s'->qk prog w lb s'.heap a (bT val n)->R (.ok (.ret .none)) s') →
   codeAny (model prog w) A (.builtin "set.update.loop" ⟨[.ref a,.ref c],[]⟩) R s:=by
 have nw':a∉wr:=fun z=>na (W.sub _ z)
 have sb:∀ b∈wr,b∈a::wr:=fun b h=>List.mem_cons_of_mem _ h
 have lM:∀ {s s':Shared}{l:List Key},Moved wr G s s'->qk prog w lb s.heap a l->qk prog w lb s'.heap a l:=fun mv x=>by
  obtain⟨o,es,ep,t,ho,r⟩:=x
  exact⟨o,es,ep,t,mv.heap a _ nw' ho,r⟩
 intro k
 induction k with
 | zero =>
  intro i s hk hi st x q
  have e:i=n:=by omega
  subst e
  refine ft pW ?_
  rw[oy k8 _]
  show wpAny _ A.in1 (pyNext (.ref c) >>= _) _ _ s
  refine aa (W.done s _ _ st fun s' mv=>?_)
  exact ah (q s' (mv.mono sb) (lM mv x))
 | succ k ih =>
  intro i s hk hi st x q
  have lt:i<n:=by omega
  refine ft pW ?_
  rw[oy k8 _]
  show wpAny _ A.in1 (pyNext (.ref c) >>= _) _ _ s
  refine aa (W.item i s _ _ lt st fun v s' pv st' mv=>?_)
  obtain⟨z,tk,rfl,hvi⟩:=hv i v pv
  have x':=lM mv x
  show wpAny _ A.in1 (holding [.str z tk] (setAdd a (.str z tk)) >>= _) _ _ s'
  refine aa (dE ?_)
  unfold setAdd
  refine dE ?_
  refine aa ((aX prog w).pyHash (k:=.inr z) (nj z tk) ?_)
  have room:(bT val i).length+1<scanBound:=by have:=lT val i;omega
  refine K1 (s:={ s' with toks:=s'.toks+1 }) x' room fun g sg xg=>?_
  have x2:qk prog w lb g a (bT val (i+1)):=by
   show qk prog w lb g a (if fw (val i) (bT val i)=true then bT val i else bT val i++[val i])
   rw[hvi];exact xg
  refine ah ⟨kA k8 _,ih (i+1) _ (by omega) lt (W.frame _ s' _ _ st' (fN _) fun b hb o e=>?_) x2 fun s'' mv2 x3=>?_⟩
  ·rw[sg.2 b (fun z:b=a=>na (by rw[←z];exact hb))];exact e
  ·refine q s'' (Moved.trans W.gtrans ((mv.mono sb).then_heap (fN _) fun b o hb e=>?_) mv2) x3
   rw[sg.2 b (fun z:b=a=>hb (by rw[z];exact List.mem_cons_self))];exact e
end
set_option maxRecDepth 100000 in
set_option maxHeartbeats 4000000 in
theorem wo {prog:Program}{w:World}{E:Value->Shared->Prop}{l:Addr}{items:Array Value}{val:Nat->Key}{Q:Value->Shared->Prop} (hh:A.handled=none) (hl:s.heap.IsList l items)
  (hval:∀ (i:Nat) (v:Value),items[i]?=some v->∃ z tk,v=Value.str z tk/\val i=Sum.inr z) (hb:items.size+1<scanBound)
  (q:∀ (g:Heap) (tk:Nat),qk prog w (!w.params.followText "set-order") g s.heap.objs.size (bT val items.size)->(∀ b o,b<s.heap.objs.size->s.heap.get? b=some o->g.get? b=some o) →
   Q (.ref s.heap.objs.size) { s with heap:=g,toks:=tk }):wpAny (model prog w) A (call (.type "set") [.ref l]) Q E s:=by
 obtain⟨c,tl,hmro⟩:=dN.mro
 have hmade:=dN.made
 have hsub:=dN.sub
 refine iE (codeAny_of_tree ?_)
 show wpAny _ _ (callAny (.type "set") _) _ _ _
 refine ah ⟨Code.quiet_builtin _ (by decide +kernel),ft F.entry_type_call ?_⟩
 rw[Around.under_plain (weight_type_call_type "set" [.ref l] []) rfl]
 have h1:=dN.notType
 have h2:=dN.canCreate
 have hct:=F.typeCall_set_1 (.ref l)
 repeat (any_goals (first | assumption | wp_step))
 refine fR (BP (.ref l) (E:=E) (Q₁:=fun ob s1=>ob=.ref s.heap.objs.size/\s1={ s with heap:=s.heap.push { cls:=.type "set",dict:=none,data:=.set #[] 0 (.fresh 0 0 (!w.params.followText "set-order")) } }) ⟨rfl,rfl⟩) fun r s1 hr=>?_
 cases r with
 | error e=>exact hr
 | ok fl =>
  cases fl with
  | ret ob =>
   obtain⟨rfl,rfl⟩:=hr
   generalize hg1:s.heap.push { cls:=.type "set",dict:=none,data:=.set #[] 0 (.fresh 0 0 (!w.params.followText "set-order")) }=g1
   have hS:g1.get? s.heap.objs.size=some { cls:=.type "set",dict:=none,data:=.set #[] 0 (.fresh 0 0 (!w.params.followText "set-order")) }:=by rw[←hg1];exact aZ _ rfl
   have hsz:g1.objs.size=s.heap.objs.size+1:=by rw[←hg1,iw]
   have hkp:∀ b o,s.heap.get? b=some o->g1.get? b=some o:=fun b o e=>by rw[←hg1];exact az _ e
   have hT:Shared.TypeIs { s with heap:=g1 } (.ref s.heap.objs.size) "set":=⟨_,hS,rfl⟩
   have hli:=dN.init.lookup
   have hbi:=dN.init.bind (.ref s.heap.objs.size)
   repeat (any_goals (first | assumption | wp_step))
   refine fR (codeAny_call_builtin (R:=wants (fun r s2=>r=.none/\∃ g tk,s2={ s with heap:=g,toks:=tk }/\qk prog w (!w.params.followText "set-order") g s.heap.objs.size (bT val items.size) ∧
     (∀ b o,b<s.heap.objs.size->s.heap.get? b=some o->g.get? b=some o)) E) dN.init.plain F.entry_set_init (check_set_init_1 hT ?_)) fun r2 s2 hr2=>?_
   ·obtain⟨ol,hol,hcl,nl,hdl⟩:=id hl
    obtain⟨ocls,odict,odata,oslots⟩:=ol
    simp only at hcl hdl
    subst hcl;subst hdl
    have hol':=hkp _ _ hol
    have hsls:=F.sub_list_set
    have hslf:=F.sub_list_frozenset
    have hne:(Value.type "list"==Value.type "dict")=false:=by decide
    have hl1:g1.IsList l items:=⟨_,hol',rfl,nl,rfl⟩
    have hh3:A.in1.in1.in1.handled=none:=by simp [hh]
    have hlS:l<s.heap.objs.size:=aB hol
    have hneI:l≠g1.objs.size:=by rw[hsz];exact aS (fj hlS)
    have na:s.heap.objs.size∉[g1.objs.size,l]:=by
     simp only[aI,dy,dD,not_or]
     exact⟨by omega,gO hlS⟩
    unfold Builtin.«set.__init__» noKeywords Builtin.Frozenset.updateFrom
    generalize hPI:pyIter=PI
    wp_walk
    subst hPI
    refine wpAny_pyIter_list hl1 ?_
    refine aa (wpAny_runValue ?_)
    refine Dr (lb:=!w.params.followText "set-order") ((Walks.list hh3 _ l hneI items).toS) s.heap.objs.size na val hval hb (items.size-0) 0 _ (by omega) (aT _) ⟨⟨_,aZ _ rfl,rfl,rfl⟩,(hl1.push _)⟩ ?_ fun s' mv x=>?_
    ·exact⟨_,#[],0,_,az _ hS,⟨rfl,rfl,rfl⟩,rfl,(fun e he=>by simp at he),(fun k=>by show (false=true)↔_;simp),by decide,by rfl,rfl,rfl,fun z=>absurd rfl z⟩
    ·obtain⟨g,ge,d,tk,os⟩:=s'
     have eg:ge=s.gens:=mv.gens
     have ed:d=s.drawn:=mv.drawn
     have eo:os=s.os:=mv.os
     subst eg;subst ed;subst eo
     refine ah ?_
     show wpAny _ _ (ret Value.none) _ _ _
     refine ah ⟨rfl,g,tk,rfl,x,fun b o hb e=>mv.heap b o ?_ (az _ (hkp b o e))⟩
     simp only[aI,dy,dD,not_or]
     rw[hsz]
     exact⟨aS hb,aS (fj hb)⟩
   ·cases r2 with
    | error e=>exact hr2
    | ok fl2 =>
     cases fl2 with
     | ret v =>
      obtain⟨rfl,g,tk,rfl,x1,x2⟩:=hr2
      repeat (any_goals (first | assumption | wp_step))
      exact q _ _ x1 x2
     | _=>exact hr2.elim
  | _=>exact hr.elim
end
section
theorem eX:Slot "set_iterator" "__next__" "set_iterator.__next__" :=
 .of (owner:="set_iterator") (n:="__next__") (by rw[typeLookup_type,builtinLookup_eq_fast];kernel_rfl) (by decide +kernel) (by decide +kernel) (by decide +kernel)
  (by first | exact .inl (by decide +kernel) | exact .inr (by decide +kernel)) (by rw[isSubtype_type];kernel_rfl)
theorem nh:entryFor table "set_iterator.__next__"=some Builtin.«set_iterator.__next__»:=entryFor_of_tree (by kernel_rfl)
theorem AW:Manifest.owners.lookup (String.ofList ['r','o','t','a','r','e','t','i','_','t','e','s'].reverse)=some Manifest.sig_set_iterator:=by kernel_rfl
theorem oE (a:Value):argsOk "set_iterator.__next__" ⟨[a],[]⟩:=by
 unfold argsOk;rw[signature?_of (id:="set_iterator.__next__") (n:=['_','_','t','x','e','n','_','_']) (o:=['r','o','t','a','r','e','t','i','_','t','e','s']) (by kernel_rfl) AW];kernel_rfl
theorem wU:entryFor table "set.__iter__"=some Builtin.«frozenset.__iter__»:=entryFor_alias (id':="frozenset.__iter__") (by kernel_rfl) rfl (by decide +kernel) (by kernel_rfl)
def lp (f:Value) (i:Nat) (a:Addr) (n ep:Nat):Obj:={ cls:=.type "set_iterator",data:=.fields #[f,.int i 0,.ref a,.int n 0,.int ep 0] }
theorem nR {α:Type}:∀ {l:List α}{j:Nat} (h:j<l.length),(l[j]::l.eraseIdx j).Perm l
 | a::l,0,_=>List.Perm.refl _
 | a::l,j+1,h=>(List.Perm.swap a _ _).trans ((nR (l:=l) (j:=j) (by simpa using h)).cons a)
section
variable {prog:Program}{w:World}{A:Around}{E:Value->Shared->Prop}{s:Shared}
theorem Ex {r:Addr}{Q:Bool->Shared->Prop} (hT:s.TypeIs (.ref r) "set") (h:Q false s):wpAny (model prog w) A (Builtin.List.listLengthHint (.ref r)) Q E s:=by
 unfold Builtin.List.listLengthHint
 refine aa (wpAny_specialOf hT F.slot_set_len.lookup ?_)
 generalize hid:("set.__len__":String)=id0
 wp_delta
 rw[show splitId id0=some ("set","__len__") from by subst hid;decide +kernel]
 subst hid
 refine aa (wpAny_isInstance (T:="set") (b:=true) hT (by rw[isSubtype_type];kernel_rfl) ?_)
 refine wpAny_ite_split (fun hab=>absurd hab (by decide)) (fun _=>?_)
 refine wpAny_ite_split (fun _=>?_) (fun hab=>absurd (by decide +kernel) hab)
 refine aa (wpAny_typeOf hT ?_)
 exact ah h
theorem Bn {it a:Addr}{ep i slot nx:Nat}{t:SetTable}{x:Value}{Q:Option Value->Shared->Prop} (hi:s.heap.get? it=some (lp (.int slot 0) i a es.size ep)) (ho:s.heap.get? a=some o) (hd:o.data=.set es ep t) (hf:t.fits es.size=true)
  (hN:∀ {A':Around}{E':Value->Shared->Prop}{Q':Option (Value×Nat)->Shared->Prop},Q' (some (x,nx)) s->wpAny (model prog w) A' (setNext a slot i ep) Q' E' s)
  (k:∀ h',h'.get? it=some (lp (.int nx 0) (i+1) a es.size ep)->Heap.SameBut it s.heap h'->Q (some x) { s with heap:=h' }):wpAny (model prog w) A (pyNext (.ref it)) Q E s:=by
 have ty:s.TypeIs (.ref it) "set_iterator":=⟨_,hi,rfl⟩
 unfold pyNext
 refine aa (jv (kD (name:=Str.ofString "__next__") ty eX (fv eX ty nh ?_ (oE _))))
 unfold Builtin.«set_iterator.__next__» slotArgs
 refine show wpAny _ _ (fieldsOf (.ref it) >>= _) _ _ s from aa (iF hi rfl ?_)
 refine show wpAny _ _ (setEntries a >>= _) _ _ s from aa (ng ho hd hf ?_)
 rw[if_neg (by simp)]
 refine show wpAny _ _ (setNext a ((slot:Nat):Int).toNat ((i:Nat):Int).toNat ((ep:Nat):Int).toNat >>= _) _ _ s from ?_
 rw[da,da,da]
 refine aa (hN ?_)
 refine show wpAny _ _ (setField (.ref it) 0 (rawInt (nx:Int)) >>= _) _ _ s from aa (wpAny_setField_rec hi (by simp) fun h1 g1 b1=>?_)
 refine show wpAny _ _ (setField (.ref it) 1 (rawInt ((i:Int)+1)) >>= _) _ _ { s with heap:=h1 } from aa (wpAny_setField_rec g1 (by simp) fun h2 g2 b2=>?_)
 exact ah ⟨_,rfl,ah (k h2 (by rw[g2];rfl) (b1.trans b2))⟩
theorem yh {f v1 v2 v3 v4:Value} (hh:A.handled=none) (hi:s.heap.get? it=some { cls:=.type "set_iterator",data:=.fields #[f,v1,v2,v3,v4] }) (k:∀ h',Heap.ExtBut it s.heap h'->Q none { s with heap:=h' }) :
  wpAny (model prog w) A.in1 (do
    setField (.ref it) 2 .none
    let e ←newExc (.type "StopIteration") []
    raiseNew e) (fun (fin:PySem.Fin) s'=>∃ v,fin=.done (.ret v)/\wpAny (model prog w) A (pure (some v)) Q E s')
   (fun e s'=>wpAny (model prog w) A (do if (←isInstance e (.type "StopIteration"))=true then pure none else throw e) Q E s') s:=by
 refine aa (wpAny_setField_rec hi (by simp) fun h1 g1 b1=>?_)
 refine show wpAny _ _ (newExc (.type "StopIteration") [] >>= _) _ _ _ from aa ?_
 simp only[newExc,newTuple]
 refine aa (fS (aa (m:=firstArgMember _ _) (wpAny_of_eq (a:=Value.none) (by first | rfl | (simp only[firstArgMember];rfl)) ?_)) (by size_fits))
 refine fS ?_ (by size_fits)
 simp only[raiseNew]
 refine aa (wpAny_handled ?_)
 rw[show A.in1.handled=none from hh]
 refine aa (ah (wpAny_throw ?_))
 refine aa (wpAny_isInstance (T:="StopIteration") (b:=true) ⟨_,aZ _ rfl,rfl⟩ isSubtype_stop (ah ?_))
 exact (k _ ((b1.extBut.push _).push _))
theorem rp {it a:Addr}{ep i slot:Nat}{t:SetTable}{Q:Option Value->Shared->Prop} (hh:A.handled=none) (hi:s.heap.get? it=some (lp (.int slot 0) i a es.size ep)) (ho:s.heap.get? a=some o) (hd:o.data=.set es ep t) (hf:t.fits es.size=true)
  (hN:∀ {A':Around}{E':Value->Shared->Prop}{Q':Option (Value×Nat)->Shared->Prop},Q' none s->wpAny (model prog w) A' (setNext a slot i ep) Q' E' s)
  (k:∀ h',Heap.ExtBut it s.heap h'->Q none { s with heap:=h' }):wpAny (model prog w) A (pyNext (.ref it)) Q E s:=by
 have ty:s.TypeIs (.ref it) "set_iterator":=⟨_,hi,rfl⟩
 unfold pyNext
 refine aa (jv (kD (name:=Str.ofString "__next__") ty eX (fv eX ty nh ?_ (oE _))))
 unfold Builtin.«set_iterator.__next__» slotArgs
 refine show wpAny _ _ (fieldsOf (.ref it) >>= _) _ _ s from aa (iF hi rfl ?_)
 refine show wpAny _ _ (setEntries a >>= _) _ _ s from aa (ng ho hd hf ?_)
 rw[if_neg (by simp)]
 refine show wpAny _ _ (setNext a ((slot:Nat):Int).toNat ((i:Nat):Int).toNat ((ep:Nat):Int).toNat >>= _) _ _ s from ?_
 rw[da,da,da]
 exact aa (hN (yh hh hi k))
theorem HW {it a pt:Addr}{o ot:Obj}{ps:Array Value}{ep i pl e1:Nat}{tk:Tok}{t:SetTable}{h0:Int}{x:Value}{Q:Option Value->Shared->Prop} (hi:s.heap.get? it=some (lp (.ref pt) i a es.size ep)) (ho:s.heap.get? a=some o) (hd:o.data=.set es ep t) (hf:t.fits es.size=true)
  (hp:s.heap.get? pt=some ot) (hpd:ot.data=.seq ps e1) (hpi:ps[i]?=some (.int pl tk)) (hx:es[pl]?=some (h0,x))
  (k:∀ h',h'.get? it=some (lp (.ref pt) (i+1) a es.size ep)->Heap.SameBut it s.heap h'->Q (some x) { s with heap:=h' }):wpAny (model prog w) A (pyNext (.ref it)) Q E s:=by
 have ty:s.TypeIs (.ref it) "set_iterator":=⟨_,hi,rfl⟩
 unfold pyNext
 refine aa (jv (kD (name:=Str.ofString "__next__") ty eX (fv eX ty nh ?_ (oE _))))
 unfold Builtin.«set_iterator.__next__» slotArgs
 refine show wpAny _ _ (fieldsOf (.ref it) >>= _) _ _ s from aa (iF hi rfl ?_)
 refine show wpAny _ _ (setEntries a >>= _) _ _ s from aa (ng ho hd hf ?_)
 rw[if_neg (by simp)]
 refine show wpAny _ _ (seqItems? (.ref pt) >>= _) _ _ s from aa (wpAny_seqItems hp hpd ?_)
 simp only[da,hpi]
 refine aa ?_
 unfold setNextDrawn
 refine aa (kF ho hd hf ?_)
 dsimp only
 rw[if_neg (by simp),hx]
 refine ah ?_
 refine show wpAny _ _ (setField (.ref it) 1 (rawInt ((i:Int)+1)) >>= _) _ _ s from aa (wpAny_setField_rec hi (by simp) fun h2 g2 b2=>?_)
 exact ah ⟨_,rfl,ah (k h2 (by rw[g2];rfl) b2)⟩
theorem yg {it a pt:Addr}{o ot:Obj}{ps:Array Value}{ep i e1:Nat}{t:SetTable}{Q:Option Value->Shared->Prop} (hh:A.handled=none) (hi:s.heap.get? it=some (lp (.ref pt) i a es.size ep)) (ho:s.heap.get? a=some o) (hd:o.data=.set es ep t) (hf:t.fits es.size=true)
  (hp:s.heap.get? pt=some ot) (hpd:ot.data=.seq ps e1) (hpi:ps[i]?=none) (k:∀ h',Heap.ExtBut it s.heap h'->Q none { s with heap:=h' }):wpAny (model prog w) A (pyNext (.ref it)) Q E s:=by
 have ty:s.TypeIs (.ref it) "set_iterator":=⟨_,hi,rfl⟩
 unfold pyNext
 refine aa (jv (kD (name:=Str.ofString "__next__") ty eX (fv eX ty nh ?_ (oE _))))
 unfold Builtin.«set_iterator.__next__» slotArgs
 refine show wpAny _ _ (fieldsOf (.ref it) >>= _) _ _ s from aa (iF hi rfl ?_)
 refine show wpAny _ _ (setEntries a >>= _) _ _ s from aa (ng ho hd hf ?_)
 rw[if_neg (by simp)]
 refine show wpAny _ _ (seqItems? (.ref pt) >>= _) _ _ s from aa (wpAny_seqItems hp hpd ?_)
 simp only[da,hpi]
 refine aa (wpAny_setField_rec hi (by simp) fun h1 g1 b1=>?_)
 exact yh (s:={ s with heap:=h1 }) hh (g1.trans rfl) fun h' x=>k h' (b1.extBut.trans x)
theorem yK {src:Source}{n:Nat}{Q:Nat->Shared->Prop} (hn:n≠0) (k:∀ j d,j<n->Q j { s with drawn:=d }):wpAny M A (choose src n) Q E s:=fun _ _ _=>⟨hn,k _ _ (Nat.mod_lt _ (Nat.pos_of_ne_zero hn))⟩
theorem wR {M:Model}{α:Type}:∀ (n:Nat) (xs:List α) (s:Shared) {Q:List α->Shared->Prop},n=xs.length->(∀ ys d,ys.Perm xs->Q ys { s with drawn:=d })->wpAny M A (drawOrder n xs) Q E s
 | 0,xs,s,Q,e,k=>by
  have:=k [] s.drawn (by rw[mQ.mp e.symm])
  unfold drawOrder
  exact ah this
 | n+1,[],s,Q,e,k=>by cases e
 | n+1,x::xs,s,Q,e,k=>by
  unfold drawOrder
  refine aa (yK (by simp) fun j d hj=>?_)
  rw[List.getElem?_eq_getElem hj]
  dsimp only
  refine aa (wR n _ _ (by rw[List.length_eraseIdx_of_lt hj];simp at e ⊢;omega) fun ys d2 hp=>ah (k _ _ ?_))
  exact (hp.cons _).trans (nR hj)
theorem AZ {α:Type} (nx:Nat->Nat):∀ (f k:Nat) (l:List α) (out:Array α),f=l.length->(pickOrder.go nx f k l out).toList.Perm (out.toList++l)
 | 0,k,l,out,e=>by
  rw[mQ.mp e.symm,fb]
  unfold pickOrder.go
  exact List.Perm.refl _
 | f+1,k,l,out,e=>by
  have hl:0<l.length:=by omega
  have hj:nx k%l.length<l.length:=Nat.mod_lt _ hl
  unfold pickOrder.go
  rw[List.getElem?_eq_getElem hj]
  dsimp only
  refine (AZ nx f (k+1) _ _ (by rw[List.length_eraseIdx_of_lt hj];omega)).trans ?_
  rw[Array.toList_push,df]
  exact (nR hj).append_left _
theorem qH {α:Type} (nx:Nat->Nat) (xs:Array α):(pickOrder nx xs).toList.Perm xs.toList:=by
 have:=AZ nx xs.size 0 xs.toList #[] (by simp)
 show (pickOrder.go nx xs.size 0 xs.toList #[]).toList.Perm xs.toList
 simpa using this
theorem EN {ep i slot:Nat}{t:SetTable}{Q:Option (Value×Nat)->Shared->Prop} (hT:w.params.followText "set-order"=true) (ho:s.heap.get? a=some o) (hd:o.data=.set es ep t) (hf:t.fits es.size=true)
  (k:Q (((pickOrder (w.params.setOrder a ep) es)[i]?).map fun e=>(e.2,slot)) s):wpAny (model prog w) A (setNext a slot i ep) Q E s:=by
 unfold setNext
 refine aa (kF ho hd hf ?_)
 dsimp only
 refine aa (show wpAny (model prog w) A (do return (←ask).params.followText "set-order") _ _ s from aa (kC (ah ?_)))
 rw[if_pos (show (Setting.params ⟨(model prog w).prog,(model prog w).w.params⟩).followText "set-order"=true from hT),if_neg (by simp)]
 refine aa ?_
 unfold setWalk
 refine aa (kF ho hd hf ?_)
 dsimp only
 refine aa (show wpAny (model prog w) A (do return (←ask).params.followText "set-order") _ _ s from aa (kC (ah ?_)))
 rw[if_pos (show (Setting.params ⟨(model prog w).prog,(model prog w).w.params⟩).followText "set-order"=true from hT)]
 refine aa (kC (ah ?_))
 exact ah k
theorem EM {ep i slot:Nat}{t:SetTable}{Q:Option (Value×Nat)->Shared->Prop} (hT:w.params.followText "set-order"=false) (ho:s.heap.get? a=some o) (hd:o.data=.set es ep t) (hf:t.fits es.size=true) (h1:es.size<=1) (hl:t.led=true)
  (k:Q (match es[SetTable.below t.place slot]?,t.place[SetTable.below t.place slot]? with | some (_,x),some j=>some (x,j+1) | _,_=>none) s):wpAny (model prog w) A (setNext a slot i ep) Q E s:=by
 unfold setNext
 refine aa (kF ho hd hf ?_)
 dsimp only
 refine aa (show wpAny (model prog w) A (do return (←ask).params.followText "set-order") _ _ s from aa (kC (ah ?_)))
 rw[if_neg (by rw[show (Setting.params ⟨(model prog w).prog,(model prog w).w.params⟩).followText "set-order"=w.params.followText "set-order" from rfl,hT];decide)]
 split
 ·rename_i hdr
  exact absurd hdr (by show ¬ (!t.plain&&decide (es.size>1))=true;rw[decide_eq_false (by omega),Bool.and_false];decide)
 ·refine aa (show wpAny (model prog w) A (if (!t.led&&!es.isEmpty)=true then unsupported "set:maker-not-led" else pure ()) _ _ s from ?_)
  rw[hl,if_neg (by simp)]
  exact ah (ah k)
theorem J6 {t:SetTable}{Q:Value->Shared->Prop} (ho:s.heap.get? a=some o) (hex:o.ExactSet) (hd:o.data=.set es ep t) (hf:t.fits es.size=true) (hb:es.size<scanBound) (hpl:es.size≠0->t.plain=false)
  (k1:(w.params.followText "set-order"=true∨es.size<=1)->Q (.ref s.heap.objs.size) { s with heap:=s.heap.push (lp (.int ((0:Nat):Int) 0) 0 a es.size ep) })
  (k2:w.params.followText "set-order"=false->∀ (ps:List Nat) d,ps.Perm (List.range es.size)->Q (.ref (s.heap.objs.size+1)) { s with heap:=(s.heap.push { cls:=.type "tuple",data:=.seq (ps.map fun i:Nat=>Value.int (i:Int) 0).toArray }).push (lp (.ref s.heap.objs.size) 0 a es.size ep),drawn:=d }) :
  wpAny (model prog w) A (pyIter (.ref a)) Q E s:=by
 have ty:s.TypeIs (.ref a) "set":=⟨o,ho,hex.1⟩
 refine wpAny_pyIter_slot ty F.slot_set_iter (fv F.slot_set_iter ty wU ?_ (F.args_set_iter_1 _))
 unfold Builtin.«frozenset.__iter__» Builtin.Frozenset.slot0 slotArgs
 simp only[List.isEmpty_nil,Bool.not_true,ic,↓reduceIte,bind_assoc,gK,bne_self_eq_false]
 unfold Builtin.Frozenset.addrOf Builtin.Frozenset.sizeOf
 refine aa (ah ?_)
 try dsimp only
 refine aa (ah ?_)
 refine aa (aa (ng ho hd hf (ah ?_)))
 unfold setDrawn
 refine aa (aa (kF ho hd hf ?_))
 dsimp only
 refine aa (show wpAny (model prog w) A.in1 (do return (←ask).params.followText "set-order") _ _ s from aa (kC (ah ?_)))
 refine ah ?_
 have done:(w.params.followText "set-order"=true∨es.size<=1)->wpAny (model prog w) A.in1 (do
   let first ←pure (rawInt 0)
   let e ←setEpoch a
   let f ←newFields "set_iterator" [first,rawInt 0,Value.ref a,rawInt (es.size:Int),rawInt (e:Int)]
   ret f) (fun fin s'=>∃ v,fin=PySem.Fin.done (Flow.ret v)/\∃ T' r,s'.TypeIs v T'/\typeLookup (Value.type T') (Str.ofString "__next__")=pure (some r)/\Q v s') E s:=fun hc=>by
  refine aa (ah (aa (wpAny_setEpoch_of ho hd hf ?_)))
  refine aa (fS (ah ⟨_,rfl,"set_iterator",_,⟨_,aZ _ rfl,rfl⟩,eX.lookup,?_⟩))
  exact k1 hc
 split
 ·rename_i hc
  have hc':(!w.params.followText "set-order"&&(!t.plain&&decide (es.size>1)))=true:=hc
  rw[bI,bI,bC] at hc'
  have hT:w.params.followText "set-order"=false:=by simpa using hc'.1
  refine aa (wR es.size (List.range es.size) _ (by simp) fun ps d hp=>?_)
  have hz:(ps.map fun i:Nat=>rawInt (i:Int)).length<=sizeLine:=by rw[List.length_map,hp.length_eq,List.length_range];exact fits_of_scanBound hb
  refine aa (wpAny_newTuple ?_ hz)
  have ho1:=az (seqObj "tuple" (ps.map fun i:Nat=>rawInt (i:Int)).toArray 0) ho
  refine aa (wpAny_setEpoch_of ho1 hd hf ?_)
  refine aa (fS (ah ⟨_,rfl,"set_iterator",_,⟨_,aZ _ rfl,rfl⟩,eX.lookup,?_⟩))
  have:=k2 hT ps d hp
  rw[←size_push' s.heap (seqObj "tuple" (ps.map fun i:Nat=>rawInt (i:Int)).toArray 0)] at this
  exact this
 ·rename_i hc
  have hc':¬ (!w.params.followText "set-order"&&(!t.plain&&decide (es.size>1)))=true:=hc
  refine done ?_
  by_cases h1:es.size<=1
  ·exact .inr h1
  ·left
   rw[hpl (by omega),aq (show es.size>1 by omega)] at hc'
   simpa using hc'
end
end
section
theorem yi:Slot "set_iterator" "__iter__" "set_iterator.__iter__" :=
 .of (owner:="set_iterator") (n:="__iter__") (by rw[typeLookup_type,builtinLookup_eq_fast];kernel_rfl) (by decide +kernel) (by decide +kernel) (by decide +kernel)
  (by first | exact .inl (by decide +kernel) | exact .inr (by decide +kernel)) (by rw[isSubtype_type];kernel_rfl)
theorem BY:entryFor table "set_iterator.__iter__"=some Builtin.«dict_keyiterator.__iter__»:=entryFor_alias (id':="dict_keyiterator.__iter__") (by kernel_rfl) rfl (by decide +kernel) (by kernel_rfl)
theorem DI (a:Value):argsOk "set_iterator.__iter__" ⟨[a],[]⟩:=by
 unfold argsOk;rw[signature?_of (id:="set_iterator.__iter__") (n:=['_','_','r','e','t','i','_','_']) (o:=['r','o','t','a','r','e','t','i','_','t','e','s']) (by kernel_rfl) AW];kernel_rfl
section
variable {prog:Program}{w:World}{A:Around}{E:Value->Shared->Prop}{s:Shared}
theorem zV {f:Value}{i n ep:Nat}{Q:Value->Shared->Prop} (hi:s.heap.get? it=some (lp f i a n ep)) (h:Q (.ref it) s):wpAny (model prog w) A (pyIter (.ref it)) Q E s:=by
 have ty:s.TypeIs (.ref it) "set_iterator":=⟨_,hi,rfl⟩
 refine wpAny_pyIter_slot ty yi (fv yi ty BY ?_ (DI _))
 show wpAny _ _ (ret (.ref it)) _ _ s
 exact ah ⟨_,rfl,"set_iterator",_,ty,eX.lookup,h⟩
theorem Ii {I a:Addr}{t:SetTable} (hh:A.handled=none) (hne:a≠I) (hT:w.params.followText "set-order"=true) (hd:o.data=.set es ep t) (hf:t.fits es.size=true) :
  Walks prog w A I [I,a] [I] es.size (fun i v=>((pickOrder (w.params.setOrder a ep) es).toList.map (·.2))[i]?=some v) (fun i h=>h.get? I=some (lp (.int ((0:Nat):Int) 0) i a es.size ep)/\h.get? a=some o) where
 sub:=fun b hb=>by simp at hb;simp [hb]
 frame:=fun _ _ _ st hk=>⟨hk I (by simp) _ st.1,hk a (by simp) _ st.2⟩
 item:=fun i s Q E hi st hQ=>by
  have hl:i<(pickOrder (w.params.setOrder a ep) es).size:=by rw[←cP,(qH _ es).length_eq,cP];exact hi
  refine Bn st.1 st.2 hd hf (x:=(pickOrder (w.params.setOrder a ep) es)[i].2) (nx:=0) (fun q=>EN hT st.2 hd hf (by rw[iM hl];exact q)) fun h' g b=>?_
  refine hQ _ h' s.toks ?_ ⟨g,(b.2 a hne).trans st.2⟩ fun c u hc e=>(b.2 c (by simpa using hc)).trans e
  rw[aJ,hZ,iM hl];rfl
 done:=fun s Q E st hQ=>by
  have hl:(pickOrder (w.params.setOrder a ep) es).size=es.size:=by rw[←cP,(qH _ es).length_eq,cP]
  exact rp hh st.1 st.2 hd hf (fun q=>EN hT st.2 hd hf (by rw[mY (by omega)];exact q)) fun h' x=>hQ h' s.toks fun b u hb e=>x b u (by simpa using hb) e
 self:=fun _ _ _ _ st hQ=>zV st.1 hQ
theorem Ig {I a pt:Addr}{o ot:Obj}{ep e1:Nat}{t:SetTable}{ps:List Nat} (hh:A.handled=none) (hne:a≠I) (hnp:pt≠I) (hd:o.data=.set es ep t) (hf:t.fits es.size=true) (hpd:ot.data=.seq (ps.map fun i:Nat=>Value.int (i:Int) 0).toArray e1) (hp:ps.Perm (List.range es.size)) :
  Walks prog w A I [I,a,pt] [I] es.size (fun i v=>(ps.map fun j=>(es.getD j (0,.none)).2)[i]?=some v) (fun i h=>h.get? I=some (lp (.ref pt) i a es.size ep)/\h.get? a=some o/\h.get? pt=some ot) where
 sub:=fun b hb=>by simp at hb;simp [hb]
 frame:=fun _ _ _ st hk=>⟨hk I (by simp) _ st.1,hk a (by simp) _ st.2.1,hk pt (by simp) _ st.2.2⟩
 item:=fun i s Q E hi st hQ=>by
  have hl:i<ps.length:=by rw[hp.length_eq,List.length_range];exact hi
  have hm:ps[i]<es.size:=bN.mp (hp.mem_iff.mp (i6 hl))
  refine HW (pl:=ps[i]) (tk:=0) (h0:=es[ps[i]].1) (x:=es[ps[i]].2) st.1 st.2.1 hd hf st.2.2 hpd (by rw[List.getElem?_toArray,aJ,List.getElem?_eq_getElem hl];rfl) (by rw[iM hm]) fun h' g b=>?_
  refine hQ _ h' s.toks ?_ ⟨g,(b.2 a hne).trans st.2.1,(b.2 pt hnp).trans st.2.2⟩ fun c u hc e=>(b.2 c (by simpa using hc)).trans e
  rw[aJ,List.getElem?_eq_getElem hl]
  simp [Array.getD,hm]
 done:=fun s Q E st hQ=>by
  have hl:ps.length=es.size:=by rw[hp.length_eq,List.length_range]
  exact yg hh st.1 st.2.1 hd hf st.2.2 hpd (by rw[List.getElem?_toArray,aJ,gJ (by omega)];rfl) fun h' x=>hQ h' s.toks fun b u hb e=>x b u (by simpa using hb) e
 self:=fun _ _ _ _ st hQ=>zV st.1 hQ
theorem Aq {xs:Array Nat} (h:xs.size=1):∃ p,xs=#[p]:=⟨xs[0],Array.ext (by simp [h]) fun j h1 h2=>by
 have:j=0:=by omega
 subst this;rfl⟩
theorem ux (p:Nat):SetTable.below #[p] 0=0/\SetTable.below #[p] (p+1)=1:=by
 constructor
 ·simp [SetTable.below,SetTable.below.go]
 ·simp [SetTable.below,SetTable.below.go]
theorem Ih {I a:Addr}{t:SetTable} (hh:A.handled=none) (hne:a≠I) (hT:w.params.followText "set-order"=false) (hd:o.data=.set es ep t) (hf:t.fits es.size=true) (h1:es.size<=1) (hled:t.led=true) :
  Walks prog w A I [I,a] [I] es.size (fun i v=>(es.toList.map (·.2))[i]?=some v) (fun i h=>h.get? I=some (lp (.int (((if i=0 then 0 else t.place.getD 0 0+1):Nat):Int) 0) i a es.size ep)/\h.get? a=some o) where
 sub:=fun b hb=>by simp at hb;simp [hb]
 frame:=fun _ _ _ st hk=>⟨hk I (by simp) _ st.1,hk a (by simp) _ st.2⟩
 item:=fun i s Q E hi st hQ=>by
  obtain rfl:i=0:=by omega
  have hz:t.place.size=1:=by
   simp only[SetTable.fits,bI,fq] at hf
   omega
  obtain⟨p,hp⟩:=Aq hz
  have h0:0<es.size:=hi
  refine Bn (slot:=0) st.1 st.2 hd hf (x:=es[0].2) (nx:=p+1) (fun q=>EM hT st.2 hd hf h1 hled (by rw[hp,(ux p).1,iM h0];exact q)) fun h' g b=>?_
  refine hQ _ h' s.toks ?_ ⟨by rw[g,hp];rfl,(b.2 a hne).trans st.2⟩ fun c u hc e=>(b.2 c (by simpa using hc)).trans e
  rw[aJ,hZ,iM h0];rfl
 done:=fun s Q E st hQ=>by
  have hz:t.place.size=es.size:=by
   simp only[SetTable.fits,bI,fq] at hf
   exact hf.1
  refine rp hh st.1 st.2 hd hf (fun q=>EM hT st.2 hd hf h1 hled ?_) fun h' x=>hQ h' s.toks fun b u hb e=>x b u (by simpa using hb) e
  by_cases h0:es.size=0
  ·rw[mY (by omega)];exact q
  ·obtain⟨p,hp⟩:=Aq (xs:=t.place) (by omega)
   rw[if_neg h0,hp]
   rw[show (#[p]:Array Nat).getD 0 0=p from rfl,(ux p).2,mY (by omega)]
   exact q
 self:=fun _ _ _ _ st hQ=>zV st.1 hQ
theorem C6 {t:SetTable}{Q:Value->Shared->Prop} (hh:A.handled=none) (ho:s.heap.get? a=some o) (hex:o.ExactSet) (hd:o.data=.set es ep t) (hf:t.fits es.size=true) (hb:es.size<scanBound) (hled:t.led=!w.params.followText "set-order") (hpl:es.size≠0->t.plain=false)
  (k:∀ (I:Addr) (fp:List Addr) (St:Nat->Heap->Prop) (vs:List Value) (h':Heap) (d:Drawn),vs.Perm (es.toList.map (·.2))->Walks prog w A I fp [I] es.size (fun i v=>vs[i]?=some v) St->St 0 h'->(∀ b u,s.heap.get? b=some u->h'.get? b=some u)->(∀ b∈fp,b=a∨s.heap.objs.size<=b)->s.heap.objs.size<=I->Q (.ref I) { s with heap:=h',drawn:=d }) :
  wpAny (model prog w) A (pyIter (.ref a)) Q E s:=by
 have la:a<s.heap.objs.size:=aB ho
 refine J6 ho hex hd hf hb hpl (fun hc=>?_) fun hT ps d hp=>?_
 ·have gI:(s.heap.push (lp (.int ((0:Nat):Int) 0) 0 a es.size ep)).get? s.heap.objs.size=some (lp (.int ((0:Nat):Int) 0) 0 a es.size ep):=aZ _ rfl
  have ga:=az (lp (.int ((0:Nat):Int) 0) 0 a es.size ep) ho
  have fpo:∀ b∈[s.heap.objs.size,a],b=a∨s.heap.objs.size<=b:=fun b hb=>by
   rcases aI.mp hb with rfl | hb
   ·exact .inr (ak _)
   ·exact .inl (aV.mp hb)
  cases hT:w.params.followText "set-order" with
  | true=>exact k _ _ _ _ _ s.drawn ((qH _ es).map _) (Ii hh (aS la) hT hd hf) ⟨gI,ga⟩ (fun b u e=>az _ e) fpo (ak _)
  | false =>
   have h1:es.size<=1:=hc.resolve_left fun z=>by rw[hT] at z;cases z
   rw[hT] at hled
   exact k _ _ _ _ _ s.drawn (List.Perm.refl _) (Ih hh (aS la) hT hd hf h1 hled) ⟨gI,ga⟩ (fun b u e=>az _ e) fpo (ak _)
 ·have sz:(s.heap.push { cls:=.type "tuple",data:=.seq (ps.map fun i:Nat=>Value.int (i:Int) 0).toArray }).objs.size=s.heap.objs.size+1:=iw ..
  have gI:((s.heap.push { cls:=.type "tuple",data:=.seq (ps.map fun i:Nat=>Value.int (i:Int) 0).toArray }).push (lp (.ref s.heap.objs.size) 0 a es.size ep)).get? (s.heap.objs.size+1)=some (lp (.ref s.heap.objs.size) 0 a es.size ep):=by
   rw[←sz];exact aZ _ rfl
  have gp:((s.heap.push { cls:=.type "tuple",data:=.seq (ps.map fun i:Nat=>Value.int (i:Int) 0).toArray }).push (lp (.ref s.heap.objs.size) 0 a es.size ep)).get? s.heap.objs.size=some { cls:=.type "tuple",data:=.seq (ps.map fun i:Nat=>Value.int (i:Int) 0).toArray }:=az _ (aZ _ rfl)
  have ga:=az (lp (.ref s.heap.objs.size) 0 a es.size ep) (az { cls:=.type "tuple",data:=.seq (ps.map fun i:Nat=>Value.int (i:Int) 0).toArray } ho)
  refine k _ _ _ (ps.map fun j=>(es.getD j (0,.none)).2) _ d ?_ (Ig hh (aS (fj la)) (aS (k7 _)) hd hf rfl hp) ⟨gI,ga,gp⟩ (fun b u e=>az _ (az _ e)) (fun b hb=>?_) (fN _)
  ·refine (hp.map _).trans (List.Perm.of_eq ?_)
   apply gG
   intro i
   rw[aJ,aJ]
   by_cases hi:i<es.size
   ·rw[List.getElem?_range hi,hZ,iM hi]
    simp [Array.getD,hi]
   ·rw[gJ (by rw[List.length_range];exact Nat.le_of_not_lt hi),gJ (by rw[cP];exact Nat.le_of_not_lt hi)];rfl
  ·rcases aI.mp hb with rfl | hb
   ·exact .inr (fN _)
   ·rcases aI.mp hb with rfl | hb
    ·exact .inl rfl
    ·rw[aV.mp hb];exact .inr (ak _)
theorem BQ {t:SetTable}{R:List Value->Shared->Prop} (hh:A.handled=none) (ho:s.heap.get? a=some o) (hex:o.ExactSet) (hd:o.data=.set es ep t) (hf:t.fits es.size=true) (hb:es.size<scanBound) (hled:t.led=!w.params.followText "set-order") (hpl:es.size≠0->t.plain=false)
  (h:∀ (h':Heap) (tk:Nat) (d:Drawn) (vs:List Value),(∀ b u,s.heap.get? b=some u->h'.get? b=some u)->vs.Perm (es.toList.map (·.2))->R vs { s with heap:=h',toks:=tk,drawn:=d }) :
  wpAny (model prog w) A (collect (.ref a)) R E s:=by
 have la:a<s.heap.objs.size:=aB ho
 unfold collect
 refine aa (wpAny_runValue (ft entry_proto_collect' ?_))
 rw[oy PySem.F.plain_proto_collect _]
 show wpAny _ A.in1 (newList [] >>= fun l=>again (.builtin "list.__iadd__" ⟨[l,.ref a],[]⟩)) _ _ s
 refine aa (fS ?_)
 refine ah ⟨kA PySem.F.plain_list_iadd _,ft entry_list_iadd' ?_⟩
 rw[oy PySem.F.plain_list_iadd _]
 have hS:(s.heap.push { cls:=.type "list",data:=.seq ([]:List Value).toArray }).get? s.heap.objs.size=some { cls:=.type "list",data:=.seq #[] }:=aZ _ rfl
 have szS:(s.heap.push { cls:=.type "list",data:=.seq ([]:List Value).toArray }).objs.size=s.heap.objs.size+1:=iw ..
 have ho1:=az { cls:=.type "list",data:=.seq ([]:List Value).toArray } ho
 have kp1:∀ b u,s.heap.get? b=some u->(s.heap.push { cls:=.type "list",data:=.seq ([]:List Value).toArray }).get? b=some u:=fun b u e=>az _ e
 generalize s.heap.push { cls:=.type "list",data:=.seq ([]:List Value).toArray }=h1 at hS szS ho1 kp1
 show wpAny _ A.in1 (Builtin.List.listExtendWith (.ref s.heap.objs.size) (.ref a) (.ref s.heap.objs.size)) _ _ _
 unfold Builtin.List.listExtendWith
 refine aa (wpAny_typeOf (T:="set") ⟨o,ho1,hex.1⟩ ?_)
 have e1:Builtin.List.listSameRef (.ref s.heap.objs.size) (.ref a)=false:=by simp [Builtin.List.listSameRef,gO la]
 have e2:(Value.type "set"==Value.type "list")=false:=by decide
 have e3:(Value.type "set"==Value.type "tuple")=false:=by decide
 simp only[e1,e2,e3,Bool.or_false,ic,dU]
 refine aa (C6 (A:=A.in1) (s:={ s with heap:=h1 }) hh ho1 hex hd hf hb hled hpl fun I fp St vs h2 d hperm W st kp2 fpo lI=>?_)
 have hsf:s.heap.objs.size∉fp:=fun hm=>by
  rcases fpo _ hm with e | e
  ·exact absurd e (gO la)
  ·exact absurd (aK (k6 szS.symm) e) (Nat.not_succ_le_self _)
 have lI':h1.objs.size<=I:=lI
 have lv:vs.length=es.size:=by rw[hperm.length_eq,List.length_map,cP]
 have key:∀ (h3:Heap) (c₁ tk:Nat),St 0 h3->(∀ b u,s.heap.get? b=some u->h3.get? b=some u)->h3.get? s.heap.objs.size=some { cls:=.type "list",data:=.seq #[] c₁ } →
   codeAny (model prog w) A (.builtin "list.extend.loop" ⟨[.ref s.heap.objs.size,.ref I,.ref s.heap.objs.size],[]⟩) (fun (q:Result) (s':Shared)=>∃ (h':Heap) (tk:Nat) (c':Nat),q=.ok (.ret (.ref s.heap.objs.size))/\s'={ s with heap:=h',toks:=tk,drawn:=d } ∧
    (∀ b u,s.heap.get? b=some u->h'.get? b=some u)/\h'.get? s.heap.objs.size=some { cls:=.type "list",dict:=none,data:=.seq vs.toArray c',slots:=#[] }) { s with heap:=h3,toks:=tk,drawn:=d }:=fun h3 c₁ tk hst hk hS1=>by
  refine codeAny_extend_loopS W.toS (fits_of_scanBound hb) s.heap.objs.size hsf (.ref s.heap.objs.size) es.size 0 _ #[] c₁ rfl (aT _) hst hS1 (ItemsOf.nil _) fun s' acc' c' hm hS' hacc=>?_
  have ea:acc'=vs.toArray:=by
   apply Array.toList_inj.mp
   apply gG
   intro i
   by_cases hi:i<es.size
   ·have hi2:i<acc'.size:=by rw[hacc.1];exact hi
    rw[hZ,iM hi2]
    exact (hacc.2 i _ (iM hi2)).symm
   ·rw[hZ,mY (by rw[hacc.1];omega)]
    exact (gJ (show vs.length<=i by rw[lv];exact Nat.le_of_not_lt hi)).symm
  subst ea
  rw[Moved.eq_with hm]
  refine⟨s'.heap,s'.toks,c',rfl,rfl,fun b u e=>hm.heap b u (fun hmem=>?_) (hk b u e),hS'⟩
  have lb:=aB e
  rcases aI.mp hmem with e' | hmem
  ·exact absurd e' (aS lb)
  ·rw[aV.mp hmem] at lb
   exact absurd (bB lb (aK (fN _) (aK (k6 szS.symm) lI'))) (eL _)
 have hS2:=kp2 _ _ hS
 have k02:∀ b u,s.heap.get? b=some u->h2.get? b=some u:=fun b u e=>kp2 b u (kp1 b u e)
 refine aa (dE (Ex (s:={ s with heap:=h2,drawn:=d }) ⟨o,kp2 _ _ ho1,hex.1⟩ ?_))
 have fin:∀ {h3:Heap}{c₁ tk:Nat},St 0 h3->(∀ b u,s.heap.get? b=some u->h3.get? b=some u)->h3.get? s.heap.objs.size=some { cls:=.type "list",data:=.seq #[] c₁ }->_:=fun {h3 c₁ tk} a1 a2 a3=>fR (key h3 c₁ tk a1 a2 a3) (R':=fun r s'=>match r with
   | Except.ok (Flow.ret v)=>wpAny (model prog w) A (match v with
      | Value.ref a=>do
       let o ←load a
       match o.data with
        | Data.seq xs epoch=>pure xs.toList
        | x=>unsupported "internal:collect"
      | x=>unsupported "internal:collect") R E s'
   | Except.ok a=>False
   | Except.error e=>E e s') fun q s' ⟨h',tk',c',e1,e2,hk,hS'⟩=>by
  subst e1 e2
  show wpAny _ A (load s.heap.objs.size >>= _) _ _ _
  refine aa (wpAny_load hS' ?_)
  exact ah (h h' tk' d vs hk hperm)
 refine wpAny_ite_split (fun _=>?_) (fun _=>ah ⟨kA PySem.F.plain_extend_loop _,fin st k02 hS2⟩)
 refine aa (wpAny_rule ?_)
 refine aa ?_
 show wpAny _ _ (updateSeq s.heap.objs.size (·.push .none) >>= fun _=>updateSeq s.heap.objs.size (·.pop)) _ _ _
 refine aa (wpAny_updateSeq hS2 rfl ?_)
 have hS3:=eZ (Obj.mapSeq (·.push Value.none)) hS2 rfl
 refine wpAny_updateSeq (hz:=by seq_fits) hS3 rfl ?_
 have hS4:=eZ (Obj.mapSeq (·.pop)) hS3 rfl
 refine ah ⟨kA PySem.F.plain_extend_loop _,fin ?_ (fun b u e=>?_) hS4⟩
 ·refine W.frame 0 _ _ st fun b hb o e=>?_
  have hbS:b≠s.heap.objs.size:=fun h=>hsf (h ▸ hb)
  exact (dw _ _ (bt hbS)).trans ((dw _ _ (bt hbS)).trans e)
 ·have hbS:b≠s.heap.objs.size:=aS (aB e)
  exact (dw _ _ (bt hbS)).trans ((dw _ _ (bt hbS)).trans (k02 b u e))
end
end
section
theorem sN {val:Nat->Key}{x:Key}:∀ {n:Nat},x∈bT val n↔∃ i,i<n/\val i=x
 | 0=>⟨(fun h=>by cases h),fun ⟨i,h,_⟩=>absurd h (Nat.not_lt_zero i)⟩
 | n+1=>by
  have ih:=sN (val:=val) (x:=x) (n:=n)
  unfold bT
  split
  ·rename_i hm
   rw[jc] at hm
   refine ih.trans ⟨fun ⟨i,h,e⟩=>⟨i,by omega,e⟩,fun ⟨i,h,e⟩=>?_⟩
   by_cases hi:i=n
   ·subst hi;rw[←e];exact sN.mp hm
   ·exact⟨i,by omega,e⟩
  ·rw[bz,aV,ih]
   refine⟨fun h=>h.elim (fun ⟨i,h,e⟩=>⟨i,by omega,e⟩) fun e=>⟨n,by omega,e.symm⟩,fun ⟨i,h,e⟩=>?_⟩
   by_cases hi:i=n
   ·subst hi;exact .inr e.symm
   ·exact .inl ⟨i,by omega,e⟩
theorem vG (val:Nat->Key):∀ n,(bT val n).Nodup
 | 0=>List.nodup_nil
 | n+1=>by
  have ih:=vG val n
  unfold bT
  split
  ·exact ih
  ·rename_i hm
   rw[jc] at hm
   rw[List.nodup_append]
   exact⟨ih,by simp,fun a ha b hb e=>hm (by rw[aV.mp hb] at e;rw[←e];exact ha)⟩
theorem yj {α:Type} [DecidableEq α]:∀ {l us:List α},l.Nodup->(∀ x∈l,x∈us)->us.length=l.length->l.Perm us
 | [],us,_,_,e=>by rw[mQ.mp e]
 | a::l,us,nd,h,e=>by
  rw[dS] at nd
  have hm:=h a List.mem_cons_self
  have hp:=List.perm_cons_erase hm
  refine ((yj (us:=us.erase a) nd.2 (fun x hx=>?_) ?_).cons a).trans hp.symm
  ·exact (List.mem_erase_of_ne (fun z=>nd.1 (by rw[←z];exact hx))).mpr (h x (List.mem_cons_of_mem _ hx))
  ·rw[List.length_erase_of_mem hm,e];rfl
def setM (P:Program) (w:World) (a:Addr) (l:List Key):HO:=.ext fun h=>qk P w (!w.params.followText "set-order") h a l
theorem HS {l:List Key} (x:qk P w (!w.params.followText "set-order") h a l):bM P w H h a (setM P w a l):=by
 refine⟨x,?_,fun h1 h2 y k=>?_⟩
 ·obtain⟨o,_,_,_,e,_⟩:=x;exact⟨o,e⟩
 ·obtain⟨o,es,ep,t,e,r⟩:=y;exact⟨o,es,ep,t,k o e,r⟩
def IF (K:PySem.W.Frag) (P:Program) (w:World):List V->Hp->VK->Prop:=fun vs H Q=>match vs with
 | [.ref a]=>∃ zs:List Str,SqL K H a (zs.map V.str)/\zs.length<=4000/\∀ p H',H p=none->aw H H'->H' p=some (setM P w p (bT (mB zs) zs.length))->Q (.ref p) H'
 | _=>False
theorem Eg {K:PySem.W.Frag}{P:Program}{w:World}{a:Addr}{H:Hp}{Q:VK}:IF K P w [.ref a] H Q=(∃ zs:List Str,SqL K H a (zs.map V.str)/\zs.length<=4000/\∀ p H',H p=none->aw H H'->H' p=some (setM P w p (bT (mB zs) zs.length))->Q (.ref p) H'):=propext Iff.rfl
theorem yG (hK:X.K=K) (hP:X.prog=P) (hw:X.w=w) (hc:X.calm=true):cW X (.type "set") (IF K P w):=by
 subst hK hP hw
 intro pins s σ H xs us Q I r h
 rcases xs with _ | ⟨x0,t⟩
 ·exact h.elim
 cases x0<;>try exact h.elim
 cases t<;>try exact h.elim
 next a =>
  obtain⟨zs,h1,h2,h3⟩:=h
  obtain⟨u,rfl,ru⟩:=vals1 r
  cases ru
  obtain⟨vs,r1,p1,_⟩:=I.list h1
  have l1:=r1.length
  rw[List.length_map] at l1
  have hf:H s.heap.objs.size=none:=I.hok.fresh (ak _)
  have hs:vs.toArray.size=zs.length:=by rw[br];omega
  refine wo (val:=mB zs) (I.ok.hd hc) p1.isList (fun i v e=>?_) (by rw[hs];unfold scanBound;omega) fun g tk x k=>?_
  ·have e':vs[i]?=some v:=by simpa using e
   have hi:i<zs.length:=by have:=(bf.mp e').1;omega
   have ez:zs[i]?=some zs[i]:=List.getElem?_eq_getElem hi
   obtain⟨u,hu,ru⟩:=r1.get (i:=i) (x:=V.str zs[i]) (by rw[aJ,ez];rfl)
   rw[e'] at hu
   cases hu
   obtain⟨t,rfl⟩:=ru
   refine⟨zs[i],t,rfl,?_⟩
   unfold mB
   rw[List.getD_eq_getElem?_getD,ez];rfl
  ·rw[hs] at x
   have kk:∀ b o,s.heap.get? b=some o->g.get? b=some o:=fun b o e=>k b o (aB e) e
   exact⟨.ref s.heap.objs.size,upd H s.heap.objs.size (setM X.prog X.w s.heap.objs.size (bT (mB zs) zs.length)),I.laid (t':=tk) kk (ak _) (HS x),rfl,h3 _ _ hf (dv hf) a8⟩
theorem uc {k:Key}:k∈bT (mB zs) zs.length↔∃ z∈zs,k=.inr z:=by
 rw[sN]
 constructor
 ·rintro⟨i,hi,rfl⟩
  refine⟨zs[i],i6 hi,?_⟩
  unfold mB
  rw[List.getD_eq_getElem?_getD,List.getElem?_eq_getElem hi];rfl
 ·rintro⟨z,hz,rfl⟩
  obtain⟨i,hi,rfl⟩:=List.getElem_of_mem hz
  refine⟨i,hi,?_⟩
  unfold mB
  rw[List.getD_eq_getElem?_getD,List.getElem?_eq_getElem hi];rfl
theorem Di (hel:ElemsOf (aX P w) es.toList) (hmem:∀ k,fw k (bT (mB zs) zs.length)=true↔∃ e∈es.toList,jb k e.2=true) (hn:es.size=(bT (mB zs) zs.length).length)  (hp:vs.Perm (es.toList.map (·.2))) :
  ∃ us:List Str,StrsAre vs us/\us.Nodup/\∀ z,z∈us↔z∈zs:=by
 have hst:∀ v∈vs,∃ z t,v=Value.str z t/\z∈zs:=fun v hv=>by
  obtain⟨e,he,rfl⟩:=aE.mp (hp.mem_iff.mp hv)
  obtain⟨⟨k,hk,_⟩,_⟩:=hel e he
  have hk':jb k e.2=true:=hk
  obtain⟨z,hz,rfl⟩:=uc.mp (jc.mp ((hmem k).mpr ⟨e,he,hk'⟩))
  rcases c9 hk' with ⟨n,t,e3,e4⟩ | ⟨y,t,e3,e4⟩
  ·cases e3
  ·cases e3;exact⟨z,t,e4,hz⟩
 have mk:∀ {vs:List Value},(∀ v∈vs,∃ z t,v=Value.str z t/\z∈zs)->∃ us:List Str,StrsAre vs us/\(∀ z∈us,z∈zs)/\∀ z,(∃ t,Value.str z t∈vs)->z∈us:=by
  intro vs
  induction vs with
  | nil=>intro _;exact⟨[],.nil,(fun z h=>by cases h),fun z ⟨t,h⟩=>by cases h⟩
  | cons v vs ih =>
   intro h
   obtain⟨us,a1,a2,a3⟩:=ih fun u hu=>h u (List.mem_cons_of_mem _ hu)
   obtain⟨z,t,rfl,hz⟩:=h v List.mem_cons_self
   refine⟨z::us,.cons z t a1,fun y hy=>?_,fun y ⟨t',hy⟩=>?_⟩
   ·rcases aI.mp hy with rfl | hy
    ·exact hz
    ·exact a2 y hy
   ·rcases aI.mp hy with e | hy
    ·injection e with e _;rw[e];exact List.mem_cons_self
    ·exact List.mem_cons_of_mem _ (a3 y ⟨t',hy⟩)
 obtain⟨us,a1,a2,a3⟩:=mk hst
 have lu:∀ {vs:List Value}{us:List Str},StrsAre vs us->us.length=vs.length:=fun h=>by
  induction h with
  | nil=>rfl
  | cons z t _ ih=>rw[aO,aO,ih]
 have hin:∀ z∈zs,z∈us:=fun z hz=>by
  obtain⟨e,he,hk⟩:=(hmem (.inr z)).mp (jc.mpr (uc.mpr ⟨z,hz,rfl⟩))
  rcases c9 hk with ⟨n,t,e3,e4⟩ | ⟨y,t,e3,e4⟩
  ·cases e3
  ·cases e3
   exact a3 z ⟨t,by rw[←e4];exact hp.mem_iff.mpr (aE.mpr ⟨e,he,rfl⟩)⟩
 have hperm:(bT (mB zs) zs.length).Perm (us.map (Sum.inr:Str->Key)):=yj (vG _ _) (fun k hk=>by
   obtain⟨z,hz,rfl⟩:=uc.mp hk
   exact aE.mpr ⟨z,hin z hz,rfl⟩) (by rw[List.length_map,lu a1,hp.length_eq,List.length_map,cP,hn])
 have hnd:=hperm.nodup_iff.mp (vG _ _)
 refine⟨us,a1,?_,fun z=>⟨a2 z,hin z⟩⟩
 exact (gM.mp hnd).imp fun h e=>h (by rw[e])
def F5 (P:Program) (w:World):List V->Hp->VK->Prop:=fun vs H Q=>match vs with
 | [.ref a]=>∃ zs:List Str,H a=some (setM P w a (bT (mB zs) zs.length))/\(bT (mB zs) zs.length).length<64/\∀ ws:List Str,ws.Nodup->(∀ z,z∈ws↔z∈zs)->sortedS ws=true->nw H (.lst (ws.map V.str)) Q
 | _=>False
theorem Cm {P:Program}{w:World}{a:Addr}{H:Hp}{Q:VK}:F5 P w [.ref a] H Q=(∃ zs:List Str,H a=some (setM P w a (bT (mB zs) zs.length))/\(bT (mB zs) zs.length).length<64/\∀ ws:List Str,ws.Nodup->(∀ z,z∈ws↔z∈zs)->sortedS ws=true->nw H (.lst (ws.map V.str)) Q):=propext Iff.rfl
theorem yI (hP:X.prog=P) (hw:X.w=w) (hc:X.calm=true):cW X (.builtin "sorted") (F5 P w):=by
 subst hP hw
 intro pins s σ H xs us Q I r h
 rcases xs with _ | ⟨x0,t⟩
 ·exact h.elim
 cases x0<;>try exact h.elim
 cases t<;>try exact h.elim
 next a =>
  obtain⟨zs,ha,h64,k⟩:=h
  obtain⟨u,rfl,r2⟩:=vals1 r
  cases r2
  obtain⟨o,es,ep,t,ho,hex,hd,hel,hmem,hb,hf,hn,hled,hpl⟩:qk X.prog X.w (!X.w.params.followText "set-order") s.heap a (bT (mB zs) zs.length):=(show bM X.prog X.w H s.heap a (setM X.prog X.w a _) from I.hok a _ ha).1
  refine Calls.call_function_entry kind_sorted plain_sorted entry_sorted (args_sorted1 _) ?_
  unfold Builtin.«sorted»
  refine aa (m:=checkCount "sorted" 1 1 _) (ah (aa (BQ (A:=X.A.in1) (I.ok.hd hc) ho hex hd hf hb hled hpl fun h1 tk d vs k1 hp=>?_)))
  obtain⟨us,hS,hnd,hmz⟩:=Di hel hmem hn hp
  have lv:vs.length<64:=by rw[hp.length_eq,List.length_map,cP,hn];exact h64
  have hz:vs.length<=sizeLine:=aP (bB lv (by rw[ju];omega))
  refine aa (wpAny_newList ?_ hz)
  have gL:(h1.push (seqObj "list" vs.toArray 0)).get? h1.objs.size=some (seqObj "list" vs.toArray 0):=aZ _ rfl
  refine aa (dE (fv slot_list_sort ⟨_,gL,rfl⟩ entry_list_sort (list_sort_treeK strKind_oneLt gL hS.keysOf (fun v₁ v₂ rest e=>keyKind_strs (by rw[←e];exact hS)) lv fun st' a1 a2=>⟨_,rfl,ah ⟨_,rfl,?_⟩⟩) (args_list_sort _)))
  obtain⟨ws,b1,b2,b3⟩:=sorted_out_str hS a1 a2
  obtain⟨e1,g1⟩:∃ e1,((h1.push (seqObj "list" vs.toArray 0)).update h1.objs.size (Obj.mapSeq fun _=>#[])).get? h1.objs.size=some (seqObj "list" #[] e1):=⟨_,get?_update_seq gL fun _=>#[]⟩
  have g2:((((h1.push (seqObj "list" vs.toArray 0)).update h1.objs.size (Obj.mapSeq fun _=>#[])).push (seqObj "tuple" vs.toArray 0)).push (seqObj "list" #[] 0)).get? h1.objs.size=some (seqObj "list" #[] e1):=az _ (az _ g1)
  refine show EP X pins σ Q (.ref h1.objs.size) { s with heap:=sortedHeap (h1.push (seqObj "list" vs.toArray 0)) h1.objs.size vs ((arrOf st').map fun x=>x.2),toks:=tk,drawn:=d } from ?_
  generalize (arrOf st').map (fun x=>x.2)=out at b1 ⊢
  obtain⟨c3,g3⟩:∃ c3,(sortedHeap (h1.push (seqObj "list" vs.toArray 0)) h1.objs.size vs out).get? h1.objs.size=some (seqObj "list" out c3):=⟨_,get?_update_seq g2 fun _=>out⟩
  have kp:∀ b o,h1.get? b=some o->(sortedHeap (h1.push (seqObj "list" vs.toArray 0)) h1.objs.size vs out).get? b=some o:=fun b o z=>by
   have hb:h1.objs.size≠b:=gO (aB z)
   exact (dw _ _ hb).trans (az _ (az _ ((dw _ _ hb).trans (az _ z))))
  have I1:Inv X pins σ H { s with heap:=h1,toks:=tk,drawn:=d }:=by
   have I0:Inv X pins σ H { s with heap:=h1,toks:=tk }:=I.kept (t':=tk) k1
   exact⟨I0.ok,I0.os,I0.bare,I0.base,I0.loc,I0.cell,I0.free,I0.freeC,I0.pin,I0.hok,I0.len⟩
  have hn1:=I1.hok.fresh (ak h1.objs.size)
  have lw:=b2.length_eq
  refine⟨.ref h1.objs.size,upd H h1.objs.size (.lst (ws.map V.str)),I1.laid (t':=tk) (o:=.lst (ws.map V.str)) kp (ak _) ⟨?_,out.toList,c3,iV b1,by rw[Array.toArray_toList];exact g3⟩,rfl,k ws (b2.nodup_iff.mpr hnd) (fun z=>(b2.mem_iff).trans (hmz z)) b3 _ _ hn1 (dv hn1) a8⟩
  have lu:ws.length=out.toList.length:=by have:=(iV b1).length;rwa [List.length_map] at this
  rw[List.length_map,lw]
  have:us.length=vs.length:=by have:=(iV hS).length;rwa [List.length_map] at this
  omega
end
section
section
variable {prog:Program}{w:World}{A:Around}{E:Value->Shared->Prop}{s:Shared}
end
section
variable {X:Cx}{tg:Expr}
end
section
variable {X:Cx}{pins:List (Addr×Obj)}{σ:St}{H1:Hp}{s₂:Shared}{E:Value->Shared->Prop}
end
section
variable {X:Cx}{pins:List (Addr×Obj)}{σ:St}{H:Hp}{s:Shared}
end
section
variable {X:Cx}{tg:Expr}
end
end
section
def Itk (ob:Obj) (a:Addr) (kvs:List (Key×V)):It :=
 ⟨fun i H=>i<kvs.length/\H a=some (.frz ob (.dK kvs)),fun i H v H'=>(∃ k x,kvs[i]?=some (k,x)/\v=kV k)/\H'=H,fun i H=>kvs.length<=i/\H a=some (.frz ob (.dK kvs))⟩
theorem Dg (h:H1 a=some (.frz ob (.dK kvs))):(Itk ob a kvs).Seq H1 (kvs.map fun kv=>kV kv.1):=fun H s =>
 ⟨fun i x e=>by
  rw[aJ] at e
  obtain⟨⟨k,v⟩,hk,e2⟩:=dB.mp e
  have e2':kV k=x:=e2
  refine⟨⟨(bf.mp hk).1,s _ _ h⟩,fun y H' z=>?_⟩
  obtain⟨⟨k',v',h1,h2⟩,h3⟩:=z
  rw[hk] at h1
  cases h1
  exact⟨h3,h2.trans e2'⟩,fun i hi=>⟨by rw[List.length_map] at hi;exact hi,s _ _ h⟩⟩
theorem Af {P:Program}{w:World}{K:PySem.W.Frag}{tg:Expr} (ob:Obj) (a it:Addr) (kvs:List (Key×V)) (es:Array DictEntry) (ep:Nat) (hd:ob.data=.dict es ep) (hz:es.size=kvs.length) :
  Turn P w K tg (Itk ob a kvs) [it] it (fun i h=>h.IsKeyIter it a i es.size ep) where
 mem:=by simp
 obj:=fun i h st b hb=>by
  obtain rfl:b=it:=by simpa using hb
  obtain⟨o,e1,e2,e3⟩:=st
  exact⟨o,e1,fun v z=>by rw[e3] at z;cases z⟩
 keep:=fun i h h' st k=>by
  obtain⟨o,e1,e2,e3⟩:=st
  exact⟨o,k it (by simp) o e1,e2,e3⟩
 item:=by
  intro X hP hw hK hc i pins s σ H E I hf st hg
  subst hP hw hK
  obtain⟨hi,hH⟩:=hg
  have g1:s.heap.get? a=some ob:=(show bM X.prog X.w H s.heap a (.frz ob (.dK kvs)) from I.hok a _ hH).1
  obtain⟨vs,r,o',es',f1,f2,f3,f4,f5,f6⟩:=En I.hok hH hd
  have:o'=ob:=Option.some.inj (f1.symm.trans g1)
  subst this
  rw[hd] at f3
  injection f3 with e1 e2
  subst e1
  obtain⟨⟨k1,x⟩,hk⟩:∃ p,kvs[i]?=some p:=⟨_,List.getElem?_eq_getElem hi⟩
  obtain⟨⟨k2,u⟩,hu,hke,ru⟩:∃ q:Key×Value,vs[i]?=some q/\k1=q.1/\RelV x q.2:=by
   obtain⟨q,h1,h2⟩:=JF r hk
   exact⟨q,h1,h2.1,h2.2⟩
  have hke:k1=k2:=hke
  subst hke
  have hi':i<es.size:=by omega
  have ek:jb k1 (es[i]'hi').key=true:=(f5.get? (e:=es[i]'hi') (by simp [hi']) hu).1
  refine F8 (es:=es) st g1 hd hi' fun h' st' sb=>⟨_,rfl,?_⟩
  obtain⟨o',q1,q2,q3⟩:=id st'
  refine xi (s:={ s with heap:=h' }) q1 q2 q3 (by decide) ?_
  exact⟨kV k1,H,I.Bs (t':=s.toks) (ch:=[it]) hf (fun c o hc e=>(sb.2 c (by simpa using hc)).trans e),HL ek,⟨⟨k1,x,hk,rfl⟩,rfl⟩,st',fun b hb=>(hf b hb).1⟩
 done:=by
  intro X hP hw hK hc i pins s σ H E I hf st hg
  subst hP hw hK
  obtain⟨hi,hH⟩:=hg
  have g1:s.heap.get? a=some ob:=(show bM X.prog X.w H s.heap a (.frz ob (.dK kvs)) from I.hok a _ hH).1
  refine HH (I.ok.hd hc) st (by omega) g1 hd fun h' kk=>⟨rfl,I.Bs (t':=s.toks) (ch:=[it]) hf fun c o hc e=>?_⟩
  exact kk c o (by simpa using hc) e
 self:=fun _ _ _ _ _ st h=>wpAny_pyIter_keyiter st h
def E2 (te:TE):TI:=fun σ H R=>te σ H fun x H1=>∃ a kvs,x=.ref a ∧
 ((H1 a=some (.dK kvs)/\∀ ob H2,(∀ b o,b≠a->H1 b=some o->H2 b=some o)->H2 a=some (.frz ob (.dK kvs))->R (Itk ob a kvs) H2)∨∃ ob,H1 a=some (.frz ob (.dK kvs))/\R (Itk ob a kvs) H1)
theorem Bz {te:TE}{σ:St}{H:Hp}{R:It->Hp->Prop}:E2 te σ H R=te σ H fun x H1=>∃ a kvs,x=.ref a ∧
 ((H1 a=some (.dK kvs)/\∀ ob H2,(∀ b o,b≠a->H1 b=some o->H2 b=some o)->H2 a=some (.frz ob (.dK kvs))->R (Itk ob a kvs) H2)∨∃ ob,H1 a=some (.frz ob (.dK kvs))/\R (Itk ob a kvs) H1):=propext Iff.rfl
theorem xO {tg l:Expr}{tl:TE} (hl:PE X l tl):PI X tg l (E2 tl):=by
 intro pins s σ H R I h
 refine thn (hl pins s σ H _ I h) fun v s1 ⟨x,H1,I1,r1,q1⟩=>?_
 obtain⟨a,kvs,rfl,q⟩:=q1
 cases r1
 have go:∀ (ob:Obj) (H2:Hp),Inv X pins σ H2 s1->H2 a=some (.frz ob (.dK kvs))->R (Itk ob a kvs) H2->wpAny (model X.prog X.w) X.A (pyIter (.ref a)) (PIE X pins σ tg R) X.xe s1:=by
  intro ob H2 I2 hH q
  obtain⟨g1,z,hs,vs,rel,o',es,ep,e1,e2,e3,e4,e5,e6⟩:=(show bM X.prog X.w H2 s1.heap a (.frz ob (.dK kvs)) from I2.hok a _ hH)
  have:o'=ob:=Option.some.inj (e1.symm.trans g1)
  subst this
  have hz:es.size=kvs.length:=by
   have h1:kvs.length=vs.length:=Paired.length rel
   have h2:=e5.length
   simp at h2
   omega
  refine F7 hs e1 e2 e3 ?_
  refine⟨s1.heap.objs.size,[s1.heap.objs.size],_,_,H2,rfl,I2.kept (t':=s1.toks) (fun b o e=>az _ e),Af o' a _ kvs es ep e3 hz,⟨_,aZ _ rfl,rfl,rfl⟩,fun b hb=>?_,q⟩
  obtain rfl:b=s1.heap.objs.size:=by simpa using hb
  exact I2.vz (ak _) (I2.hok.fresh (ak _))
 rcases q with ⟨ha,q⟩ | ⟨ob,ha,q⟩
 ·obtain⟨z,hs,vs,rel,ob,es,ep,e1,e2,e3,e4⟩:=Im I1.hok ha
  have I2:Inv X pins σ (upd H1 a (.frz ob (.dK kvs))) s1:=I1.write (x:=a) (e:=a) (h':=s1.heap) (t':=s1.toks) (o:=.frz ob (.dK kvs)) (by rw[ha];exact True.intro) (.inl rfl) (fun _ _ _ e=>e) ⟨ob,e1⟩ ⟨e1,z,hs,vs,rel,ob,es,ep,e1,e2,e3,e4⟩
  exact go ob _ I2 a8 (q ob _ (fun b o hb e=>by rw[aD hb];exact e) a8)
 ·exact go ob H1 I1 ha q
theorem El {g:TG}{tb:TS}{D:Ends} (Pv:Nat->St->Hp->Prop) (h0:Pv 0 σ H) (hl:∀ i σ H,Pv i σ H->H a=some (.frz ob (.dK kvs)))
  (hs:∀ i k x σ H,kvs[i]?=some (k,x)->Pv i σ H->∀ N:St->Hp->Prop,(∀ σ' H',Pv (i+1) σ' H'->N σ' H')->g (kV k) σ H fun σ2 H2=>tb { D with nx:=N,ct:=N,bk:=D.nx } σ2 H2) (hd:∀ σ H,Pv kvs.length σ H->D.nx σ H):iY g tb D (Itk ob a kvs) σ H:=by
 refine⟨fun i m σ H=>m=kvs.length-i/\i<=kvs.length/\Pv i σ H,⟨_,rfl,aT _,h0⟩,?_⟩
 rintro i m σ H ⟨rfl,hi,hp⟩
 by_cases hlt:i<kvs.length
 ·refine .inr ⟨⟨hlt,hl i σ H hp⟩,fun σ' H'=>Pv (i+1) σ' H',fun σ' H' h=>⟨kvs.length-(i+1),by omega,rfl,hlt,h⟩,?_⟩
  rintro x H' ⟨⟨k,v,hk,rfl⟩,rfl⟩
  exact hs i k v σ _ hk hp _ fun _ _ h=>h
 ·have e:i=kvs.length:=by omega
  subst e
  exact .inl ⟨⟨ak _,hl _ σ H hp⟩,hd σ H hp⟩
theorem lH.kf {k:Key} (e:H a=some (.frz ob (.dK kvs))):lH H a (kV k) (jV kvs k):=.inl ⟨kvs,k,.inr ⟨ob,e⟩,rfl,rfl⟩
theorem lH.kr {k:Key} (e:Rd H a (.dK kvs)):lH H a (kV k) (jV kvs k):=.inl ⟨kvs,k,e,rfl,rfl⟩
end
end L2

namespace Tim2
open PySem PyProof.Rows
variable {Q:Option Nat->SortSt->Prop}{st:SortSt}
structure Cmp (prog:Program) (w:World) (A:Around) (E:Value->Shared->Prop) (s:Shared) (S:List Keyed):Prop where
 run:∀ x∈S,∀ y∈S,∀ (st:SortSt) (Q:Option Bool->SortSt->Prop),kindOf st=oneType'->(∀ b,Q (some b) st)->wpS (model prog w) A E s (lt' x y) Q st
section
variable {prog:Program}{w:World}{A:Around}{E:Value->Shared->Prop}{s:Shared}{a₀:Array Keyed}
theorem yr {arr:Array Keyed}{i:Nat}{x:Keyed}{Q:Keyed->SortSt->Prop} (h:arr[i]?=some x) (q:Q x st):wpS (model prog w) A E s (elem' arr i) Q st:=by
 rw[elem'_eq,h];exact cg q
theorem pJ (C:Cmp prog w A E s a₀.toList) {i j:Nat}{Q:Option Bool->SortSt->Prop} (hB:SBase a₀ st) (hi:i<a₀.size) (hj:j<a₀.size) (h:∀ b,Q (some b) st):wpS (model prog w) A E s (ltAt' i j) Q st:=by
 have g:∀ k,k<a₀.size->∃ x,(arrOf st)[k]?=some x/\x∈a₀.toList:=fun k hk=>by
  have hk':k<(arrOf st).size:=by rw[hB.size];exact hk
  exact⟨_,iM hk',hB.perm.toList.mem_iff.mp (Array.getElem_mem_toList hk')⟩
 obtain⟨x,e1,m1⟩:=g i hi
 obtain⟨y,e2,m2⟩:=g j hj
 rw[ltAt'_eq]
 exact b7 (wpS_get (b7 (yr e1 (b7 (yr e2 (C.run x m1 y m2 st Q hB.kind h))))))
theorem wpS_binarySort (C:Cmp prog w A E s a₀.toList) {n ok:Nat}{Q:Bool->SortSt->Prop} (hn:n<=a₀.size) (hB:SBase a₀ st) (h:∀ st',SBase a₀ st'->Q true st'):wpS (model prog w) A E s (binarySort' 0 n ok) Q st:=by
 rw[binarySort'_eq]
 simp only[Nat.zero_add]
 refine b7 (wpS_mono (wpS_forRange (I:=fun _ c st'=>c=(none,())/\SBase a₀ st') (Q:=fun c st'=>c=(none,())/\SBase a₀ st') ?step (fun _ _ h=>h) ⟨rfl,hB⟩) ?post)
 case post =>
  rintro c st' ⟨rfl,hB'⟩
  exact cg (h st' hB')
 case step =>
  rintro k c st' hak hkn ⟨rfl,hB'⟩
  refine b7 (wpS_mono (wpS_forRange (I:=fun x c st''=>st''=st'/\∃ l r,c=(none,l,r)/\l<=r/\r<=k) (Q:=fun c st''=>st''=st'/\∃ l r,c=(none,l,r)) ?istep ?ifin ⟨rfl,0,k,rfl,by omega,by omega⟩) ?ipost)
  case ifin =>
   rintro c st'' ⟨rfl,l,r,rfl,_⟩
   exact⟨rfl,l,r,rfl⟩
  case istep =>
   rintro x c st'' _ hxk ⟨rfl,l,r,rfl,hlr,hrk⟩
   dsimp only
   by_cases hge:l≥r
   ·rw[if_pos hge]
    exact cg ⟨rfl,l,r,rfl⟩
   ·rw[if_neg hge]
    refine b7 (pJ C hB' (by omega) (by omega) fun b=>?_)
    cases b with
    | true=>exact cg ⟨rfl,l,(l+r)/2,rfl,by omega,by omega⟩
    | false=>exact cg ⟨rfl,(l+r)/2+1,r,rfl,by omega,by omega⟩
  case ipost =>
   rintro c st'' ⟨rfl,l,r,rfl⟩
   show wpS _ _ _ _ (do moveDown' k l;pure (ForInStep.yield (none,()))) _ _
   rw[moveDown'_eq]
   exact b7 (wpS_modify (cg ⟨rfl,hB'.setArr (bubble_perm _ _ _)⟩))
theorem wpS_ascLoop (C:Cmp prog w A E s a₀.toList) {a nrem:Nat}{Q:AscSt->SortSt->Prop} (hn:nrem<=a₀.size) (ha:1<=a) (han:a<=nrem) (hB:SBase a₀ st) (h:∀ n,a<=n->n<=nrem->Q (none,n) st):wpS (model prog w) A E s (ascLoop a nrem) Q st:=by
 unfold ascLoop
 refine wpS_forRange (I:=fun x c st'=>st'=st/\c=(none,x)) ?step ?fin ⟨rfl,rfl⟩
 case fin =>
  rintro c st' ⟨rfl,rfl⟩
  rw[show max a nrem=nrem by omega]
  exact h nrem han (ak _)
 case step =>
  rintro x c st' hax hxn ⟨rfl,rfl⟩
  dsimp only
  refine b7 (pJ C hB (by omega) (by omega) fun b=>?_)
  cases b with
  | true=>exact cg (h x hax (by omega))
  | false=>exact cg ⟨rfl,rfl⟩
theorem wpS_tail3 (C:Cmp prog w A E s a₀.toList) {n nrem:Nat} (hn:nrem<=a₀.size) (h1:1<=n) (hnn:n<=nrem) (hB:SBase a₀ st) (h:∀ m st',SBase a₀ st'->1<=m->m<=nrem->Q (some m) st'):wpS (model prog w) A E s (tail3 n nrem) Q st:=by
 unfold tail3
 refine b7 (wpS_reverse ?_)
 have hB':SBase a₀ (setArr st (mirror (arrOf st) 0 n ((n-0)/2))):=hB.setArr (mirror_perm _ _ _ _)
 exact b7 (wpS_ascLoop C hn h1 hnn hB' fun m hm1 hm2=>cg (h m _ hB' (by omega) hm2))
theorem wpS_descLoop (C:Cmp prog w A E s a₀.toList) {n nrem:Nat}{Q:DescSt->SortSt->Prop} (hn:nrem<=a₀.size) (h1:1<=n) (hnn:n<=nrem) (hB:SBase a₀ st) (h:∀ m neq st',SBase a₀ st'->n<=m->m<=nrem->Q (none,m,neq) st'):wpS (model prog w) A E s (descLoop n nrem) Q st:=by
 unfold descLoop
 refine wpS_forRange (I:=fun x c st'=>∃ neq,c=(none,x,neq)/\SBase a₀ st') ?step ?fin ⟨0,rfl,hB⟩
 case fin =>
  rintro c st' ⟨neq,rfl,hB'⟩
  rw[show max n nrem=nrem by omega]
  exact h nrem neq st' hB' hnn (ak _)
 case step =>
  rintro x c st' hax hxn ⟨neq,rfl,hB'⟩
  dsimp only
  refine b7 (pJ C hB' (by omega) (by omega) fun b=>?_)
  cases b with
  | true =>
   dsimp only
   rw[if_pos rfl]
   by_cases hneq:neq>0
   ·rw[if_pos hneq]
    exact b7 (wpS_reverse (cg ⟨0,rfl,hB'.setArr (mirror_perm _ _ _ _)⟩))
   ·rw[if_neg hneq]
    exact cg ⟨0,rfl,hB'⟩
  | false =>
   dsimp only
   rw[if_neg (by decide)]
   refine b7 (pJ C hB' (by omega) (by omega) fun b=>?_)
   cases b with
   | true=>exact cg (h x neq st' hB' hax (by omega))
   | false=>exact cg ⟨neq+1,rfl,hB'⟩
theorem wpS_descPart (C:Cmp prog w A E s a₀.toList) {n nrem:Nat} (hn:nrem<=a₀.size) (hnn:n+1<=nrem) (hB:SBase a₀ st) (h:∀ m st',SBase a₀ st'->1<=m->m<=nrem->Q (some m) st'):wpS (model prog w) A E s (descPart n nrem) Q st:=by
 unfold descPart
 refine b7 (wpS_lift (wpAny_rule ⟨rfl,?_⟩))
 refine b7 (wpS_descLoop C hn (by omega) hnn hB fun m neq st' hB' hm1 hm2=>?_)
 dsimp only
 by_cases hneq:neq>0
 ·rw[if_pos hneq]
  exact b7 (wpS_reverse (wpS_tail3 C hn (by omega) hm2 (hB'.setArr (mirror_perm _ _ _ _)) h))
 ·rw[if_neg hneq]
  exact wpS_tail3 C hn (by omega) hm2 hB' h
theorem wpS_countRun (C:Cmp prog w A E s a₀.toList) {nrem:Nat} (hn:nrem<=a₀.size) (h1:1<=nrem) (hB:SBase a₀ st) (h:∀ m st',SBase a₀ st'->1<=m->m<=nrem->Q (some m) st'):wpS (model prog w) A E s (countRun' 0 nrem) Q st:=by
 rw[countRun0_eq]
 refine b7 (wpS_ascLoop C hn (ak _) h1 hB fun n hn1 hn2=>?_)
 dsimp only
 by_cases hnn:n=nrem
 ·rw[if_pos (by simpa using hnn)]
  exact cg (h n st hB hn1 hn2)
 rw[if_neg (by simpa using hnn)]
 by_cases hn1':n>1
 ·rw[if_pos hn1']
  refine b7 (pJ C hB (by omega) (by omega) fun b=>?_)
  cases b with
  | true=>exact cg (h n st hB hn1 hn2)
  | false=>exact b7 (wpS_reverse (wpS_descPart C hn (by omega) (hB.setArr (mirror_perm _ _ _ _)) h))
 ·rw[if_neg hn1']
  exact wpS_descPart C hn (by omega) hB h
def yA (a₀:Array Keyed) (st:SortSt):Prop:=(arrOf st).Perm a₀/\failedOf st=none/\pendingOf st=#[(0,a₀.size,0)]
theorem Io (hB:SBase a₀ st):yA a₀ (setPending st ((pendingOf st).push (0,a₀.size,0))):=⟨hB.perm,hB.failed,by show (pendingOf st).push _=_;rw[hB.pend];rfl⟩
theorem wpS_sortRuns (C:Cmp prog w A E s a₀.toList) {Q:Unit->SortSt->Prop} (hB:SBase a₀ st) (h2:2<=a₀.size) (h64:a₀.size<64) (h:∀ st',(arrOf st').Perm a₀->failedOf st'=none->Q () st'):wpS (model prog w) A E s sortRuns' Q st:=by
 rw[sortRuns'_eq]
 refine b7 (wpS_get ?_)
 dsimp only
 have hmr:minRun' a₀.size a₀.size 0=a₀.size:=by
  obtain⟨f,hf⟩:∃ f,a₀.size=f+1:=⟨a₀.size-1,by omega⟩
  have:minRun' (f+1) a₀.size 0=a₀.size:=by rw[minRun'_succ,if_pos h64];rfl
  rwa [←hf] at this
 simp only[hB.size,hmr]
 refine b7 (wpS_mono (wpS_forRange (I:=fun x c st'=>(x=0/\c=(none,0)/\SBase a₀ st')∨(1<=x/\c=(none,a₀.size)/\yA a₀ st'))
  (Q:=fun c st'=>c=(none,a₀.size)/\yA a₀ st') ?step ?fin (.inl ⟨rfl,rfl,hB⟩)) ?post)
 case fin =>
  rintro c st' (⟨hx,_,_⟩ | ⟨_,hc,hD⟩)
  ·omega
  ·exact⟨hc,hD⟩
 case step =>
  rintro x c st' _ hx (⟨rfl,rfl,hB'⟩ | ⟨hx1,rfl,hD⟩)
  ·dsimp only
   rw[if_neg (by omega)]
   simp only[Nat.sub_zero,Nat.min_self,Nat.zero_add]
   refine b7 (wpS_countRun C (ak _) (by omega) hB' fun m st2 hB2 hm1 hm2=>?_)
   dsimp only
   by_cases hlt:m<a₀.size
   ·rw[if_pos hlt]
    refine b7 (wpS_lift (wpAny_rule ⟨rfl,?_⟩))
    refine b7 (wpS_binarySort C (ak _) hB2 fun st3 hB3=>?_)
    simp only[Bool.not_true,ic,dU]
    refine b7 (wpS_get ?_)
    rw[show (pendingOf st3).back?=none by rw[hB3.pend];rfl]
    exact b7 (wpS_modify (cg (.inr ⟨by omega,rfl,Io hB3⟩)))
   ·rw[if_neg hlt]
    have hm:m=a₀.size:=by omega
    subst hm
    refine b7 (wpS_get ?_)
    rw[show (pendingOf st2).back?=none by rw[hB2.pend];rfl]
    exact b7 (wpS_modify (cg (.inr ⟨by omega,rfl,Io hB2⟩)))
  ·dsimp only
   rw[if_pos (ak _)]
   exact cg ⟨rfl,hD⟩
 case post =>
  rintro c st' ⟨rfl,hD⟩
  dsimp only
  refine b7 (wpS_mono (wpS_forRange (I:=fun _ c st''=>st''=st'/\c=(none,())) (Q:=fun c st''=>st''=st'/\c=(none,())) ?_ (fun _ _ hh=>hh) ⟨rfl,rfl⟩) ?_)
  ·rintro x c st'' _ _ ⟨rfl,rfl⟩
   refine b7 (wpS_get ?_)
   rw[if_pos (by rw[hD.2.2];exact ak 1)]
   exact cg ⟨rfl,rfl⟩
  ·rintro c st'' ⟨rfl,rfl⟩
   exact cg (h _ hD.1 hD.2.1)
end
end Tim2
namespace Tim2
open PySem PyProof.Rows
section
variable {prog:Program}{w:World}{A:Around}{E:Value->Shared->Prop}{s:Shared}{blt:Keyed->Keyed->Bool}
abbrev ou (h:Heap) (a:Addr) (vs:List Value):Heap:=((h.update a (Obj.mapSeq fun _=>#[])).push (seqObj "tuple" vs.toArray 0)).push (seqObj "list" #[] 0)
theorem rH {a:Addr}{vs:List Value}{n:Nat}{P:Fin->Shared->Prop} (ho:s.heap.get? a=some (seqObj "list" vs.toArray n))
  (C:Cmp prog w A E { s with heap:=ou s.heap a vs } (pairsOf vs).toList)
  (hkk:2<=vs.length->∀ {Q:SortKind->Shared->Prop},Q oneType' { s with heap:=ou s.heap a vs }->wpAny (model prog w) A (keyKind' vs.toArray) Q E { s with heap:=ou s.heap a vs }) (hlen:vs.length<=sizeLine) (h64:vs.length<64)
  (h:∀ arr:Array Keyed,arr.Perm (pairsOf vs)->P (.done (.ret .none)) { s with heap:=sortedHeap s.heap a vs (arr.map (·.2)) }) :
  wpAny (model prog w) A (Builtin.«list.sort» ⟨[.ref a],[]⟩) P E s:=by
 rw[list_sort_plain]
 have ha:a<s.heap.objs.size:=aB ho
 have hsz:vs.toArray.size=vs.length:=by simp
 refine aa (listItems_at ho rfl ?_)
 refine aa (listUpdate_at ho rfl ?_ (hsz:=by omega))
 obtain⟨e1,ho1⟩:∃ e1,(s.heap.update a (Obj.mapSeq fun _=>#[])).get? a=some (seqObj "list" #[] e1):=⟨_,get?_update_seq ho (fun _=>#[])⟩
 refine aa (seqEpoch_at ho1 rfl ?_)
 refine aa (wpAny_newTuple ?_)
 refine aa (wpAny_newList ?_)
 refine dE ?_
 have ho6:(ou s.heap a vs).get? a=some (seqObj "list" #[] e1):=by
  rw[Heap.get?_push_ne _ _ _ (by rw[size_push',Heap.size_update];exact aS (fj ha)),Heap.get?_push_ne _ _ _ (by rw[Heap.size_update];exact aS ha)]
  exact ho1
 show wpAny (model prog w) A _ P E { s with heap:=ou s.heap a vs }
 dsimp only
 by_cases h2:vs.toArray.size<2
 ·rw[if_pos h2,if_pos h2]
  refine aa (ah ?_)
  rw[StateT.run_pure]
  refine aa (ah ?_)
  dsimp only
  refine aa (seqEpoch_at ho6 rfl ?_)
  refine aa (listUpdate_at ho6 rfl ?_ (hsz2:=by rw[Array.size_map];show (pairsOf vs).size<=_;rw[pairsOf_size,ju];omega))
  simp only[bne_self_eq_false,ic,dU]
  exact ah (h (pairsOf vs) (Array.Perm.refl _))
 ·rw[if_neg h2,if_neg h2]
  refine aa (hkk (by omega) ?_)
  refine aa (bO (wpS_sortRuns C (st:=SortSt.mk' oneType' (vs.toArray.zip vs.toArray) #[] 7 none) (Q:=fun _ st'=>(arrOf st').Perm (pairsOf vs)/\failedOf st'=none)
   ⟨.refl _,rfl,rfl,rfl⟩ (by rw[pairsOf_size];omega) (by rw[pairsOf_size];exact h64) fun st' a1 a2=>⟨a1,a2⟩) ?_ fun _ _ e=>e)
  rintro⟨⟨⟩,st'⟩ s' ⟨rfl,hp,hf⟩
  dsimp only
  refine aa (seqEpoch_at ho6 rfl ?_)
  refine aa (listUpdate_at ho6 rfl ?_ (hsz2:=by refine aK (k6 ((Array.size_map ..).trans (hp.size_eq.trans (pairsOf_size _)))) ?_;omega))
  rw[hf]
  simp only[bne_self_eq_false,ic,dU]
  exact ah (h (arrOf st') hp)
end
end Tim2
namespace Tim2
open PySem PyProof.Rows L2
section
variable {prog:Program}{w:World}{A:Around}{E:Value->Shared->Prop}{s:Shared}
theorem DR {l b:Addr}{items items2:Array Value}{ns ms:List Int}{Q:Value->Shared->Prop} (hl:s.heap.IsList l items) (hb:s.heap.IsList b items2) (hi:IntsAre items.toList ns) (hj:IntsAre items2.toList ms)
  (h:Q (.bool (xl ns ms)) s):wpAny (model prog w) A (call (.builtin "list.__lt__") [.ref l,.ref b]) Q E s:=by
 obtain⟨⟨c1,dd,d1,sl⟩,ho,g1,n,g2⟩:=id hl
 obtain⟨⟨c2,dd2,d2,sl2⟩,ho2,g3,n2,g4⟩:=id hb
 simp only at g1 g2 g3 g4
 subst g1 g2 g3 g4
 have m:Meets (Builtin.«list.__lt__» ⟨[.ref l,.ref b],[]⟩) (fun _ R s=>s.heap.get? l=some { cls:=.type "list",dict:=dd,data:=.seq items n,slots:=sl }/\s.heap.get? b=some { cls:=.type "list",dict:=dd2,data:=.seq items2 n2,slots:=sl2 } ∧
    R (.ok (.ret (.bool (xl ns ms)))) s):=by
  intro prog w A R s h
  obtain⟨hp,g,d,tk,os⟩:=s;obtain⟨hl,hb,h⟩:=h
  simp only at hl hb
  have f2:=AutoSeq1.sub_list_list
  unfold Builtin.«list.__lt__»
  wp_walk using AutoSeq1.wpAny_loadPart' hl,AutoSeq1.wpAny_loadPart' hb
  exact⟨by with_unfolding_all rfl,Hi l b items items2 n n2 dd dd2 sl sl2 hl hb _ 0 ns ms rfl hi hj (aT _) (aT _) h⟩
 exact gP PySem.F.slot_list_lt ⟨_,ho,rfl⟩ PySem.F.entry_list_lt (PySem.F.args_list_lt_2 _ _) m ⟨ho,ho2,h⟩
theorem Hm {l b:Addr}{items items2:Array Value}{ns ms:List Int}{Q:Bool->Shared->Prop} (hl:s.heap.IsList l items) (hb:s.heap.IsList b items2) (hi:IntsAre items.toList ns) (hj:IntsAre items2.toList ms) (hu:A.units<cLine)
  (h:Q (xl ns ms) s):wpAny (model prog w) A (oneLt' true (.ref l) (.ref b)) Q E s:=by
 rw[oneLt'_eq]
 simp only[gQ]
 refine aa (wpAny_cRoomFor hu ?_)
 obtain⟨o,ho,g1,_⟩:=id hl
 refine aa (wpAny_callSpecialIfBound?_slot ⟨o,ho,g1⟩ PySem.F.slot_list_lt (DR hl hb hi hj ?_))
 exact fT h
theorem KI {vs:List Keyed} (hv:∀ x∈vs,∃ (a:Addr) (items:Array Value) (ns:List Int),x.1=.ref a/\s.heap.IsList a items/\IntsAre items.toList ns) (hu:A.units<cLine):Cmp prog w A E s vs where
 run x hx y hy st Q hk h:=by
  obtain⟨x1,x2⟩:=x
  obtain⟨y1,y2⟩:=y
  obtain⟨a,items,ns,ex,ha,hn⟩:=hv _ hx
  obtain⟨b,items2,ms,ey,hb,hm⟩:=hv _ hy
  simp only at ex ey
  subst ex ey
  rw[lt'_eq]
  refine b7 (wpS_get ?_)
  rw[hk,keyLt'_oneType]
  exact b7 (wpS_lift (jv (Hm ha hb hn hm hu ⟨rfl,cg (h _)⟩)))
theorem nM {β:Type}{f:Value->Sem β}{c:β}:∀ (vs:List Value),(∀ v∈vs,∀ {Q:β->Shared->Prop},Q c s->wpAny (model prog w) A (f v) Q E s)->∀ {Q:List β->Shared->Prop},Q (vs.map fun _=>c) s->wpAny (model prog w) A (vs.mapM f) Q E s
 | [],_,Q,h=>by rw[List.mapM_nil];exact ah h
 | v::vs,hf,Q,h=>by
  rw[List.mapM_cons]
  refine aa (hf v (List.mem_cons_self ..) (aa (nM vs (fun u hu=>hf u (List.mem_cons_of_mem _ hu)) (ah h))))
theorem CA {vs:List Value} (hv:∀ v∈vs,s.TypeIs v "list") (h2:2<=vs.length) {Q:SortKind->Shared->Prop} (h:Q oneType' s):wpAny (model prog w) A (keyKind' vs.toArray) Q E s:=by
 rw[keyKind'_eq,List.mapM_toArray]
 refine aa (wpAny_map (nM (c:=none) vs (fun v hm Q hQ=>?_) ?_))
 ·exact aa (wpAny_typeOf (hv v hm) (ah hQ))
 match vs,h2,hv with
 | v::u::vs,_,hv =>
  rw[if_neg (by simp),if_neg (by simp)]
  rw[oneTypeOnly'_eq,List.mapM_toArray]
  refine aa (aa (wpAny_map (nM (c:=.type "list") (v::u::vs) (fun v hm Q hQ=>wpAny_typeOf (hv v hm) hQ) ?_)))
  have hall:((List.map (fun _=>Value.type "list") (v::u::vs)).toArray.all fun x=>x==Value.type "list")=true:=by
   simp only[List.all_toArray,List.all_map,cw]
   intro _ _
   rfl
  have h0:(List.map (fun _=>Value.type "list") (v::u::vs)).toArray[0]?=some (Value.type "list"):=by simp
  rw[h0]
  dsimp only
  rw[hall]
  exact ah (ah h)
end
end Tim2
namespace Tim2
open PySem PyProof.Rows L2
section
variable {prog:Program}{w:World}{A:Around}{E:Value->Shared->Prop}{s:Shared}
theorem tm (vs:List Value):(pairsOf vs).toList=vs.map fun v=>(v,v):=by
 unfold pairsOf
 simp [List.zip_eq_zipWith,List.zipWith_self]
theorem Dj {a:Addr}{T:String}{o:Obj}{vs:List Value}{n:Nat}{Q:Value->Shared->Prop} (hT:T="list"∨T="tuple") (ho:s.heap.get? a=some o) (hc:o.cls=.type T) (hd:o.data=.seq vs.toArray n)
  (hv:∀ v∈vs,∃ (b:Addr) (items:Array Value) (ns:List Int),v=.ref b/\s.heap.IsList b items/\IntsAre items.toList ns) (hz:vs.length<=sizeLine) (h64:vs.length<64) (hu:A.in1.in1.units<cLine)
  (k:∀ (h1 h':Heap) (out:Array Value) (c:Nat),(∀ b o,s.heap.get? b=some o->h1.get? b=some o)->(∀ b o,h1.get? b=some o->h'.get? b=some o)->h'.get? h1.objs.size=some (seqObj "list" out c)->out.toList.Perm vs->Q (.ref h1.objs.size) { s with heap:=h' }) :
  wpAny (model prog w) A (call (.builtin "sorted") [.ref a]) Q E s:=by
 refine Calls.call_function_entry kind_sorted plain_sorted entry_sorted (args_sorted1 _) ?_
 unfold Builtin.«sorted»
 refine aa (m:=checkCount "sorted" 1 1 _) (ah (aa (wpAny_collect_seq a hT ho hc hd (fun h1 k1=>?_) (by rw[br];exact hz))))
 rw[show vs.toArray.toList=vs from by simp]
 refine aa (wpAny_newList ?_ hz)
 have gL:(h1.push (seqObj "list" vs.toArray 0)).get? h1.objs.size=some (seqObj "list" vs.toArray 0):=aZ _ rfl
 have kp:∀ b o,h1.get? b=some o->(ou (h1.push (seqObj "list" vs.toArray 0)) h1.objs.size vs).get? b=some o:=fun b o z=>by
  have hb:h1.objs.size≠b:=gO (aB z)
  exact az _ (az _ ((dw _ _ hb).trans (az _ z)))
 have hv2:∀ v∈vs,∃ (b:Addr) (items:Array Value) (ns:List Int),v=.ref b/\(ou (h1.push (seqObj "list" vs.toArray 0)) h1.objs.size vs).IsList b items/\IntsAre items.toList ns:=fun v hm=>by
  obtain⟨b,items,ns,rfl,⟨o,e1,e2⟩,hi⟩:=hv v hm
  exact⟨b,items,ns,rfl,⟨o,kp _ _ (k1 _ _ e1),e2⟩,hi⟩
 refine aa (dE (fv slot_list_sort ⟨_,gL,rfl⟩ entry_list_sort (rH gL (KI (fun x hx=>?_) (by exact hu)) (fun h2 Q hQ=>CA (fun v hm=>?_) h2 hQ) hz h64 fun arr a1=>⟨_,rfl,ah ⟨_,rfl,?_⟩⟩) (args_list_sort _)))
 ·rw[tm] at hx
  obtain⟨v,hm,rfl⟩:=aE.mp hx
  obtain⟨b,items,ns,e,f1,f2⟩:=hv2 v hm
  exact⟨b,items,ns,e,f1,f2⟩
 ·obtain⟨b,items,ns,rfl,⟨o,e1,e2,_⟩,_⟩:=hv2 v hm
  exact⟨o,e1,e2⟩
 obtain⟨e1,g1⟩:∃ e1,((h1.push (seqObj "list" vs.toArray 0)).update h1.objs.size (Obj.mapSeq fun _=>#[])).get? h1.objs.size=some (seqObj "list" #[] e1):=⟨_,get?_update_seq gL fun _=>#[]⟩
 have g2:((((h1.push (seqObj "list" vs.toArray 0)).update h1.objs.size (Obj.mapSeq fun _=>#[])).push (seqObj "tuple" vs.toArray 0)).push (seqObj "list" #[] 0)).get? h1.objs.size=some (seqObj "list" #[] e1):=az _ (az _ g1)
 have hp:=a1.toList
 rw[tm] at hp
 have b1:(arr.map (·.2)).toList.Perm vs:=by
  rw[Array.toList_map]
  have:=hp.map (·.2)
  rw[List.map_map,show ((fun x:Keyed=>x.2) ∘ fun v:Value=>(v,v))=id from rfl,List.map_id] at this
  exact this
 refine show Q (.ref h1.objs.size) { s with heap:=sortedHeap (h1.push (seqObj "list" vs.toArray 0)) h1.objs.size vs (arr.map fun x=>x.2) } from ?_
 generalize arr.map (fun x=>x.2)=out at b1 ⊢
 obtain⟨c3,g3⟩:∃ c3,(sortedHeap (h1.push (seqObj "list" vs.toArray 0)) h1.objs.size vs out).get? h1.objs.size=some (seqObj "list" out c3):=⟨_,get?_update_seq g2 fun _=>out⟩
 refine k h1 _ out c3 k1 (fun b o z=>?_) g3 b1
 have hb:h1.objs.size≠b:=gO (aB z)
 exact (dw _ _ hb).trans (kp b o z)
end
theorem Bj:∀ {l:List Addr}{its:List Value},Vals (l.map V.ref) its->its=l.map Value.ref
 | [],_,r=>by rw[i9] at r;cases r;rfl
 | a::l,_,r=>by
  rw[aR] at r
  cases r with
  | cons r1 r2=>cases r1;rw[Bj r2];rfl
theorem of_refs:∀ (l:List Addr),Vals (l.map V.ref) (l.map Value.ref)
 | []=>.nil
 | a::l=>.cons rfl (of_refs l)
theorem Fn {α β:Type}{f:α->β}{m m':List β} (h:m.Perm m'):∀ {l:List α},m'=l.map f->∃ ws:List α,ws.Perm l/\m=ws.map f:=by
 induction h with
 | nil=>intro l e;exact⟨[],by rw[List.map_eq_nil_iff.mp e.symm],rfl⟩
 | cons x _ ih =>
  intro l e
  match l,e with
  | a::l,e =>
   rw[aR] at e
   injection e with e1 e2
   obtain⟨ws,q1,q2⟩:=ih e2
   exact⟨a::ws,q1.cons _,by rw[q2,e1];rfl⟩
 | swap x y l' =>
  intro l e
  match l,e with
  | a::b::l,e =>
   rw[aR,aR] at e
   injection e with e1 e2
   injection e2 with e2 e3
   exact⟨b::a::l,.swap ..,by rw[e1,e2,e3];rfl⟩
 | trans _ _ ih1 ih2 =>
  intro l e
  obtain⟨ws,q1,q2⟩:=ih2 e
  obtain⟨us,q3,q4⟩:=ih1 q2
  exact⟨us,q3.trans q1,q4⟩
end Tim2
namespace L2
open PySem PySem.Spec PyProof.Rows Tim2
def Kn (K:PySem.W.Frag):List V->Hp->VK->Prop:=fun vs H Q=>match vs with
 | [.ref a]=>∃ zs:List (Addr×List Int),SqL K H a (zs.map fun z=>V.ref z.1)/\zs.length<64/\(∀ z∈zs,SqL K H z.1 (z.2.map V.int))/\∀ ws:List (Addr×List Int),ws.Perm zs->nw H (.lst (ws.map fun z=>V.ref z.1)) Q
 | _=>False
theorem yH {X:Cx}{K:PySem.W.Frag} (hK:X.K=K) (hu:X.A.units+2<cLine):cW X (.builtin "sorted") (Kn K):=by
 subst hK
 intro pins s σ H xs us Q I r h
 rcases xs with _ | ⟨x0,t⟩
 ·exact h.elim
 cases x0<;>try exact h.elim
 cases t<;>try exact h.elim
 next a =>
  obtain⟨zs,h1,h64,h2,h3⟩:=h
  obtain⟨u,rfl,r2⟩:=vals1 r
  cases r2
  obtain⟨its,rv,pl,hz⟩:=I.list h1
  obtain⟨o,e1,e2,n,e3⟩:=pl.isList
  have ez:(zs.map fun z=>V.ref z.1)=(zs.map (·.1)).map V.ref:=by rw[List.map_map];rfl
  rw[ez] at rv
  have hi:its=zs.map fun z=>Value.ref z.1:=by rw[Bj rv,List.map_map];rfl
  subst hi
  have hl:∀ z∈zs,∃ items,s.heap.IsList z.1 items/\IntsAre items.toList z.2:=fun z hm=>by
   obtain⟨jts,rj,pj,_⟩:=I.list (h2 z hm)
   exact⟨jts.toArray,pj.isList,by rw[show jts.toArray.toList=jts by simp];exact oH rj⟩
  rw[List.length_map] at hz
  refine Dj (.inl rfl) e1 e2 e3 (fun v hm=>?_) (by rw[List.length_map];exact hz) (by rw[List.length_map];exact h64) (by exact hu) fun g1 h' out c k1 k2 hg hp=>?_
  ·obtain⟨z,hzm,rfl⟩:=aE.mp hm
   obtain⟨items,q1,q2⟩:=hl z hzm
   exact⟨z.1,items,z.2,rfl,q1,q2⟩
  have I1:Inv X pins σ H { s with heap:=g1 }:=I.kept (t':=s.toks) k1
  have hn:=I1.hok.fresh (ak g1.objs.size)
  obtain⟨ws,p1,p2⟩:=Fn hp rfl
  have ew:(ws.map fun z=>V.ref z.1)=(ws.map (·.1)).map V.ref:=by rw[List.map_map];rfl
  have eo:out.toList=(ws.map (·.1)).map Value.ref:=by rw[p2,List.map_map];rfl
  refine⟨.ref g1.objs.size,upd H g1.objs.size (.lst (ws.map fun z=>V.ref z.1)),I1.laid (t':=s.toks) (o:=.lst (ws.map fun z=>V.ref z.1)) k2 (ak _) ⟨by rw[List.length_map,p1.length_eq];exact hz,out.toList,c,by rw[ew,eo];exact of_refs _,by rw[Array.toArray_toList];exact hg⟩,rfl,h3 ws p1 _ _ hn (dv hn) a8⟩
end L2

namespace L2
open PySem PySem.Spec PyProof.Rows
section
def dj (K:PySem.W.Frag) (x:Str) (st:Stmt):Prop:=∃ f fd,Fun K x x st f fd/\PySem.W.nsIn K mainGlobals x=some (some (.ref f))
def oA (K:PySem.W.Frag) (C:Addr) (m q:Str) (st:Stmt):Prop:=∃ f fd,Fun K m q st f fd/\PySem.W.findIn K (.ref C) m=some (some (.ref f))/\PySem.W.isFn K (.ref f)=true
section
variable {K:PySem.W.Frag}{x m q:Str}{st:Stmt}{f C:Addr}{oc:Value}{od an:Option Addr}{osl:Array (Option Value)}{kV doc pm cdv ct:Value}
theorem GK (a:PySem.W.nsIn K mainGlobals x=some (some (.ref f))) (l:K.lookup f=some ⟨oc,od,.func (PySem.W.fnOf x x (cK st) (cA st) (ar st) .none kV doc pm an cdv ct),osl⟩) (c:PySem.W.codeIn K cdv x=true) (k:PySem.W.keepIn K (.ref f)=true):dj K x st:=⟨f,_,nJ l c k,a⟩
theorem GL (a:PySem.W.findIn K (.ref C) m=some (some (.ref f))) (i:PySem.W.isFn K (.ref f)=true) (l:K.lookup f=some ⟨oc,od,.func (PySem.W.fnOf m q (cK st) (cA st) (ar st) .none kV doc pm an cdv ct),osl⟩) (c:PySem.W.codeIn K cdv q=true) (k:PySem.W.keepIn K (.ref f)=true):oA K C m q st:=⟨f,_,nJ l c k,a,i⟩
end
section
variable {P:Program}{w:World}{K:PySem.W.Frag}{h base:Heap}{mg:Str->Option Value}{k:Nat}{x m q:Str}{st:Stmt}{C:Addr}{ps:List Str}{sp:Sp}
theorem dj.fnc (X:K.In h) (G:h.Ns mainGlobals mg) (d:dj K x st) (o:∀ f fd,Fun K x x st f fd->bJ P w K mg base (CX1 P w) k f fd ps sp)
  (b:∀ (kV doc pm:Value) (an:Option Addr) (cdv ct:Value) (us:List Value),us.length=ps.length->bindArgs (PySem.W.fnOf x x (cK st) (cA st) (ar st) .none kV doc pm an cdv ct) ⟨us,[]⟩=pure (ps.zip us)):Fnc P w K mg base (CX1 P w) k x ps sp:=by
 obtain⟨f,fd,F,a⟩:=d
 exact⟨f,fd,o f fd F,bX X G a,F.kp,F.binds b⟩
theorem oA.mtd (c:Cls K C) (d:oA K C m q st) (o:∀ f fd,Fun K m q st f fd->bJ P w K mg base (CX1 P w) k f fd ps sp)
  (b:∀ (kV doc pm:Value) (an:Option Addr) (cdv ct:Value) (us:List Value),us.length=ps.length->bindArgs (PySem.W.fnOf m q (cK st) (cA st) (ar st) .none kV doc pm an cdv ct) ⟨us,[]⟩=pure (ps.zip us)):Mtd P w K mg base (CX1 P w) C m k ps sp:=by
 obtain⟨f,fd,F,a,i⟩:=d
 exact⟨⟨f,fd,o f fd F,⟨a,i,F.kp⟩,F.binds b⟩,c⟩
end
end
end L2

namespace Kb
open PySem L2
variable {E:XK}{E':XK}{H:Hp}{H1:Hp}{J:It}{M:Int}{Q:VK}{a:Addr}{al:List Nat}{b:Int}{c:V}{d:Int}{f:Addr}{fd:FuncData}{i:Nat}{j:Nat}{js:List Nat}{key:List Key}{ks:List (List Key)}{m:Nat}{ns:List Int}{o:Int}{pcs:List (Nat×List Int)}{ps:List Int}{q:Nat×List Nat}{r:Int}{te:TE}{vs:List V}{ws:List Int}{x:V}{xs:List V}{zs:List (List Nat)}{α:Type}{σ:St}
seal L2.PE L2.PA L2.PS L2.PSs L2.PT L2.PW L2.PG L2.PGs L2.PI L2.PO L2.Jc L2.PIf
def top (i:Nat):Stmt:=PySem.Challenge.pw_cablehouse_k24_whole_one_fault_is_read.main.body.getD i (.Pass ⟨0,0,0,0⟩)
abbrev cX:Stmt:=inClass (top 9) 0
abbrev cM:Stmt:=inClass (top 10) 0
abbrev oa:Stmt:=top 12
abbrev gY:Stmt:=top 13
abbrev nU:Stmt:=top 14
abbrev jP:Stmt:=top 17
abbrev nX:Stmt:=top 18
abbrev jN:Stmt:=top 19
abbrev qL:Stmt:=top 20
abbrev mj:Stmt:=top 21
abbrev qN:Stmt:=top 22
abbrev nT:Stmt:=top 23
abbrev qK:Stmt:=top 24
abbrev gi:Stmt:=inClass (top 25) 0
abbrev iI:Stmt:=inClass (top 25) 1
abbrev jf:Stmt:=inClass (top 25) 2
abbrev lY:Stmt:=inClass (top 25) 4
abbrev lZ:Stmt:=inClass (top 25) 5
abbrev jL:Stmt:=inClass (top 25) 6
abbrev iJ:Stmt:=inClass (top 25) 7
abbrev jO:Stmt:=top 27
abbrev qJ:Stmt:=top 28
abbrev tL:Stmt:=top 29
abbrev qM:Stmt:=top 30
abbrev ml:Stmt:=top 31
abbrev jM:Stmt:=top 34
abbrev ma:Stmt:=top 35
abbrev md:Stmt:=top 38
abbrev zQ:Stmt:=top 39
abbrev jh:Stmt:=top 44
abbrev nV:Stmt:=top 45
abbrev om:Stmt:=top 46
abbrev nZ:Stmt:=top 47
abbrev jg:Stmt:=top 48
abbrev nW:Stmt:=top 49
abbrev mi:Stmt:=top 50
abbrev qO:Stmt:=top 51
abbrev oj:Stmt:=top 52
abbrev nY:Stmt:=top 57
abbrev gh:Stmt:=inClass (top 58) 0
abbrev lX:Stmt:=inClass (top 58) 1
abbrev cR:Stmt:=inClass (top 58) 2
abbrev jK:Stmt:=inClass (top 58) 3
abbrev gx:Stmt:=inClass (top 58) 4
abbrev kZ:Stmt:=inClass (top 58) 6
abbrev jQ:Stmt:=top 60
abbrev mh:Stmt:=top 61
abbrev me:Stmt:=top 62
abbrev jS:Stmt:=top 63
abbrev gZ:Stmt:=top 65
abbrev oh:Stmt:=top 66
abbrev jR:Stmt:=top 68
abbrev og:Stmt:=top 69
abbrev oi:Stmt:=top 70
abbrev mf:Stmt:=top 71
abbrev lh:Stmt:=top 72
abbrev lg:Stmt:=top 73
abbrev oX:Stmt:=top 74
structure Bl (mg:Str->Option Value):Prop where
 list:mg "list"=none
 isinstance:mg "isinstance"=none
 bool:mg "bool"=none
 int:mg "int"=none
 abs:mg "abs"=none
 all:mg "all"=none
 zip:mg "zip"=none
 len:mg "len"=none
 set:mg "set"=none
 str:mg "str"=none
 sum:mg "sum"=none
 range:mg "range"=none
 enumerate:mg "enumerate"=none
 sorted:mg "sorted"=none
 tuple:mg "tuple"=none
 min:mg "min"=none
structure Ads where
 Code:Addr
 Book:Addr
 CableError:Addr
 NoCode:Addr
 NoNumber:Addr
 NoWord:Addr
 NoEntry:Addr
 Twice:Addr
 TooMany:Addr
 NoReading:Addr
 TooGarbled:Addr
 cd:Addr
 tb:Addr
 none:Unit:=()
def Ads.KN (Ad:Ads):List Addr:=[Ad.NoCode,Ad.NoNumber,Ad.NoWord,Ad.NoEntry,Ad.Twice,Ad.TooMany,Ad.NoReading,Ad.TooGarbled]
structure AdF (K:PySem.W.Frag) (mg:Str->Option Value) (Ad:Ads):Prop where
 g_Code:mg "Code"=some (.ref Ad.Code)
 g_Book:mg "Book"=some (.ref Ad.Book)
 g_CableError:mg "CableError"=some (.ref Ad.CableError)
 g_NoCode:mg "NoCode"=some (.ref Ad.NoCode)
 g_NoNumber:mg "NoNumber"=some (.ref Ad.NoNumber)
 g_NoWord:mg "NoWord"=some (.ref Ad.NoWord)
 g_NoEntry:mg "NoEntry"=some (.ref Ad.NoEntry)
 g_Twice:mg "Twice"=some (.ref Ad.Twice)
 g_TooMany:mg "TooMany"=some (.ref Ad.TooMany)
 g_NoReading:mg "NoReading"=some (.ref Ad.NoReading)
 g_TooGarbled:mg "TooGarbled"=some (.ref Ad.TooGarbled)
 c_Code:Cls K Ad.Code
 n_Code_letters:gm K Ad.Code "letters"
 n_Code_factors:gm K Ad.Code "factors"
 n_Code_remainder:gm K Ad.Code "remainder"
 c_Book:Cls K Ad.Book
 n_Book_basis:gm K Ad.Book "basis"
 n_Book_by_number:gm K Ad.Book "by_number"
 n_Book_by_entry:gm K Ad.Book "by_entry"
 q_NoCode:PySem.W.excIn K Ad.NoCode [.type "ValueError",.type "Exception",.type "BaseException",.type "object"] "ValueError.__new__"=true
 q_NoNumber:PySem.W.excIn K Ad.NoNumber [.type "ValueError",.type "Exception",.type "BaseException",.type "object"] "ValueError.__new__"=true
 q_NoWord:PySem.W.excIn K Ad.NoWord [.type "ValueError",.type "Exception",.type "BaseException",.type "object"] "ValueError.__new__"=true
 q_NoEntry:PySem.W.excIn K Ad.NoEntry [.type "ValueError",.type "Exception",.type "BaseException",.type "object"] "ValueError.__new__"=true
 q_Twice:PySem.W.excIn K Ad.Twice [.type "ValueError",.type "Exception",.type "BaseException",.type "object"] "ValueError.__new__"=true
 q_TooMany:PySem.W.excIn K Ad.TooMany [.type "ValueError",.type "Exception",.type "BaseException",.type "object"] "ValueError.__new__"=true
 bi:Il K Ad.CableError
 o_NoReading:∃ f,By K Ad.NoReading f
 s_NoReading:Jd K Ad.NoReading "at"
 f_NoReading:PySem.W.findIn K (.ref Ad.NoReading) "at"=some none
 o_TooGarbled:∃ f,By K Ad.TooGarbled f
 s_TooGarbled:Jd K Ad.TooGarbled "places"
 f_TooGarbled:PySem.W.findIn K (.ref Ad.TooGarbled) "places"=some none
 x_NoReading:PySem.W.exmOne K (.ref Ad.NoReading) (.ref Ad.NoReading)=some true
 t_tab:PySem.W.codeHdIn K Ad.cd Ad.tb=true
 err:Ed K Ad.CableError Ad.KN=true
 nd:ndB Ad.KN=true
 v_SMALL_LETTERS:∃ u,mg "SMALL_LETTERS"=some u/\RelV (.str "abcdefghijklmnopqrstuvwxyz") u
 v_LONGEST_WORD:∃ u,mg "LONGEST_WORD"=some u/\RelV (.int 20) u
 v_MOST_WORDS:∃ u,mg "MOST_WORDS"=some u/\RelV (.int 60) u
 v_FEWEST_CAME:∃ u,mg "FEWEST_CAME"=some u/\RelV (.int 2) u
 v_MOST_CAME:∃ u,mg "MOST_CAME"=some u/\RelV (.int 1400) u
 v_MOST_DOUBTFUL:∃ u,mg "MOST_DOUBTFUL"=some u/\RelV (.int 2) u
 v_MOST_ENTRIES:∃ u,mg "MOST_ENTRIES"=some u/\RelV (.int 300) u
 v_MOST_PHRASE_WORDS:∃ u,mg "MOST_PHRASE_WORDS"=some u/\RelV (.int 6) u
 v_MOST_PART_LETTERS:∃ u,mg "MOST_PART_LETTERS"=some u/\RelV (.int 6) u
section
variable {P:Program}{w:World}{K:PySem.W.Frag}{mg:Str->Option Value}{base:Heap}{Ad:Ads}
theorem bh {p q:Prop} (a:p) (b:q):p/\q:=⟨a,b⟩
noncomputable def zzV:=bh @Jg<|bh @GA<|bh @Gv<|bh @Gu<|bh @DF<|bh @DA<|bh @Gn<|bh @Jf<|bh @DB<|bh @Jq<|bh @LR<|bh @K8<|bh @KC<|bh @K4<|bh @Gh<|bh @Jk<|bh @Gg<|bh @Jo<|bh @K6<|bh @Gw<|bh @Gm<|bh @GB<|bh @LQ<|bh @Jl<|bh @Je<|bh @K9<|bh @Gf<|bh @Jm<|bh @Gx<|bh @Ji<|bh @Jj<|bh @Jp<|bh @Gj<|bh @K7<|bh @KA<|bh @B0<|bh @Gy<|bh @Gq<|bh @DD<|bh @DE<|bh @Gr<|bh @Jh<|bh @Jn<|bh @Gp<|bh @K3<|bh @D7<|bh @Ip<|bh @Eh<|bh @Ei<|bh @GR<|bh @GS<|bh @GU<|bh @Jy<|bh @GV<|bh @DC<|bh @Gi<|bh @D8<|bh @D9<|bh @Gk<|bh @FJ<|bh @yP<|bh @yQ<|bh @yR<|bh @ze<|bh @za<|bh @wW<|bh @yY<|bh @zb<|bh @yS<|bh @Cc<|bh @BZ<|bh @Ca<|bh @Cb<|bh @Cf<|bh @Cg<|bh @Ci<|bh @Cd<|bh @Ce<|bh @yV<|bh @yW<|bh @yO<|bh @yX<|bh @wY<|bh @zc<|bh @yT<|bh @Cj<|bh @Ck<|bh @vy<|bh @vx<|bh @wX<|bh @wZ<|bh @yZ<|bh @zd<|bh @yU<|bh @yM<|bh @yN<|bh @Gs<|bh @D3<|bh @Ef<|bh @B5<|bh @K5<|bh @K2<|bh @Gz<|bh @GD<|bh @GC<|bh @DG<|bh @Bz<|bh @Eg<|@Cm
local macro_rules | `(tactic| and_intros) => `(tactic| try simp only [zzV, Fu, F4, zM, Lo, Ends.un, lL, nw, Dc, isV, eG, kj, Tg.sub, Tg.name, rU, Fv, Option.join_some, Int.toNat_natCast, List.getElem?_cons_zero, List.getElem?_cons_succ, List.set_cons_zero, List.set_cons_succ, List.map_cons, List.map_nil, List.cons_append, List.nil_append, List.length_cons, List.length_nil, List.replicate_succ, List.replicate_zero, Nat.reduceAdd, Nat.reduceSub, Nat.zero_add, bne_self_eq_false, Bool.true_bne, Bool.false_bne, Bool.not_true, Bool.not_false, if_true, if_false, Bool.false_eq_true, Bool.true_eq_false, reduceIte])
local macro_rules | `(tactic| ac_nf) => `(tactic| (and_intros; repeat (simp only [dm]; and_intros)))
local macro_rules | `(tactic| bv_omega) => `(tactic| try simp only [Ip, Eh, Ei, Bool.not_false, Bool.not_true, if_true, if_false, Bool.false_eq_true, Bool.true_eq_false, true_and, and_true])
set_option hygiene false in
local macro_rules | `(tactic| bv_decide) => `(tactic| (intro vs H Q E h; repeat (first | (obtain ⟨rfl, _⟩ := h; rfl) | obtain ⟨_, h⟩ := h)))
set_option hygiene false in
local macro_rules | `(tactic| cbv) => `(tactic| (rw [hN]; clear hN nn))
set_option hygiene false in
local macro_rules | `(tactic| grind) => `(tactic| (refine fY fun nn hN => ?_; and_intros))
set_option hygiene false in
local macro_rules | `(tactic| bv_normalize) => `(tactic| (intro cdv A outer s H vs Q E hr h; have hu := hr.m8; have hu1 := sF hr))
local macro_rules | `(tactic| subst_eqs) => `(tactic| exact ⟨rfl, rfl, rfl, by decide +kernel, rfl, by decide +kernel, by decide +kernel⟩)
structure CoB (al:List Nat) (ws:List Int) (r:Int):Prop where
 a3:3<=al.length
 a26:al.length<=26
 nd:al.Nodup
 abc:∀ c∈al,97<=c/\c<123
 w3:3<=ws.length
 w8:ws.length<=8
 wm:∀ x∈ws,0<=x/\x<(al.length:Int)
 safe:Mk.safe al.length ws=true
 rm:0<=r/\r<(al.length:Int)
structure bD (al:List Nat) (ws:List Int) (r:Int):Prop extends CoB al ws r where
 sm:al.length<=9/\ws.length<=6
theorem bD.sml {al:List Nat}{ws:List Int}{r:Int} (h:bD al ws r):Mk.sml ws:=by
 intro x hx
 have:=h.wm x hx
 have:=h.a26
 omega
def qT (al:List Nat) (q:Addr) (r:Int):List (Str×V):=[("letters",.str (tx al)),("factors",.ref q),("remainder",.int r)]
theorem dG (al:List Nat) (q:Addr) (r:Int):(qT al q r).lookup ("letters":Str)=some (V.str (tx al)):=rfl
theorem fG (al:List Nat) (q:Addr) (r:Int):(qT al q r).lookup ("factors":Str)=some (V.ref q):=rfl
theorem lD (al:List Nat) (q:Addr) (r:Int):(qT al q r).lookup ("remainder":Str)=some (V.int r):=rfl
theorem bQ {m:Str} (h1:m≠("letters":Str)) (h2:m≠("factors":Str)) (h3:m≠("remainder":Str)) (al:List Nat) (q:Addr) (r:Int):(qT al q r).lookup m=none:=by
 unfold qT
 rw[fe,fe,fe,k9 h1,k9 h2,k9 h3]
 rfl
def cx (Ad:Ads) (H:Hp) (a:Addr) (al:List Nat) (ws:List Int) (r:Int):Prop:=∃ dx q,H a=some (.ins Ad.Code dx (qT al q r))/\H q=some (.lst (ws.map V.int))
theorem cx.same {Ad:Ads}{H H':Hp} (h:cx Ad H a al ws r) (s:aw H H'):cx Ad H' a al ws r:=by
 obtain⟨dx,q,h1,h2⟩:=h
 exact⟨dx,q,s _ _ h1,s _ _ h2⟩
def Parts (H:Hp) (p:Addr) (q:Addr) (al:List Nat) (ws:List Int) (r:Int):Prop:=H p=some (.lst [.str (tx al),.ref q,.int r])/\H q=some (.lst (ws.map V.int))
def sq (H:Hp) (xa xw xr:V) (al:List Nat) (p:Addr) (ws:List Int) (r:Int):Prop:=xa=.str (tx al)/\xw=.ref p/\H p=some (.lst (ws.map V.int))/\xr=.int r/\CoB al ws r
def GI (H:Hp) (xa xw xr:V):Prop:=∀ al p ws r,¬ sq H xa xw xr al p ws r

theorem ip {α β:Type}{F:α->β->Prop}:∀ {a:List α}{b:List β}{c:List α}{d:List β},Paired F a b->Paired F c d->Paired F (a++c) (b++d)
 | _,_,_,_,.nil,h=>h
 | _,_,_,_,.cons r t,h=>.cons r (ip t h)
theorem j8 {α β:Type}{F G:α->β->Prop} (f:∀ x y,F x y->G x y):∀ {a:List α}{b:List β},Paired F a b->Paired G a b
 | _,_,.nil=>.nil
 | _,_,.cons r t=>.cons (f _ _ r) (j8 f t)
def dF (n:Nat) (l:List Nat):Bool:=decide (1<=l.length)&&decide (l.length<=n)&&l.all fun c=>decide (97<=c/\c<123)
def hV (n:Nat):V->Bool
 | .str z=>dF n z.cps.toList
 | _=>false
def iG (n:Nat) (l:List Nat):Bool:=decide ((Mk.aY 32 l).length<=n)&&(Mk.aY 32 l).all (dF 20)
def j4 (n:Nat):V->Bool
 | .str z=>iG n z.cps.toList
 | _=>false
def kL:List V->Bool
 | [.str z]=>decide (z=("end":Str))
 | [.str z,y]=>if z=("phrase":Str) then j4 6 y else if z=("part":Str) then hV 6 y else false
 | _=>false
def vD (H:Hp):V->Bool
 | .ref p=>match H p with
  | some (.tup xs)=>kL xs
  | _=>false
 | _=>false
theorem E6 {n:Nat}{ws:List (List Nat)} (h2:ws.length<=n) (h3:∀ w∈ws,w.length<=20):(Mk.dY 32 ws).length<=21*n/\(ws.map fun w=>w.length+1).sum<=21*n:=by
 have h:=Mk.uL (c:=32) ws
 have:(ws.map fun w=>w.length+1).sum<=21*ws.length:=by
  clear h2 h
  induction ws with
  | nil=>simp
  | cons w r ih =>
   have h1:=ih fun x hx=>h3 x (List.mem_cons_of_mem _ hx)
   have h2:=h3 w List.mem_cons_self
   simp only[aR,jq,aO]
   omega
 omega
theorem vE {l:List Nat} (h:iG 6 l=true):kL [.str ("phrase":Str),.str (tx l)]=true:=by
 show (if ("phrase":Str)=("phrase":Str) then iG 6 (tx l).cps.toList else if ("phrase":Str)=("part":Str) then dF 6 (tx l).cps.toList else false)=true
 rw[if_pos rfl,bo];exact h
def uk:Str:="Book.put.<locals>.<lambda>"
structure Ben where
 num:Int
 key:List Key
 adr:Addr
def si (ca dn de:Addr):List (Str×V):=[("basis",.ref ca),("by_number",.ref dn),("by_entry",.ref de)]
theorem j5 (p q r:Addr):(si p q r).lookup ("basis":Str)=some (V.ref p):=rfl
theorem jY (p q r:Addr):(si p q r).lookup ("by_number":Str)=some (V.ref q):=rfl
theorem u7 (p q r:Addr):(si p q r).lookup ("by_entry":Str)=some (V.ref r):=rfl
theorem cZ {m:Str} (h1:m≠("basis":Str)) (h2:m≠("by_number":Str)) (h3:m≠("by_entry":Str)) (p q r:Addr):(si p q r).lookup m=none:=by
 unfold si
 rw[fe,fe,fe,k9 h1,k9 h2,k9 h3]
 rfl
def gR (es:List Ben):List (Key×V):=(es.map fun e=>(e.num,V.ref e.adr)).map fun q=>(.inl q.1,q.2)
def qp (es:List Ben):List (List Key×V):=es.map fun e=>(e.key,V.int e.num)
structure eh (Ad:Ads) (H:Hp) (b ca dn de:Addr) (es:List Ben):Prop where
 bk:∃ dx,H b=some (.ins Ad.Book dx (si ca dn de))
 hn:H dn=some (.dK (gR es))
 he:H de=some (.dT (qp es))
 en:∀ e∈es,H e.adr=some (.tup (e.key.map kV))
 nn:(es.map (·.num)).Nodup
 nk:(es.map (·.key)).Nodup
theorem eh.same {Ad:Ads}{H H':Hp}{b ca dn de:Addr}{es:List Ben} (h:eh Ad H b ca dn de es) (s:aw H H'):eh Ad H' b ca dn de es:=by
 obtain⟨⟨dx,h1⟩,h2,h3,h4,h5,h6⟩:=h
 exact⟨⟨dx,s _ _ h1⟩,s _ _ h2,s _ _ h3,fun e he=>s _ _ (h4 e he),h5,h6⟩
theorem Bu {α κ:Type} [DecidableEq κ] {f:α->κ}{g:α->V}:∀ {es:List α}{e:α},(es.map f).Nodup->e∈es->jV (es.map fun x=>(f x,g x)) (f e)=some (g e)
 | x::r,e,hn,he=>by
  obtain⟨h1,h2⟩:=dS.mp hn
  unfold jV
  rw[aR,i3]
  by_cases h:f x=f e
  ·rw[aq h]
   rcases aI.mp he with rfl | he
   ·rfl
   ·exact absurd (iB (f:=f) he) (by rw[←h];exact h1)
  ·rw[decide_eq_false h]
   rcases aI.mp he with rfl | he
   ·exact absurd rfl h
   ·exact Bu h2 he
theorem Aj {α κ:Type} [DecidableEq κ] {f:α->κ}{g:α->V}{k:κ}:∀ {es:List α},k∉es.map f->jV (es.map fun x=>(f x,g x)) k=none
 | [],_=>rfl
 | x::r,h=>by
  rw[aR,aI,not_or] at h
  unfold jV
  rw[aR,i3,decide_eq_false (show ¬ f x=k from fun e=>h.1 e.symm)]
  exact Aj h.2
theorem rW (es:List Ben):gR es=es.map fun e=>(.inl e.num,V.ref e.adr):=by unfold gR;rw[List.map_map];rfl
theorem J3 {es:List Ben} (h:(es.map (·.num)).Nodup):(es.map fun e=>(.inl e.num:Key)).Nodup:=by
 have e:(es.map fun e=>(.inl e.num:Key))=(es.map (·.num)).map Sum.inl:=by rw[List.map_map];rfl
 rw[e]
 exact List.Pairwise.map _ (fun a b (h:a≠b) z=>h (Sum.inl.inj z)) h
theorem oN {es:List Ben}{e:Ben} (hn:(es.map (·.num)).Nodup) (he:e∈es):jV (gR es) (.inl e.num)=some (.ref e.adr):=by
 rw[rW];exact Bu (f:=fun e:Ben=>(.inl e.num:Key)) (J3 hn) he
theorem sR {es:List Ben}{k:Int} (h:k∉es.map (·.num)):jV (gR es) (.inl k)=none:=by
 rw[rW]
 refine Aj (f:=fun e:Ben=>(.inl e.num:Key)) fun m=>h ?_
 obtain⟨e,he,ee⟩:=aE.mp m
 exact aE.mpr ⟨e,he,Sum.inl.inj ee⟩
theorem ER {es:List Ben}{k:Int} (hn:(es.map (·.num)).Nodup):(jV (gR es) (.inl k)).isSome=decide (k∈es.map (·.num)):=by
 by_cases h:k∈es.map (·.num)
 ·obtain⟨e,he,rfl⟩:=aE.mp h
  rw[oN hn he,aq h];rfl
 ·rw[sR h,decide_eq_false h];rfl
theorem DY {es:List Ben}{k:List Key} (h:k∉es.map (·.key)):jV (qp es) k=none:=Aj (f:=fun e:Ben=>e.key) h
theorem vZ {κ:Type} [DecidableEq κ] {kvs:List (κ×V)}{k:κ}{v:V} (h:jV kvs k=none):putK kvs k v=kvs++[(k,v)]:=by
 unfold putK
 rw[ud,h]
 rfl
theorem uV (es:List Ben) (e:Ben):gR (es++[e])=gR es++[(.inl e.num,.ref e.adr)]:=by unfold gR;simp
theorem BX (es:List Ben) (e:Ben):qp (es++[e])=qp es++[(e.key,.int e.num)]:=by unfold qp;simp
theorem kg (es:List Ben):(gR es).length=es.length:=by unfold gR;simp
def yx (ns:List Int) (n:Int):Prop:=0<=n/\n∉ns/\∀ m,0<=m->m<n->m∈ns
structure jI (key:List Key):Prop where
 is:kL (key.map kV)=true
 few:key.length<=2
 short:∀ z,V.str z∈key.map kV->z.length<=10000
def bL (al:List Nat) (ws:List Int):Int:=(al.length:Int)^(ws.length-1)
theorem GO {t:Addr} (ht:H t=some (.tup (key.map kV))) (ok:jI key):vD H (.ref t)=true:=by
 show (match H t with | some (.tup xs)=>kL xs | _=>false)=true
 rw[ht];exact ok.is
theorem J9 (H:Hp) (z:Key):∃ t,eG H (kV z)=some t:=by
 cases z with
 | inl i=>exact⟨.int,rfl⟩
 | inr s=>exact⟨.str,rfl⟩
def LM (H:Hp) (v:V) (ns:List Int):Prop:=∃ b,v=.ref b/\H b=some (.lst (ns.map V.int))
def ie (H:Hp) (vs:List V) (nss:List (List Int)):Prop:=Paired (LM H) vs nss
theorem ie.keep {H H':Hp}{nss:List (List Int)} (h:ie H vs nss) (s:∀ b (ns:List Int),H b=some (.lst (ns.map V.int))->H' b=some (.lst (ns.map V.int))):ie H' vs nss:=j8 (fun _ _ ⟨b,e,hb⟩=>⟨b,e,s _ _ hb⟩) h
theorem ie.uO {H H':Hp}{D:Addr}:∀ {vs:List V}{nss:List (List Int)},ie H vs nss->(∀ v∈vs,v≠V.ref D)->(∀ b o,b≠D->H b=some o->H' b=some o)->ie H' vs nss
 | _,_,.nil,_,_=>.nil
 | _,_,.cons ⟨b,e,hb⟩ t,h,s=>.cons ⟨b,e,s b _ (fun z=>h _ List.mem_cons_self (by rw[e,z])) hb⟩ (ie.uO t (fun v hv=>h v (List.mem_cons_of_mem _ hv)) s)
theorem xh {α β:Type}{f:α->List β}{m:Nat}:∀ {l:List α},(∀ x∈l,(f x).length<=m)->(l.flatMap f).length<=l.length*m
 | [],_=>aT _
 | x::r,h=>by
  rw[mJ,List.length_append,aO,Nat.add_mul,Nat.one_mul]
  have:=h x List.mem_cons_self
  have:=xh (f:=f) (m:=m) (l:=r) fun y hy=>h y (List.mem_cons_of_mem _ hy)
  omega
theorem kI {k:Nat}:lP xs none (some (k:Int))=xs.take k:=by
 unfold lP
 rw[HT.ny]
 show (xs.drop 0).take (min k xs.length-0)=xs.take k
 rw[List.drop_zero,Nat.sub_zero]
 by_cases h:k<=xs.length
 ·rw[gN h]
 ·rw[Nat.min_eq_right (by omega),mU,fh (by omega)]
def putN (ns:List Int) (at_:Nat) (c:Int):List Int:=ns.take at_++[c]++ns.drop (at_+1)

theorem iq {g:Nat}{c:Int} (h:g<ns.length):putN ns g c=ns.set g c:=by
 unfold putN
 rw[List.set_eq_take_append_cons_drop,if_pos h,df];rfl
theorem kS {α β:Type}{F:α->β->Prop}:∀ {l₁:List α}{l₂:List β},Paired F l₁ l₂->l₁.length=l₂.length
 | _,_,.nil=>rfl
 | _,_,.cons _ r=>by rw[aO,aO,kS r]
theorem BU (xs:List V):lP xs none (some (-1))=xs.dropLast:=by rw[yL,List.dropLast_eq_take]
theorem LI (z:Str):∃ l,z=tx l:=⟨z.cps.toList,by cases z;simp [tx]⟩
def exI (m:Nat) (ps:List Int) (i:Nat):List (List Int):=((Mk.ofN m).filter fun o=>!decide (o=ps.getD i 0)).map fun o=>putN ps i o
def uj (m:Nat) (ps:List Int):List (List Int):=(List.range ps.length).flatMap (exI m ps)
def Ib (ps:List Int) (i:Nat):List Int:=ps.take i++[ps.getD (i+1) 0,ps.getD i 0]++ps.drop (i+2)
def yk (ps:List Int):List (List Int):=((List.range (ps.length-1)).filter fun i=>!decide (ps.getD i 0=ps.getD (i+1) 0)).map (Ib ps)
def jy (m:Nat) (ps:List Int):List (List Int):=uj m ps++yk ps
theorem ET (j:Nat):Mk.ofN (j+1)=Mk.ofN j++[(j:Int)]:=by
 unfold Mk.ofN
 rw[kz,List.map_append];rfl
theorem getD_some (h:i<ps.length):ps[i]?=some (ps.getD i 0):=by rw[List.getD_eq_getElem?_getD,List.getElem?_eq_getElem h];rfl
theorem getD_in (h:i<ps.length):ps.getD i 0∈ps:=bG (getD_some h)
theorem pG (h:i+1<ps.length):Ib ps i=(ps.set i (ps.getD (i+1) 0)).set (i+1) (ps.getD i 0):=by
 unfold Ib
 refine gG fun k=>?_
 rw[mL,mL,eK]
 rcases Nat.lt_trichotomy k i with hk | hk | hk
 ·rw[df,i4 (by rw[bw];omega),mO,if_pos hk,if_neg (by omega),if_neg (by omega)]
 ·subst hk
  rw[df,gH (by rw[bw];omega),bw,gN (by omega),Nat.sub_self,if_neg (by omega),if_pos rfl,if_pos (by omega)];rfl
 ·rcases Nat.lt_or_ge (i+1) k with hk2 | hk2
  ·rw[gH (by rw[List.length_append,bw];show min i _+2<=k;omega),List.length_append,bw,gN (by omega),i5,if_neg (by omega),if_neg (by omega)]
   congr 1
   show i+2+(k-(i+2))=k
   omega
  ·have e:k=i+1:=by omega
   subst e
   rw[df,gH (by rw[bw];omega),bw,gN (by omega),if_pos rfl,if_pos h,show i+1-i=1 by omega];rfl
theorem nr {ps q:List Int}:q∈exI m ps i↔∃ o:Int,0<=o/\o<m/\o≠ps.getD i 0/\q=putN ps i o:=by
 unfold exI
 rw[aE]
 constructor
 ·rintro⟨o,ho,rfl⟩
  obtain⟨h1,h2⟩:=bW.mp ho
  have:=Mk.gu.mp h1
  exact⟨o,this.1,this.2,by simpa using h2,rfl⟩
 ·rintro⟨o,h0,h1,h2,rfl⟩
  exact⟨o,bW.mpr ⟨Mk.gu.mpr ⟨h0,h1⟩,by simpa using h2⟩,rfl⟩
theorem kc {ps q:List Int}:q∈uj m ps↔∃ i o,i<ps.length/\0<=o/\o<(m:Int)/\o≠ps.getD i 0/\q=ps.set i o:=by
 unfold uj
 rw[List.mem_flatMap]
 constructor
 ·rintro⟨i,hi,hq⟩
  obtain⟨o,h0,h1,h2,rfl⟩:=nr.mp hq
  exact⟨i,o,bN.mp hi,h0,h1,h2,iq (bN.mp hi)⟩
 ·rintro⟨i,o,hi,h0,h1,h2,rfl⟩
  exact⟨i,bN.mpr hi,nr.mpr ⟨o,h0,h1,h2,(iq hi).symm⟩⟩
theorem ke {ps q:List Int}:q∈yk ps↔∃ i,i+1<ps.length/\ps.getD i 0≠ps.getD (i+1) 0/\q=(ps.set i (ps.getD (i+1) 0)).set (i+1) (ps.getD i 0):=by
 unfold yk
 rw[aE]
 constructor
 ·rintro⟨i,hi,rfl⟩
  obtain⟨h1,h2⟩:=bW.mp hi
  have:=bN.mp h1
  exact⟨i,by omega,by simpa using h2,pG (by omega)⟩
 ·rintro⟨i,hi,h2,rfl⟩
  exact⟨i,bW.mpr ⟨bN.mpr (by omega),by simpa using h2⟩,pG hi⟩
theorem tS (h:i<ps.length):(ps.set i o).getD i 0=o:=by rw[List.getD_eq_getElem?_getD,mM h];rfl
theorem nz {i j:Nat} (h:i≠j):(ps.set i o).getD j 0=ps.getD j 0:=by rw[List.getD_eq_getElem?_getD,ko h,←List.getD_eq_getElem?_getD]
theorem m6 (h:i+1<ps.length) (j:Nat):((ps.set i (ps.getD (i+1) 0)).set (i+1) (ps.getD i 0)).getD j 0=if j=i then ps.getD (i+1) 0 else if j=i+1 then ps.getD i 0 else ps.getD j 0:=by
 by_cases h1:j=i
 ·subst h1
  rw[if_pos rfl,nz (by omega),tS (by omega)]
 ·rw[if_neg h1]
  by_cases h2:j=i+1
  ·subst h2
   rw[if_pos rfl,tS (by rw[eK];exact h)]
  ·rw[if_neg h2,nz (bt h2),nz (bt h1)]
theorem uI :(jy m ps).Nodup:=by
 unfold jy
 refine List.nodup_append.mpr ⟨?_,?_,?_⟩
 ·unfold uj List.Nodup
  rw[List.pairwise_flatMap]
  refine⟨fun i hi=>?_,kn (fun {i j} hi hj hij x hx y hy e=>?_) (pT (n:=ps.length))⟩
  ·have hi':=bN.mp hi
   unfold exI
   refine gM.mpr (mD (R:=(·≠·)) (S:=fun a b=>putN ps i a≠putN ps i b) (fun {a b} hab e=>hab ?_) (jm _ (Mk.qB m)))
   rw[iq hi',iq hi'] at e
   have:=bu (fun l:List Int=>l.getD i 0) e
   simp only[tS hi'] at this
   exact this
  ·have hi':=bN.mp hi
   have hj':=bN.mp hj
   obtain⟨o,_,_,h2,rfl⟩:=nr.mp hx
   obtain⟨o',_,_,h3,rfl⟩:=nr.mp hy
   rw[iq hi',iq hj'] at e
   have:=bu (fun l:List Int=>l.getD i 0) e
   simp only[tS hi'] at this
   rw[nz (by omega)] at this
   exact h2 this
 ·unfold yk
  refine gM.mpr (kn (R:=(·<·)) (fun {i j} hi hj hij e=>?_) (jm _ pT))
  obtain⟨h1,h2⟩:=bW.mp hi
  obtain⟨h3,h4⟩:=bW.mp hj
  have h1':=bN.mp h1
  have h3':=bN.mp h3
  rw[pG (by omega),pG (by omega)] at e
  have:=bu (fun l:List Int=>l.getD i 0) e
  simp only[m6 (show i+1<ps.length by omega),m6 (show j+1<ps.length by omega)] at this
  rw[if_pos trivial,if_neg (by omega),if_neg (by omega)] at this
  rw[this] at h2
  simp at h2
 ·intro a ha b hb e
  subst e
  obtain⟨i,o,hi,_,_,h2,rfl⟩:=kc.mp ha
  obtain⟨j,hj,h3,e⟩:=ke.mp hb
  by_cases hij:i=j
  ·have:=bu (fun l:List Int=>l.getD (j+1) 0) e
   simp only[m6 hj] at this
   rw[if_neg (by omega),if_pos trivial,nz (by omega)] at this
   exact h3 this.symm
  ·have:=bu (fun l:List Int=>l.getD j 0) e
   simp only[m6 hj] at this
   rw[if_pos trivial,nz hij] at this
   exact h3 this
theorem lQ (hm:∀ x∈ps,0<=x/\x<(m:Int)):∀ q∈jy m ps,q.length=ps.length/\∀ x∈q,0<=x/\x<(m:Int):=by
 intro q hq
 rcases bz.mp hq with hq | hq
 ·obtain⟨i,o,hi,h0,h1,_,rfl⟩:=kc.mp hq
  exact⟨eK,Mk.tT hm ⟨h0,h1⟩⟩
 ·obtain⟨i,hi,_,rfl⟩:=ke.mp hq
  exact⟨by rw[eK,eK],Mk.tT (Mk.tT hm (hm _ (getD_in hi))) (hm _ (getD_in (by omega)))⟩
theorem JM:∀ {l:List Int}{x:Int},l.Nodup->x∈l->(l.filter fun o=>!decide (o=x)).length=l.length-1:=by
 intro l x hn hx
 have h1:=List.length_eq_countP_add_countP (fun o:Int=>decide (o=x)) (l:=l)
 have h2:l.countP (fun o:Int=>decide (o=x))=1:=by
  have:=hn.count (a:=x)
  rw[if_pos hx] at this
  rw[←this]
  show _=List.countP (·==x) l
  congr 1
 rw[h2] at h1
 rw[←List.countP_eq_length_filter]
 have e:l.countP (fun o=>decide ¬ decide (o=x)=true)=l.countP (fun o=>!decide (o=x)):=by
  congr 1;funext o;simp
 rw[e] at h1
 omega
theorem AE {α β:Type}{f:α->List β}{m:Nat}:∀ {l:List α},(∀ x∈l,(f x).length=m)->(l.flatMap f).length=l.length*m
 | [],_=>by simp
 | x::r,h=>by
  rw[mJ,List.length_append,aO,Nat.add_mul,Nat.one_mul,h x List.mem_cons_self,AE (f:=f) (m:=m) (l:=r) fun y hy=>h y (List.mem_cons_of_mem _ hy)]
  omega
theorem GQ (hm:∀ x∈ps,0<=x/\x<(m:Int)) (hi:i<ps.length):(exI m ps i).length=m-1:=by
 unfold exI
 rw[List.length_map,JM (Mk.qB m) (Mk.gu.mpr (hm _ (getD_in hi))),Mk.oO]
theorem sy (hm:∀ x∈ps,0<=x/\x<(m:Int)):(uj m ps).length=ps.length*(m-1):=by
 unfold uj
 rw[AE (m:=m-1) fun i hi=>GQ hm (bN.mp hi),List.length_range]
theorem sd :(yk ps).length<=ps.length:=by
 unfold yk
 rw[List.length_map]
 refine aK (ku _ _) ?_
 rw[List.length_range];omega
theorem GX (ok:bD al ws r)  (pl:ps.length=ws.length) (hm:∀ x∈ps,0<=x/\x<(al.length:Int)) (hg:Mk.good al.length ws r ps=true):∀ q∈jy al.length ps,Mk.good al.length ws r q=false:=by
 obtain⟨s1,s2⟩:=Mk.ir.mp ok.safe
 intro q hq
 rcases bz.mp hq with hq | hq
 ·obtain⟨i,o,hi,h0,h1,h2,rfl⟩:=kc.mp hq
  have hw:=getD_some (ps:=ws) (i:=i) (by omega)
  exact Mk.xj hw (getD_some hi) (s1 _ (bG hw)) (hm _ (getD_in hi)) ⟨h0,h1⟩ h2 hg
 ·obtain⟨i,hi,h2,rfl⟩:=ke.mp hq
  have hw:=getD_some (ps:=ws) (i:=i) (by omega)
  have hv:=getD_some (ps:=ws) (i:=i+1) (by omega)
  exact Mk.Cr hw hv (getD_some (by omega)) (getD_some hi) (s2 i _ _ hw hv) (hm _ (getD_in (by omega))) (hm _ (getD_in hi)) (bt h2) hg
theorem uU {H:Hp}:∀ {vs:List V}{nss:List (List Int)},ie H vs nss->∃ zs:List (Addr×List Int),vs=zs.map (fun z=>V.ref z.1)/\nss=zs.map (fun z=>z.2)/\∀ z∈zs,H z.1=some (.lst (z.2.map V.int))
 | _,_,.nil=>⟨[],rfl,rfl,fun _ h=>by cases h⟩
 | _,_,.cons ⟨b,e,hb⟩ t=>by
  obtain⟨zs,e1,e2,h⟩:=uU t
  refine⟨(b,_)::zs,by rw[e,e1];rfl,by rw[e2];rfl,fun z hz=>?_⟩
  rcases aI.mp hz with rfl | hz
  ·exact hb
  ·exact h z hz
theorem Ir {js:List Nat}{σ:St}{te:TE}{Q:VK} (hJ:J.Seq H1 xs) (hl:xs.length<sizeLine) (us:List V) (hn:us.length=xs.length)
  (he:∀ (i:Nat) x u,xs[i]?=some x->us[i]?=some u->∀ H,aw H1 H->∀ R:VK,(∀ H',aw H H'->R u H')->te (some x::js.map fun j=>(σ[j]?).join) H R)
  (q:∀ D H,H1 D=none->aw H1 H->H D=some (.lst us)->Q (.ref D) H):fU (gf 0) Dm te (iZ 1 js σ) J H1 Q:=by
 intro D hD
 refine⟨fun i m ys σ1 H=>m=xs.length-i/\i<=xs.length/\(∃ o,σ1=o::js.map fun j=>(σ[j]?).join)/\ys=us.take i/\aw H1 H/\H D=some (.lst ys),
  ⟨xs.length,by simp,aT _,⟨none,rfl⟩,by simp,(aw.refl H1).bZ hD,a8⟩,?_⟩
 rintro i m ys σ1 H ⟨rfl,hi,⟨o,rfl⟩,rfl,sH,hL⟩
 refine⟨hL,by rw[bw];omega,?_⟩
 by_cases hlt:i<xs.length
 ·have e:xs[i]?=some xs[i]:=List.getElem?_eq_getElem hlt
  have e2:us[i]?=some (us[i]'(by omega)):=List.getElem?_eq_getElem _
  obtain⟨go,yl⟩:=(hJ H sH).1 i xs[i] e
  refine .inr ⟨go,fun x H' y=>?_⟩
  obtain⟨q1,q2⟩:=yl x H' y
  subst q1 q2
  show te (some xs[i]::js.map fun j=>(σ[j]?).join) H' _
  refine he i _ _ e e2 H' sH _ fun H4 s4=>?_
  refine⟨s4 _ _ hL,xs.length-(i+1),by omega,rfl,hlt,⟨_,rfl⟩,?_,(sH.trans s4).bZ hD,a8⟩
  rw[iC,e2];rfl
 ·have e:i=xs.length:=by omega
  subst e
  rw[fh (by omega)] at hL
  exact .inl ⟨(hJ H sH).2 _ (ak _),q D H hD sH hL⟩
theorem xn {β γ:Type}{f:β->γ}{xs:List β}{v:γ} (h:(xs.map f)[i]?=some v):∃ x,xs[i]?=some x/\f x=v:=by
 rw[aJ] at h
 exact dB.mp h
theorem FG (c:Nat):∀ l:List Nat,1<=(Mk.aY c l).length
 | []=>by simp [Mk.aY]
 | a::l=>by
  unfold Mk.aY
  split
  ·simp
  ·split<;>simp
abbrev SSt:=List (List Nat)×List Nat
def KS:Key->List Nat
 | .inr z=>z.cps.toList
 | .inl _=>[]
def wu (w:List Nat) (s:SSt):Option SSt:=if s.2=[]/\s.1.length+(Mk.aY 32 w).length<=60 then some (s.1++Mk.aY 32 w,[]) else none
def wx (w:List Nat) (s:SSt):Option SSt:=if s.1.length<60/\s.2.length+w.length<=20 then some (s.1,s.2++w) else none
def Kr (s:SSt):Option SSt:=if s.2=[] then none else some (s.1++[s.2],[])
def stepK (key:List Key) (s:SSt):Option SSt :=
 match key with
 | [.inr z,y]=>if z=("phrase":Str) then wu (KS y) s else wx (KS y) s
 | _=>Kr s
def runK:List (List Key)->SSt->Option SSt
 | [],s=>some s
 | k::r,s=>match stepK k s with
  | none=>none
  | some s'=>runK r s'
theorem xV:∀ (a b:List (List Key)) (s:SSt),runK (a++b) s=match runK a s with | none=>none | some s'=>runK b s'
 | [],b,s=>rfl
 | k::a,b,s=>by
  show (match stepK k s with | none=>none | some s'=>runK (a++b) s')=match (match stepK k s with | none=>none | some s'=>runK a s') with | none=>none | some s'=>runK b s'
  cases stepK k s with
  | none=>rfl
  | some s'=>exact xV a b s'
theorem ig (ok:jI key):(∃ l,key=[.inr ("phrase":Str),.inr (tx l)]/\iG 6 l=true)∨(∃ l,key=[.inr ("part":Str),.inr (tx l)]/\dF 6 l=true)∨key=[.inr ("end":Str)]:=by
 have h:=ok.is
 cases key with
 | nil=>cases h
 | cons a r =>
  cases a with
  | inl i=>cases h
  | inr z =>
   cases r with
   | nil =>
    have h':decide (z=("end":Str))=true:=h
    exact .inr (.inr (by rw[iD h']))
   | cons y r2 =>
    cases r2 with
    | cons _ _=>cases h
    | nil =>
     have h':(if z=("phrase":Str) then j4 6 (kV y) else if z=("part":Str) then hV 6 (kV y) else false)=true:=h
     cases y with
     | inl i =>
      exfalso
      split at h'
      ·cases h'
      ·split at h'<;>cases h'
     | inr y =>
      have ey:y=tx y.cps.toList:=by cases y;simp [tx]
      split at h'
      ·rename_i hz
       exact .inl ⟨y.cps.toList,by rw[hz,←ey],h'⟩
      ·split at h'
       ·rename_i hz
        exact .inr (.inl ⟨y.cps.toList,by rw[hz,←ey],h'⟩)
       ·cases h'
theorem eY (l:List Nat) (s:SSt):stepK [.inr ("phrase":Str),.inr (tx l)] s=if s.2=[]/\s.1.length+(Mk.aY 32 l).length<=60 then some (s.1++Mk.aY 32 l,[]) else none:=by
 show (if ("phrase":Str)=("phrase":Str) then wu (tx l).cps.toList s else wx (tx l).cps.toList s)=wu l s
 rw[if_pos rfl,bo]
theorem iX (l:List Nat) (s:SSt):stepK [.inr ("part":Str),.inr (tx l)] s=if s.1.length<60/\s.2.length+l.length<=20 then some (s.1,s.2++l) else none:=by
 show (if ("part":Str)=("phrase":Str) then wu (tx l).cps.toList s else wx (tx l).cps.toList s)=wx l s
 rw[if_neg (by decide),bo]
theorem ki (s:SSt):stepK [.inr ("end":Str)] s=if s.2=[] then none else some (s.1++[s.2],[]):=rfl
def Dv (w:List Nat):Prop:=1<=w.length/\w.length<=20/\∀ c∈w,97<=c/\c<123
structure sh (s:SSt):Prop where
 few:s.1.length<=60
 wds:∀ w∈s.1,Dv w
 len:s.2.length<=20
 let_:∀ c∈s.2,97<=c/\c<123
 sp:s.2≠[]->s.1.length<60
theorem Ls:sh ([],[]):=⟨by decide,(fun w h=>by cases h),by decide,(fun c h=>by cases h),fun h=>absurd rfl h⟩
theorem qy {n:Nat}{l:List Nat} (h:dF n l=true):1<=l.length/\l.length<=n/\∀ c∈l,97<=c/\c<123:=by
 unfold dF at h
 rw[bI,bI,bC,bC,cw] at h
 exact⟨h.1.1,h.1.2,fun c hc=>iD (h.2 c hc)⟩
theorem Al {n:Nat}{l:List Nat} (h:iG n l=true):(Mk.aY 32 l).length<=n/\∀ w∈Mk.aY 32 l,Dv w:=by
 unfold iG at h
 rw[bI,bC,cw] at h
 exact⟨h.1,fun w hw=>qy (h.2 w hw)⟩
theorem sh.step {s s':SSt} (ok:jI key) (h:sh s) (e:stepK key s=some s'):sh s':=by
 rcases ig ok with ⟨l,rfl,hl⟩ | ⟨l,rfl,hl⟩ | rfl
 ·rw[eY] at e
  split at e
  ·rename_i hc
   cases e
   obtain⟨_,hw⟩:=Al hl
   exact⟨by rw[List.length_append];exact hc.2,fun w hw'=>(bz.mp hw').elim (h.wds w) (hw w),by simp,(fun c hc=>by cases hc),fun hh=>absurd rfl hh⟩
  ·cases e
 ·rw[iX] at e
  split at e
  ·rename_i hc
   cases e
   obtain⟨_,_,hw⟩:=qy hl
   exact⟨h.few,h.wds,by rw[List.length_append];exact hc.2,fun c hc'=>(bz.mp hc').elim (h.let_ c) (hw c),fun _=>hc.1⟩
  ·cases e
 ·rw[ki] at e
  split at e
  ·cases e
  ·rename_i hc
   cases e
   have:=h.sp hc
   have l1:1<=s.2.length:=by
    cases hs:s.2 with
    | nil=>exact absurd hs hc
    | cons _ _=>simp
   exact⟨by rw[List.length_append];exact this,fun w hw=>(bz.mp hw).elim (h.wds w) fun hw=>by rw[aV.mp hw];exact⟨l1,h.len,h.let_⟩,by simp,(fun c hc=>by cases hc),fun hh=>absurd rfl hh⟩
theorem Jw:jI [.inr ("end":Str)]:=⟨rfl,by decide,fun z hz=>by
 have:V.str z=V.str ("end":Str):=aV.mp hz
 cases this;decide⟩
theorem GN {l:List Nat} (h:dF 6 l=true):jI [.inr ("part":Str),.inr (tx l)]:=⟨by
 show dF 6 (tx l).cps.toList=true
 rw[bo];exact h,ak 2,fun z hz=>by
 have hz':V.str z∈[V.str ("part":Str),V.str (tx l)]:=hz
 have:=(qy h).2.1
 rcases aI.mp hz' with e | e
 ·cases e;decide
 ·have e2:V.str z=V.str (tx l):=aV.mp e
  cases e2
  rw[bj];omega⟩
theorem AN {ws:List (List Nat)} (h60:ws.length<=60) (hw:∀ w∈ws,Dv w):(Mk.dY 32 ws).length<=1260/\(ws.map fun w=>w.length+1).sum<=1260:=by
 obtain⟨a,b⟩:=E6 (n:=60) h60 fun w h=>(hw w h).2.1
 exact⟨by omega,by omega⟩
theorem tK {k:List Key}{s s':SSt}{s0:SSt} (h:runK ks s0=some s) (e:stepK k s=some s'):runK (ks++[k]) s0=some s':=by
 rw[xV,h]
 show (match stepK k s with | none=>none | some t=>runK [] t)=some s'
 rw[e];rfl
theorem DT (ns:List Int) (a b:Nat):∃ l:List Int,lP (ns.map V.int) (some (a:Int)) (some (b:Int))=l.map V.int/\l.length<=b-a:=by
 refine⟨(ns.drop (min a ns.length)).take (min b ns.length-min a ns.length),?_,?_⟩
 ·unfold lP
  rw[HT.ny,HT.ny,List.length_map,iA,fM]
 ·rw[bw,bK]
  omega
theorem J0 {f:Ben->α}{es:List Ben}{x e:Ben} (hn:(es.map f).Nodup) (hx:x∈es) (he:e∈es) (h:f x=f e):x=e:=by
 obtain⟨i,hi,rfl⟩:=List.getElem_of_mem hx
 obtain⟨j,hj,rfl⟩:=List.getElem_of_mem he
 have:=List.pairwise_iff_getElem.mp hn
 rcases Nat.lt_trichotomy i j with l | l | l
 ·exact absurd (by rw[List.getElem_map,List.getElem_map];exact h) (this i j (by rw[List.length_map];exact hi) (by rw[List.length_map];exact hj) l)
 ·subst l;rfl
 ·exact absurd (by rw[List.getElem_map,List.getElem_map];exact h.symm) (this j i (by rw[List.length_map];exact hj) (by rw[List.length_map];exact hi) l)
def kOf (es:List Ben) (x:V):Option (List Key):=match x with
 | .int n=>(es.find? fun e=>decide (e.num=n)).map (·.key)
 | _=>none
def iQ:List (Option (List Key))->SSt->Nat->Nat ⊕ SSt
 | [],s,_=>.inr s
 | none::_,_,i=>.inl i
 | some k::r,s,i=>match stepK k s with
  | none=>.inl i
  | some s'=>iQ r s' (i+1)
def lj (ks:List (Option (List Key))):Nat ⊕ List (List Nat):=match iQ ks ([],[]) 0 with
 | .inl i=>.inl i
 | .inr s=>if s.2=[]/\s.1≠[] then .inr s.1 else .inl ks.length
theorem zq {es:List Ben} (nn:(es.map (·.num)).Nodup) {e:Ben} (h:e∈es):kOf es (.int e.num)=some e.key:=by
 unfold kOf
 have:∃ u,es.find? (fun u=>decide (u.num=e.num))=some u:=by
  cases q:es.find? (fun u=>decide (u.num=e.num)) with
  | some u=>exact⟨u,rfl⟩
  | none=>exact absurd (aq rfl) (List.find?_eq_none.mp q e h)
 obtain⟨u,q⟩:=this
 have hu:=List.mem_of_find?_eq_some q
 have en:u.num=e.num:=by
  have z:=List.find?_some q
  simpa using z
 show Option.map _ (es.find? fun u=>decide (u.num=e.num))=_
 rw[q,J0 nn hu h en]
 rfl
theorem vF {es:List Ben}{n:Int} (h:n∉es.map (·.num)):kOf es (.int n)=none:=by
 show Option.map _ (es.find? fun u=>decide (u.num=n))=_
 rw[List.find?_eq_none.mpr fun u hu=>by
  rw[bC]
  exact fun z=>h (aE.mpr ⟨u,hu,z⟩)]
 rfl
theorem xX {es:List Ben} (nn:(es.map (·.num)).Nodup):∀ {grp:List Ben}{s s':SSt}{i:Nat},(∀ e∈grp,e∈es)->runK (grp.map (·.key)) s=some s'->iQ (grp.map fun e:Ben=>kOf es (.int e.num)) s i=.inr s'
 | [],s,s',i,_,h=>by
  have h':some s=some s':=h
  cases h'
  rfl
 | e::r,s,s',i,hm,h=>by
  rw[aR,zq nn (hm e List.mem_cons_self)]
  have h':(match stepK e.key s with | none=>none | some t=>runK (r.map (·.key)) t)=some s':=h
  show (match stepK e.key s with | none=>Sum.inl i | some t=>iQ (r.map fun e:Ben=>kOf es (.int e.num)) t (i+1))=_
  cases hs:stepK e.key s with
  | none=>rw[hs] at h';cases h'
  | some t=>rw[hs] at h';exact xX nn (fun e he=>hm e (List.mem_cons_of_mem _ he)) h'
theorem HQ {es:List Ben} (nn:(es.map (·.num)).Nodup) {grp:List Ben}{l:List Int}{ws:List (List Nat)} (hm:∀ e∈grp,e∈es) (hl:grp.map (·.num)=l) (h:runK (grp.map (·.key)) ([],[])=some (ws,[])) (hw:ws≠[]):lj ((l.map V.int).map (kOf es))=.inr ws:=by
 subst hl
 unfold lj
 rw[List.map_map,List.map_map,show ((kOf es ∘ V.int) ∘ fun e:Ben=>e.num)=fun e:Ben=>kOf es (.int e.num) from rfl,xX nn hm h]
 exact if_pos ⟨rfl,hw⟩
theorem B8 {l:List α}{v:α} (h:l.getLast?=some v):atI l (-1)=some v:=by
 have hne:l≠[]:=fun e=>by subst e;cases h
 have hl:=List.length_pos_iff.mpr hne
 unfold atI ixN
 rw[if_neg (by decide),if_pos (by omega)]
 show l[_]?=some v
 rw[List.getLast?_eq_getElem?] at h
 rw[←h]
 congr 1
 omega
structure LO (al z:List Nat):Prop where
 z3:3<=z.length
 z8:z.length<=8
 mem:∀ c∈z,c∈al
 a3:3<=al.length
 a26:al.length<=26
def wdV (z:List Nat):V:=.str (tx z)
def GoodW (al:List Nat) (ws:List Int) (r:Int) (z:List Nat):Prop:=∃ ps:List Int,z=Mk.bA al ps/\ps.length=ws.length/\(∀ x∈ps,0<=x/\x<(al.length:Int))/\Mk.good al.length ws r ps=true
theorem GoodW.wd {z:List Nat} (h:GoodW al ws r z) (ok:bD al ws r):LO al z:=by
 obtain⟨ps,rfl,hl,hm,_⟩:=h
 have sl:=Mk.gk al ps
 have w3:=ok.w3
 have w8:=ok.w8
 refine⟨by omega,by omega,fun c hc=>?_,ok.a3,ok.a26⟩
 unfold Mk.bA at hc
 obtain⟨p,hp,rfl⟩:=aE.mp hc
 exact Mk.getD_mem (hm p hp)
theorem GoodW.good {z:List Nat} (h:GoodW al ws r z) (ok:bD al ws r):Mk.bU al ws r z=true:=by
 obtain⟨ps,rfl,hl,hm,hg⟩:=h
 rw[Mk.kK ok.nd hl hm];exact hg
theorem uF (xs:List V) (h:xs.all dX=true):lK xs xs=true:=by
 rw[←kJ rfl,cw]
 intro j hj
 have hj':=bN.mp hj
 rw[List.getD_eq_getElem?_getD,List.getElem?_eq_getElem hj']
 exact Ec (cw.mp h _ (i6 hj'))
theorem AL:∀ {vs:List V}{G:Int->Prop},(∀ v∈vs,∃ n,v=V.int n/\G n)->∃ ns:List Int,vs=ns.map V.int/\∀ n∈ns,G n
 | [],_,_=>⟨[],rfl,fun n h=>by cases h⟩
 | v::vs,G,h=>by
  obtain⟨n,rfl,hn⟩:=h v List.mem_cons_self
  obtain⟨ns,rfl,hns⟩:=AL fun v hv=>h v (List.mem_cons_of_mem _ hv)
  exact⟨n::ns,rfl,fun m hm=>(aI.mp hm).elim (fun e=>by rw[e];exact hn) (hns m)⟩
theorem uT (ok:bD al ws r) {z:List Nat} (h:Mk.bU al ws r z=true):0<=Mk.numOf al.length (Mk.plc al z.dropLast)/\Mk.numOf al.length (Mk.plc al z.dropLast)<(al.length:Int)^(ws.length-1):=by
 have a3:=ok.a3
 unfold Mk.bU at h
 rw[bI] at h
 obtain⟨hl,hm⟩:=Mk.cQ.mp h.1
 have hb:=Mk.iP (m:=(al.length:Int)) (by omega) (Mk.plc al z.dropLast) fun p hp=>by
  unfold Mk.plc at hp
  obtain⟨c,hc,rfl⟩:=aE.mp hp
  have:=mP (hm c (gF _ hc))
  omega
 have e:(Mk.plc al z.dropLast).length=ws.length-1:=by
  unfold Mk.plc
  rw[List.length_map,i7]
  omega
 rw[e] at hb
 exact hb
def sP (i:Nat):V:=.int (i:Int)
theorem Ej (as:List Nat):(as.map sP).all dX=true:=by
 rw[cw];intro v hv
 obtain⟨z,_,rfl⟩:=aE.mp hv
 rfl
def il (al z:List Nat):Int:=Mk.numOf al.length (Mk.plc al z.dropLast)
def yq (al:List Nat) (ws:List Int) (r g:Int):List Nat:=Mk.bA al (Mk.jH al.length ws r g)
def cy (al:List Nat) (ws:List Int) (r:Int) (gs:List Int):List (List Nat):=gs.map (yq al ws r)++[yq al ws r ((gs.sum+gs.length)%bL al ws)]
theorem KY {r g:Int} (ok:bD al ws r) (h0:0<=g) (h1:g<bL al ws):il al (yq al ws r g)=g:=by
 have a3:=ok.a3
 have w3:=ok.w3
 have hm:=Mk.vi (m:=(al.length:Int)) (r:=r) (k:=g) (ws:=ws) (by omega) (by have:=ok.a26;omega) ok.wm ok.safe (by omega)
 have hn:=Mk.Dt (m:=(al.length:Int)) (r:=r) (k:=g) (ws:=ws) (by omega) h0 h1
 unfold il yq
 have e:(Mk.bA al (Mk.jH al.length ws r g)).dropLast=Mk.bA al (Mk.jH al.length ws r g).dropLast:=by unfold Mk.bA;rw[List.map_dropLast]
 rw[e,Mk.iW ok.nd (fun p hp=>hm p (gF _ hp))]
 exact hn
theorem KQ {r g:Int} (ok:bD al ws r):GoodW al ws r (yq al ws r g):=by
 have a3:=ok.a3
 have a26:=ok.a26
 have w3:=ok.w3
 exact⟨_,rfl,Mk.Ds (by omega),Mk.vi (by omega) (by omega) ok.wm ok.safe (by omega),Mk.Am (by omega) (by omega) ok.wm ok.safe (by omega)⟩
theorem LW {js:List Nat}{σ:St}{tc:TT}{te:TE}{Q:VK} (hJ:J.Seq H1 xs) (hl:xs.length<sizeLine) (pr:Nat->Bool) (g:Nat->V)
  (hc:∀ (i:Nat) x,xs[i]?=some x->∀ H,aw H1 H->∀ R:Bool->Hp->Prop,(∀ H',aw H H'->R (pr i) H')->tc (some x::js.map fun j=>(σ[j]?).join) H R)
  (he:∀ (i:Nat) x,xs[i]?=some x->pr i=true->∀ H,aw H1 H->∀ R:VK,(∀ H',aw H H'->R (g i) H')->te (some x::js.map fun j=>(σ[j]?).join) H R)
  (q:∀ D H,H1 D=none->aw H1 H->H D=some (.lst (((List.range xs.length).filter pr).map g))->Q (.ref D) H):fU (gf 0) tc te (iZ 1 js σ) J H1 Q:=by
 intro D hD
 refine⟨fun i m ys σ1 H=>m=xs.length-i/\i<=xs.length/\(∃ o,σ1=o::js.map fun j=>(σ[j]?).join)/\ys=((List.range i).filter pr).map g/\aw H1 H/\H D=some (.lst ys),
  ⟨xs.length,by simp,aT _,⟨none,rfl⟩,by simp,(aw.refl H1).bZ hD,a8⟩,?_⟩
 rintro i m ys σ1 H ⟨rfl,hi,⟨o,rfl⟩,rfl,sH,hL⟩
 have hyn:(((List.range i).filter pr).map g).length<=i:=by
  rw[List.length_map]
  have:=ku pr (List.range i)
  rwa [List.length_range] at this
 refine⟨hL,by omega,?_⟩
 by_cases hlt:i<xs.length
 ·have e:xs[i]?=some xs[i]:=List.getElem?_eq_getElem hlt
  obtain⟨go,yl⟩:=(hJ H sH).1 i xs[i] e
  refine .inr ⟨go,fun x H' y=>?_⟩
  obtain⟨q1,q2⟩:=yl x H' y
  subst q1 q2
  have rs:List.range (i+1)=List.range i++[i]:=kz
  show tc (some xs[i]::js.map fun j=>(σ[j]?).join) H' _
  refine hc i _ e H' sH _ fun H4 s4=>?_
  have hL4:=s4 _ _ hL
  cases hpr:pr i with
  | false =>
   rw[if_neg bE]
   exact⟨xs.length-(i+1),by omega,rfl,hlt,⟨_,rfl⟩,by rw[rs,fL];simp [hpr],sH.trans s4,hL4⟩
  | true =>
   rw[if_pos rfl]
   refine he i _ e hpr _ (sH.trans s4) _ fun H5 s5=>⟨s5 _ _ hL4,xs.length-(i+1),by omega,rfl,hlt,⟨_,rfl⟩,?_,((sH.trans s4).trans s5).bZ hD,a8⟩
   rw[rs,fL,List.map_append];simp [hpr]
 ·have e:i=xs.length:=by omega
  subst e
  exact .inl ⟨(hJ H sH).2 _ (ak _),q D H hD sH hL⟩
theorem xS {α β:Type} (p:α->Bool) (f:α->β) (d:β):∀ es:List α,((List.range es.length).filter fun i=>(es[i]?).any p).map (fun i=>((es[i]?).map f).getD d)=(es.filter p).map f
 | []=>rfl
 | x::r=>by
  have e:(((List.range r.length).map Nat.succ).filter fun i=>((x::r)[i]?).any p).map (fun i=>(((x::r)[i]?).map f).getD d)=(r.filter p).map f:=by
   rw[mI,List.map_map]
   exact xS p f d r
  rw[aO,List.range_succ_eq_map]
  cases hp:p x with
  | true=>rw[mH (by show (some x).any p=true;exact hp),aR,e,mH hp];rfl
  | false=>rw[mG (by show ¬ (some x).any p=true;rw[show (some x).any p=p x from rfl,hp];decide),e,mG (by rw[hp];decide)]
def CH (c:Int):Int:=(c%10^60*314159265358979323846264338327950288419716939937510582097494+27182818284590452353602874713527)%(10^60+7)
theorem rV (c:Int):0<=CH c:=c4 _ (by decide)
theorem Dz:∀ i:Nat,i<26->(Str.ofString "abcdefghijklmnopqrstuvwxyz").cps.toList[i]?=some (97+i):=by decide +kernel
structure yv (H:Hp) (D:Addr) (es:List Ben):Prop where
 d:Rd H D (.dK (gR es))
 en:∀ e∈es,H e.adr=some (.tup (e.key.map kV))
 nn:(es.map (·.num)).Nodup
theorem yv.same {H H':Hp}{D:Addr}{es:List Ben} (h:yv H D es) (s:aw H H'):yv H' D es:=⟨h.d.imp (s _ _) fun ⟨o,e⟩=>⟨o,s _ _ e⟩,fun e he=>s _ _ (h.en e he),h.nn⟩
theorem FF (c:Nat):(⟨#[c]⟩:Str)=tx [c]:=rfl
def nE (al z z':List Nat):Prop:=(∃ i c,i<z.length/\c∈al/\c≠z.getD i 0/\z'=z.take i++[c]++z.drop (i+1))∨∃ i,i+1<z.length/\z.getD i 0≠z.getD (i+1) 0/\z'=z.take i++[z.getD (i+1) 0,z.getD i 0]++z.drop (i+2)
theorem nE.len {al z z':List Nat} (h:nE al z z'):z'.length=z.length:=by
 rcases h with ⟨i,c,hi,_,_,rfl⟩ | ⟨i,hi,_,rfl⟩
 ·rw[List.length_append,List.length_append,bw,bK]
  show min i z.length+1+_=_
  omega
 ·rw[List.length_append,List.length_append,bw,bK]
  show min i z.length+2+_=_
  omega
def jz (al:List Nat) (ws:List Int) (r:Int) (es:List Ben) (n i:Nat) (z:List Nat):Bool:=Mk.bU al ws r z&&(decide (i+1=n)||decide (il al z∈es.map (·.num)))
def dbL (al:List Nat) (ws:List Int) (r:Int) (es:List Ben) (zs:List (List Nat)):List Nat:=(List.range zs.length).filter fun i=>!jz al ws r es zs.length i (zs.getD i [])
theorem words_of {al:List Nat}{n:Int}{f:V->Bool} (hf:∀ x,f x=true->∃ z,x=.str z/\Mk.b8 al n z.cps.toList=true):∀ {xs:List V},xs.all f=true->∃ zs:List (List Nat),xs=zs.map wdV/\∀ z∈zs,Mk.b8 al n z=true
 | [],_=>⟨[],rfl,fun z h=>by cases h⟩
 | x::xs,h=>by
  rw[iz,bI] at h
  obtain⟨zs,e,hz⟩:=words_of hf h.2
  obtain⟨z,rfl,h1⟩:=hf x h.1
  refine⟨z.cps.toList::zs,by rw[aR,←e];show V.str z::xs=V.str (tx z.cps.toList)::xs;rw[m7],fun y hy=>?_⟩
  rcases aI.mp hy with rfl | hy
  ·exact h1
  ·exact hz y hy
def LN (H:Hp) (v:V) (xs:List V):Prop:=∃ b,v=.ref b/\H b=some (.lst xs)
def jW (H:Hp) (vs:List V) (xss:List (List V)):Prop:=Paired (LN H) vs xss
theorem jW.keep {H H':Hp}{xss:List (List V)} (h:jW H vs xss) (s:∀ b (xs:List V),H b=some (.lst xs)->H' b=some (.lst xs)):jW H' vs xss:=j8 (fun _ _ ⟨b,e,hb⟩=>⟨b,e,s _ _ hb⟩) h
theorem jW.uO {H H':Hp}{D:Addr}:∀ {vs:List V}{xss:List (List V)},jW H vs xss->(∀ v∈vs,v≠V.ref D)->(∀ b o,b≠D->H b=some o->H' b=some o)->jW H' vs xss
 | _,_,.nil,_,_=>.nil
 | _,_,.cons ⟨b,e,hb⟩ t,h,s=>.cons ⟨b,e,s b _ (fun z=>h _ List.mem_cons_self (by rw[e,z])) hb⟩ (jW.uO t (fun v hv=>h v (List.mem_cons_of_mem _ hv)) s)
def n9 (xs:List V) (i:Nat) (c:V):List V:=xs.take i++[c]++xs.drop (i+1)
def lC (es:List Ben) (M:Int) (ns:List Int):Option (List Nat) :=
 if ns.getLastD 0=(ns.dropLast.sum+(ns.dropLast.length:Int))%M then
  match lj ((ns.dropLast.map V.int).map (kOf es)) with
  | .inr wd=>some (Mk.dY 32 wd)
  | .inl _=>none
 else none
theorem GZ {ps q:List Int} (hm:∀ x∈ps,0<=x/\x<(m:Int)) (h:q∈jy m ps):ps∈jy m q:=by
 rcases bz.mp h with h | h
 ·obtain⟨i,o,hi,h0,h1,h2,rfl⟩:=kc.mp h
  refine bz.mpr (.inl (kc.mpr ⟨i,ps.getD i 0,by rw[eK];exact hi,(hm _ (getD_in hi)).1,(hm _ (getD_in hi)).2,by rw[tS hi];exact bt h2,?_⟩))
  refine gG fun k=>?_
  rw[mL,eK]
  by_cases e:i=k
  ·subst e
   rw[if_pos rfl,if_pos hi,getD_some hi]
  ·rw[if_neg e,ko e]
 ·obtain⟨i,hi,h2,rfl⟩:=ke.mp h
  refine bz.mpr (.inr (ke.mpr ⟨i,by rw[eK,eK];exact hi,?_,?_⟩))
  ·rw[m6 hi,m6 hi,if_pos rfl,if_neg (by omega),if_pos rfl]
   exact bt h2
  ·rw[m6 hi,m6 hi,if_neg (by omega),if_pos rfl,if_pos rfl]
   refine gG fun k=>?_
   simp only[mL,eK]
   by_cases e:i+1=k
   ·subst e
    rw[if_pos rfl,if_pos hi,getD_some hi]
   ·rw[if_neg e]
    by_cases e2:i=k
    ·subst e2
     rw[if_pos rfl,if_pos (by omega),getD_some (by omega)]
    ·rw[if_neg e2,if_neg e,if_neg e2]
theorem Eu (ok:bD al ws r) {ps qs:List Int} (pl:ps.length=ws.length) (ql:qs.length=ws.length) (pm:∀ x∈ps,0<=x/\x<(al.length:Int)) (qm:∀ x∈qs,0<=x/\x<(al.length:Int)) (pg:Mk.good al.length ws r ps=true) (qg:Mk.good al.length ws r qs=true) (h:Mk.numOf al.length ps.dropLast=Mk.numOf al.length qs.dropLast):ps=qs:=by
 have a3:=ok.a3
 have a26:=ok.a26
 have w3:=ok.w3
 have e:ps.dropLast=qs.dropLast:=by
  have h1:=Mk.sD (m:=(al.length:Int)) (by omega) ps.dropLast fun x hx=>pm x (gF _ hx)
  have h2:=Mk.sD (m:=(al.length:Int)) (by omega) qs.dropLast fun x hx=>qm x (gF _ hx)
  rw[←h1,←h2,h,i7,i7,pl,ql]
 obtain⟨_,l1,l2,l3⟩:=Mk.nq (m:=(al.length:Int)) (r:=r) (ws:=ws) (ps:=ps.dropLast) (by omega) (by omega) ok.wm (fun x hx=>(Mk.ir.mp ok.safe).1 x hx) (by rw[i7];omega)
 have p0:ps≠[]:=fun z=>by rw[z] at pl;simp at pl;omega
 have q0:qs≠[]:=fun z=>by rw[z] at ql;simp at ql;omega
 have pe:=pP p0
 have qe:=pP q0
 rw[←pe] at pg
 rw[←qe,←e] at qg
 have b1:=pm _ (List.getLast_mem p0)
 have b2:=qm _ (List.getLast_mem q0)
 have:=(l3 _ b1.1 b1.2).mp pg
 have:=(l3 _ b2.1 b2.2).mp qg
 rw[←pe,←qe,←e]
 congr 2
 omega
theorem FH (pm:∀ x∈ps,0<=x/\x<(al.length:Int)):∀ x∈Mk.bA al ps,x∈al:=fun x hx=>by
 obtain⟨y,hy,rfl⟩:=aE.mp hx
 exact Mk.getD_mem (pm y hy)
theorem ly {n:Nat} (pl:ps.length=n) (pm:∀ x∈ps,0<=x/\x<(al.length:Int)):Mk.b8 al n (Mk.bA al ps)=true:=Mk.cQ.mpr ⟨by rw[Mk.gk,pl],FH pm⟩
theorem zh (a26:al.length<=26) (p8:ps.length<=8) (pm:∀ x∈ps,0<=x/\x<(al.length:Int)):(jy al.length ps).length<=208:=by
 unfold jy
 rw[List.length_append,sy pm]
 have:=sd (ps:=ps)
 have:ps.length*(al.length-1)<=200:=aK (Nat.mul_le_mul p8 (show al.length-1<=25 by omega)) (by decide)
 omega
structure Dx (al:List Nat) (ws:List Int) (r:Int) (es:List Ben) (c:Bool) (z:List Nat) (cs:List Int):Prop where
 nd:cs.Nodup
 few:cs.length<=16
 mem:∀ n,n∈cs↔∃ ps∈jy al.length (Mk.plc al z),Mk.good al.length ws r ps=true/\(c=true∨n∈es.map (·.num))/\n=Mk.numOf al.length ps.dropLast
theorem xf {α β:Type}{f:α->List β}{p:β->Bool}{m:Nat}:∀ {l:List α},(∀ x∈l,((f x).filter p).length<=m)->((l.flatMap f).filter p).length<=l.length*m
 | [],_=>aT _
 | x::r,h=>by
  rw[mJ,fL,List.length_append,aO,Nat.add_mul,Nat.one_mul]
  have:=h x List.mem_cons_self
  have:=xf (f:=f) (p:=p) (m:=m) (l:=r) fun y hy=>h y (List.mem_cons_of_mem _ hy)
  omega
theorem AU {l:List α} (hn:l.Nodup) (h:∀ x∈l,∀ y∈l,x=y):l.length<=1:=by
 cases l with
 | nil=>exact aT _
 | cons x r =>
  cases r with
  | nil=>exact ak _
  | cons y r =>
   have e:=h x List.mem_cons_self y (List.mem_cons_of_mem _ List.mem_cons_self)
   rw[dS] at hn
   exact absurd (by rw[e];exact List.mem_cons_self) hn.1
theorem GY (ok:bD al ws r)  (pl:ps.length=ws.length) (pm:∀ x∈ps,0<=x/\x<(al.length:Int)):((jy al.length ps).filter fun q=>Mk.good al.length ws r q).length<=16:=by
 have w8:=ok.w8
 have hnd:=uI (m:=al.length) (ps:=ps)
 unfold jy at hnd
 have h1:((uj al.length ps).filter fun q=>Mk.good al.length ws r q).length<=ps.length*1:=by
  unfold uj
  have:=xf (f:=exI al.length ps) (p:=fun q=>Mk.good al.length ws r q) (m:=1) (l:=List.range ps.length) fun i hi=>?_
  ·rwa [List.length_range] at this
  ·have hi':=bN.mp hi
   refine AU ?_ fun x hx y hy=>?_
   ·have h2:=(List.nodup_append.mp hnd).1
    unfold uj List.Nodup at h2
    rw[List.pairwise_flatMap] at h2
    exact jm _ (h2.1 i hi)
   ·obtain⟨hx1,hx2⟩:=bW.mp hx
    obtain⟨hy1,hy2⟩:=bW.mp hy
    obtain⟨o,o0,o1,o2,rfl⟩:=nr.mp hx1
    obtain⟨u,u0,u1,u2,rfl⟩:=nr.mp hy1
    rw[iq hi'] at hx2 ⊢
    rw[iq hi'] at hy2 ⊢
    by_cases e:o=u
    ·rw[e]
    ·exfalso
     have hw:=getD_some (ps:=ws) (i:=i) (by omega)
     have hs:(ps.set i o)[i]?=some o:=mM hi'
     have:=Mk.xj hw hs ((Mk.ir.mp ok.safe).1 _ (bG hw)) ⟨o0,o1⟩ ⟨u0,u1⟩ (bt e) hx2
     rw[List.set_set,hy2] at this
     cases this
 have h2:=ku (fun q=>Mk.good al.length ws r q) (yk ps)
 have h3:=sd (ps:=ps)
 unfold jy
 rw[fL,List.length_append]
 omega
def eS (Ad:Ads):Sp:=fun vs H Q _=>∃ (e:Addr) (n:Int),vs=[.ref e,.int n]/\H e=some (xiO e Ad.NoReading none)/\0<=n/\n<1000000/\∀ dx H',H dx=none->dx≠e->H' e=some (xiO e Ad.NoReading (some dx))->H' dx=some (.xd [("at",.int n)])->aw (hid e H) (hid e H')->Q .non H'
theorem kW {Ad:Ads}{n:Int} (n0:0<=n) (n1:n<1000000) (k:∀ dx H',aw H1 H'->H' dx=some (.xd [("at",.int n)])->E' (.ref Ad.NoReading) (some dx) H') (e:Addr) (H2:Hp) (z:H1 e=none) (s:aw H1 H2) (he:H2 e=some (xiO e Ad.NoReading none)) :
  eS Ad [.ref e,.int n] H2 (fun v H3=>v=.non/\∃ dx fs,H3 e=some (xiO e Ad.NoReading (some dx))/\H3 dx=some (.xd fs)/\E' (.ref Ad.NoReading) (some dx) (hid e H3)) (fun _ _ _=>False) :=
 ⟨e,n,rfl,he,n0,n1,fun dx H' _ q1 q2 q3 q4=>⟨rfl,dx,_,q2,q3,k dx _ (xZ z s q4) (by rw[fA q1];exact q3)⟩⟩
theorem oZ:aG ["self","at"] ["self","at"] (ar cX):=by subst_eqs
theorem oP (F:Fun K "__init__" "NoReading.__init__" cX f fd) (T:Bl mg) (AF:AdF K mg Ad) :bJ P w K mg base (CX1 P w) 1 f fd ["self","at"] (eS Ad):=by
 refine F.okX (k:=0) oZ ?_ ?_
 ·bv_decide
 ·bv_normalize
  obtain⟨e,n,rfl,he,n0,n1,k⟩:=h
  refine⟨_,af (dM (rb (K:=K) rfl AF.bi AF.g_CableError (ag (pvL 0) (ag (Lg (pvL 1)) (ae))))) (ai (Bc (K:=K) rfl (pvL 0) (pvL 1))),?_⟩
  ac_nf
  exact⟨n0,n1,fun y=>⟨_,he,AF.o_NoReading,_,he,AF.s_NoReading,fun dx H' q1 q2 q3 q4 q5=>k dx H' q1 q2 q3 q4 q5⟩⟩
def eF (Ad:Ads):Sp:=fun vs H Q _=>∃ (e a:Addr) (xs:List V),vs=[.ref e,.ref a]/\H e=some (xiO e Ad.TooGarbled none)/\H a=some (.lst xs)/\∀ dx p H',H dx=none->H p=none->dx≠e->p≠e->p≠dx->H' e=some (xiO e Ad.TooGarbled (some dx))->H' dx=some (.xd [("places",.ref p)])->H' p=some (.lst xs)->aw (hid e H) (hid e H')->Q .non H'
theorem zN {Ad:Ads} (ha:H1 a=some (.lst xs)) (k:∀ dx p H',aw H1 H'->H' dx=some (.xd [("places",.ref p)])->H' p=some (.lst xs)->E' (.ref Ad.TooGarbled) (some dx) H') (e:Addr) (H2:Hp) (z:H1 e=none) (s:aw H1 H2) (he:H2 e=some (xiO e Ad.TooGarbled none)) :
  eF Ad [.ref e,.ref a] H2 (fun v H3=>v=.non/\∃ dx fs,H3 e=some (xiO e Ad.TooGarbled (some dx))/\H3 dx=some (.xd fs)/\E' (.ref Ad.TooGarbled) (some dx) (hid e H3)) (fun _ _ _=>False) :=
 ⟨e,a,xs,rfl,he,s _ _ ha,fun dx p H' _ _ q2 q3 _ q5 q6 q7 q8=>⟨rfl,dx,_,q5,q6,k dx p _ (xZ z s q8) (by rw[fA q2];exact q6) (by rw[fA q3];exact q7)⟩⟩
theorem oo:aG ["self","places"] ["self","places"] (ar cM):=by subst_eqs
theorem nO (F:Fun K "__init__" "TooGarbled.__init__" cM f fd) (T:Bl mg) (AF:AdF K mg Ad) :bJ P w K mg base (CX1 P w) 1 f fd ["self","places"] (eF Ad):=by
 refine F.okX (k:=0) oo ?_ ?_
 ·bv_decide
 ·bv_normalize
  obtain⟨e,a,xs,rfl,he,ha,k⟩:=h
  refine⟨_,af (dM (rb (K:=K) rfl AF.bi AF.g_CableError (ag (pvL 0) (ag (aM) (ae))))) (ai (Bc (K:=K) rfl (pvL 0) (ei (gW (K:=K) rfl rfl) T.list j6 (ag (pvL 1) (ae))))),?_⟩
  ac_nf
  refine⟨_,he,AF.o_TooGarbled,_,.inl (.l ha),fun p H1 hp s1 h1=>⟨_,s1 _ _ he,AF.s_TooGarbled,fun dx H' q1 q2 q3 q4 q5=>?_⟩⟩
  have pe:p≠e:=(bc he hp).symm
  refine k dx p H' (s1.free q1) hp q2 pe (bc h1 q1) q3 q4 ?_ fun c o hc=>q5 c o ?_
  ·have:=q5 p _ (by rw[fA pe];exact h1)
   rwa [fA pe] at this
  ·by_cases ec:c=e
   ·subst ec;rw[oG] at hc;cases hc
   ·rw[fA ec] at hc ⊢
    exact s1 _ _ hc
def r6:Sp:=fun vs H Q _=>∃ x t,vs=[x]/\eG H x=some t/\Q (.bl (decide (t=Tg.int))) H
theorem yd:aG ["thing"] ["thing"] (ar oa):=by subst_eqs
theorem xD (F:Fun K "is_whole" "is_whole" oa f fd) (T:Bl mg) (AF:AdF K mg Ad) :bJ P w K mg base (CX1 P w) 1 f fd ["thing"] r6:=by
 refine F.okX (k:=0) yd ?_ ?_
 ·bv_decide
 ·bv_normalize
  obtain⟨x,t,rfl,ht,k⟩:=h
  refine⟨_,ai (aF (nQ (au (eN .int) T.isinstance bt_isinstance (ag (pvL 0) (ag (jJ T.int Js) (ae)))) (lU (Ke (au (eN .bl) T.isinstance bt_isinstance (ag (pvL 0) (ag (jJ T.bool GH) (ae)))))))),?_⟩
  ac_nf
  refine⟨trivial,t,ht,?_⟩
  cases t<;>(simp only[Tg.sub,gQ,dU,ic,reduceCtorEq];first | exact k | exact⟨trivial,_,ht,k⟩)
def jD:Sp:=fun vs H Q _=>∃ a b:Int,vs=[.int a,.int b]/\Q (.int ((Int.gcd a b:Nat):Int)) H
theorem cN:aG ["one","other","left","right","over"] ["one","other"] (ar gY):=by subst_eqs
theorem oQ (F:Fun K "common_divisor" "common_divisor" gY f fd) (T:Bl mg) (AF:AdF K mg Ad) :bJ P w K mg base (CX1 P w) 1 f fd ["one","other"] jD:=by
 refine F.okX (k:=0) cN ?_ ?_
 ·bv_decide
 ·bv_normalize
  obtain⟨a,b,rfl,k⟩:=h
  refine⟨_,af (aA (i:=2) cN.nd (au qo T.abs yD (ag (pvL 0) (ae)))) (af (aA (i:=3) cN.nd (au qo T.abs yD (ag (pvL 1) (ae)))) (af (tJ cf (aN (fB (K:=K) rfl hu) (pvL 3) (ao) (aQ _)) (af (aA (i:=4) cN.nd (ax bV (pvL 2) (pvL 3))) (af (aA (i:=2) cN.nd (pvL 3)) (ai (aA (i:=3) cN.nd (pvL 4)))))) (ai (aF (pvL 2))))),?_⟩
  ac_nf
  refine wD (fun σ H'=>H'=H/\∃ (l r:Nat) (o:Option V),σ=[some (.int a),some (.int b),some (.int l),some (.int r),o]/\Nat.gcd l r=Int.gcd a b)
   (fun σ _=>match σ with | [_,_,_,some (.int r),_]=>r.toNat | _=>0) ⟨rfl,a.natAbs,b.natAbs,none,rfl,rfl⟩ ?_
  rintro σ H' ⟨rfl,l,r,o,rfl,hg⟩
  ac_nf
  by_cases hr0:r=0
  ·subst hr0
   rw[Nat.gcd_zero_right] at hg
   subst hg
   exact k
  ·have e:(!decide ((r:Int)=0))=true:=by simp [hr0]
   rw[if_pos e]
   refine⟨_,fun _ _ h=>h,by omega,⟨rfl,r,l%r,some (.int ((l%r:Nat):Int)),?_,?_⟩,?_⟩
   ·rw[Int.natCast_emod]
   ·rw[←hg,Nat.gcd_comm l r,Nat.gcd_rec r l,Nat.gcd_comm]
   ·show ((l:Int)%(r:Int)).toNat<((r:Int)).toNat
    have h1:(l:Int)%(r:Int)<r:=cH _ (by omega)
    have h2:0<=(l:Int)%(r:Int):=c4 _ (by omega)
    omega
def gq (z:List Nat):Bool:=decide (3<=z.length)&&decide (z.length<=26)&&decide z.Nodup&&z.all fun c=>decide (97<=c/\c<123)
def ik:V->Bool
 | .str z=>gq z.cps.toList
 | _=>false
def my:Sp:=fun vs H Q _=>∃ (x:V) (t:Tg),vs=[x]/\eG H x=some t/\(∀ z,x=.str z->z.length<=4000)/\∀ H',aw H H'->Q (.bl (ik x)) H'
theorem tP:aG ["thing"] ["thing"] (ar jP):=by subst_eqs
theorem sX (F:Fun K "is_alphabet" "is_alphabet" jP f fd) (T:Bl mg) (AF:AdF K mg Ad) :bJ P w K mg base (CX1 P w) 1 f fd ["thing"] my:=by
 refine F.okX (k:=0) tP ?_ ?_
 ·bv_decide
 ·bv_normalize
  obtain⟨x,t,rfl,ht,hz,k⟩:=h
  refine⟨_,af (bH ((gT (cF (cq (au (eN .str) T.isinstance bt_isinstance (ag (pvL 0) (ag (jJ T.str sj) (ae)))))) (fF (cF (oV iH iH (ao) (au (aH (K:=K) rfl) T.len b9 (ag (pvL 0) (ae))) (ao))))).pt) (ai (aF (kh))) (aU)) (ai (aF (nQ (dh (cD (K:=K) rfl hu) (au (yE (P:=P) (w:=w) rfl rfl) T.len b9 (ag (ei (BL (P:=P) (w:=w) rfl rfl rfl) T.set DM (ag (pvL 0) (ae))) (ae))) (au (aH (K:=K) rfl) T.len b9 (ag (pvL 0) (ae))) (aQ _)) (lU (au (gU (K:=K) rfl rfl) T.all nH (ag (gS ["sign"] rfl ⟨rfl,by decide +kernel,rfl,by decide +kernel⟩ (.nil) (by decide +kernel) (ck (K:=K) rfl (pvL 0)) (fun _ _ _ _=>aL (i:=0) (show (["sign"]:List Str).Nodup from by decide +kernel)) (fun _ _ _ _=>dI) (fun _ _ _ _=>dh (qF (K:=K) rfl hu1) (pvL 0) (eI AF.v_SMALL_LETTERS) (by kernel_rfl))) (ae))))))),?_⟩
  by_cases hs:∃ z,x=.str z
  ·obtain⟨z,rfl⟩:=hs
   cases ht
   have hl:=hz z rfl
   have hc:=dg z
   have ek:ik (.str z)=gq z.cps.toList:=rfl
   ac_nf
   refine⟨trivial,Tg.str,rfl,?_⟩
   ac_nf
   refine⟨aP (aj (by omega)),?_⟩
   by_cases h3:3<=z.length/\z.length<=26
   ·have d1:decide ((3:Int)<=(z.length:Int))=true:=aq (by omega)
    have d2:decide ((z.length:Int)<=26)=true:=aq (by omega)
    rw[d1]
    bv_omega
    rw[d2]
    bv_omega
    refine⟨by omega,fun p H1 hp s1 h1=>?_⟩
    refine⟨_,h1,aP (aj (by omega)),?_⟩
    by_cases hn:z.cps.toList.Nodup
    ·have e1:=(uR z).mpr hn
     rw[e1,aq rfl]
     bv_omega
     refine um (fun c:Nat=>V.str ⟨#[c]⟩) vC (wk z) (aj (by omega)) (fun c=>.bl (decide (97<=c/\c<123))) ?_ ?_
     ·intro c hc H2 s2 R hR
      ac_nf
      rw[zk,uw]
      have e2:decide (c∈List.range' 97 26)=decide (97<=c/\c<123):=decide_eq_decide.mpr (by rw[List.mem_range'_1])
      rw[e2]
      exact hR H2 (aw.refl _)
     ·intro D H2 hD s2 h2
      refine⟨D,z.cps.toList.map fun c=>decide (97<=c/\c<123),rfl,.of (by rw[h2,List.map_map];rfl),?_⟩
      have e:(z.cps.toList.map fun c=>decide (97<=c/\c<123)).all id=ik (.str z):=by
       rw[ek]
       unfold gq
       rw[aq (show 3<=z.cps.toList.length by omega),aq (show z.cps.toList.length<=26 by omega),aq hn,List.all_map];rfl
      rw[e]
      exact k H2 (s1.trans s2)
    ·have e1:decide (((bT (jU z) z.length).length:Int)=(z.length:Int))=false:=decide_eq_false fun e=>hn ((uR z).mp (by omega))
     rw[e1]
     bv_omega
     have e:ik (.str z)=false:=by rw[ek];unfold gq;rw[decide_eq_false hn];simp
     rw[e] at k
     exact k H1 s1
   ·have e:ik (.str z)=false:=by
     rw[ek]
     unfold gq
     by_cases h4:3<=z.length
     ·rw[decide_eq_false (show ¬ z.cps.toList.length<=26 by omega)];simp
     ·rw[decide_eq_false (show ¬ 3<=z.cps.toList.length by omega)];simp
    rw[e] at k
    by_cases h4:3<=z.length
    ·have d1:decide ((3:Int)<=(z.length:Int))=true:=aq (by omega)
     have d2:decide ((z.length:Int)<=26)=false:=decide_eq_false (by omega)
     rw[d1]
     bv_omega
     rw[d2]
     bv_omega
     exact k H (aw.refl _)
    ·have d1:decide ((3:Int)<=(z.length:Int))=false:=decide_eq_false (by omega)
     rw[d1]
     bv_omega
     exact k H (aw.refl _)
  ·have hv:ik x=false:=by
    cases x with
    | str z=>exact absurd ⟨z,rfl⟩ hs
    | _=>rfl
   have hne:=pF ht fun z e=>hs ⟨z,e⟩
   rw[hv] at k
   ac_nf
   refine⟨trivial,t,ht,?_⟩
   cases t<;>first
    | exact absurd rfl hne
    | exact k H (aw.refl _)
def cV (al:Str) (n:Int):V->Bool
 | .str z=>Mk.b8 al.cps.toList n z.cps.toList
 | _=>false
def lx:Sp:=fun vs H Q _=>∃ (al:Str) (n:Int) (x:V) (t:Tg),vs=[.str al,.int n,x]/\eG H x=some t/\(∀ z,x=.str z->z.length<=100000)/\∀ H',aw H H'->Q (.bl (cV al n x)) H'
theorem zS:aG ["alphabet","length","thing"] ["alphabet","length","thing"] (ar qL):=by subst_eqs
theorem z6 (F:Fun K "is_word" "is_word" qL f fd) (T:Bl mg) (AF:AdF K mg Ad) :bJ P w K mg base (CX1 P w) 1 f fd ["alphabet","length","thing"] lx:=by
 refine F.okX (k:=0) zS ?_ ?_
 ·bv_decide
 ·bv_normalize
  obtain⟨al,n,x,t,rfl,ht,hz,k⟩:=h
  refine⟨_,af (bH ((gT (cF (cq (au (eN .str) T.isinstance bt_isinstance (ag (pvL 2) (ag (jJ T.str sj) (ae)))))) (fF (aN (fB (K:=K) rfl hu) (au (aH (K:=K) rfl) T.len b9 (ag (pvL 2) (ae))) (pvL 1) (aQ _)))).pt) (ai (aF (kh))) (aU)) (ai (aF (au (gU (K:=K) rfl rfl) T.all nH (ag (gS ["sign"] rfl ⟨rfl,by decide +kernel,rfl,by decide +kernel⟩ (.cons (j:=0) rfl (.inl (by kernel_rfl)) (.nil)) (by decide +kernel) (ck (K:=K) rfl (pvL 2)) (fun _ _ _ _=>aL (i:=0) (show (["sign","alphabet"]:List Str).Nodup from by decide +kernel)) (fun _ _ _ _=>dI) (fun _ _ _ _=>dh (qF (K:=K) rfl hu1) (pvL 0) (pvC 1) (by kernel_rfl))) (ae))))),?_⟩
  by_cases hs:∃ z,x=.str z
  ·obtain⟨z,rfl⟩:=hs
   cases ht
   have hl:=hz z rfl
   ac_nf
   refine⟨trivial,Tg.str,rfl,?_⟩
   ac_nf
   refine⟨aP (aj hl),?_⟩
   have hl2:z.cps.toList.length<=100000:=by rw[←dg];exact hl
   by_cases hn:(z.length:Int)=n
   ·rw[if_neg (by simp [hn])]
    refine um (fun c:Nat=>V.str ⟨#[c]⟩) vC (wk z) (aj hl2) (fun c=>.bl (decide (c∈al.cps.toList))) ?_ ?_
    ·intro c hc H2 s2 R hR
     ac_nf
     rw[zk]
     exact hR H2 (aw.refl _)
    ·intro D H2 hD s2 h2
     refine⟨D,z.cps.toList.map fun c=>decide (c∈al.cps.toList),rfl,.of (by rw[h2,List.map_map];rfl),?_⟩
     have e:(z.cps.toList.map fun c=>decide (c∈al.cps.toList)).all id=cV al n (.str z):=by
      show _=Mk.b8 al.cps.toList n z.cps.toList
      unfold Mk.b8
      rw[aq (by rw[←dg];exact hn),dA,List.all_map];rfl
     rw[e]
     exact k H2 s2
   ·rw[if_pos (by simp [hn])]
    have e:cV al n (.str z)=false:=by
     show Mk.b8 al.cps.toList n z.cps.toList=false
     unfold Mk.b8
     rw[decide_eq_false (by rw[←dg];exact hn),fW]
    rw[e] at k
    exact k H (aw.refl _)
  ·have hv:cV al n x=false:=by
    cases x with
    | str z=>exact absurd ⟨z,rfl⟩ hs
    | _=>rfl
   have hne:=pF ht fun z e=>hs ⟨z,e⟩
   rw[hv] at k
   ac_nf
   refine⟨trivial,t,ht,?_⟩
   cases t<;>first
    | exact absurd rfl hne
    | exact k H (aw.refl _)
def iU:Sp:=fun vs H Q _=>∃ al w:Str,vs=[.str al,.str w]/\w.length<=100000/\(∀ c∈w.cps.toList,c∈al.cps.toList)/\∀ p H',H p=none->aw H H'->H' p=some (.lst ((Mk.plc al.cps.toList w.cps.toList).map V.int))->Q (.ref p) H'
theorem wg:aG ["alphabet","word"] ["alphabet","word"] (ar mj):=by subst_eqs
theorem vT (F:Fun K "places_of" "places_of" mj f fd) (T:Bl mg) (AF:AdF K mg Ad) :bJ P w K mg base (CX1 P w) 1 f fd ["alphabet","word"] iU:=by
 refine F.okX (k:=0) wg ?_ ?_
 ·bv_decide
 ·bv_normalize
  obtain⟨al,z,rfl,hl,hm,k⟩:=h
  refine⟨_,ai (aF (gS ["letter"] rfl ⟨rfl,by decide +kernel,rfl,by decide +kernel⟩ (.cons (j:=0) rfl (.inl (by kernel_rfl)) (.nil)) (by decide +kernel) (ck (K:=K) rfl (pvL 1)) (fun _ _ _ _=>aL (i:=0) (show (["letter","alphabet"]:List Str).Nodup from by decide +kernel)) (fun _ _ _ _=>dI) (fun _ _ _ _=>dq (K:=K) rfl fO PySem.F.slot_str_index PySem.F.type_str_index uS (pvC 1) (ag (pvL 0) (ae))))),?_⟩
  ac_nf
  have hl2:z.cps.toList.length<=100000:=by rw[←dg];exact hl
  refine um (fun c:Nat=>V.str ⟨#[c]⟩) vC (wk z) (aj hl2) (fun c=>.int ((al.cps.toList.idxOf c:Nat):Int)) ?_ ?_
  ·intro c hc H2 s2 R hR
   ac_nf
   rw[xc (hm c hc)]
   exact⟨rfl,Int.natCast_nonneg _,hR H2 (aw.refl _)⟩
  ·intro D H2 hD s2 h2
   refine k D H2 hD s2 ?_
   rw[h2]
   unfold Mk.plc
   rw[List.map_map]
   rfl
def ox:Sp:=fun vs H Q _=>∃ (al:Str) (q:Addr) (ps:List Int),vs=[.str al,.ref q]/\al.length<=1000/\H q=some (.lst (ps.map V.int))/\ps.length<=1000/\(∀ p∈ps,0<=p/\p<al.cps.toList.length)/\∀ H',aw H H'->Q (.str (tx (Mk.bA al.cps.toList ps))) H'
theorem zU:aG ["alphabet","places"] ["alphabet","places"] (ar qN):=by subst_eqs
theorem z9 (F:Fun K "spelled" "spelled" qN f fd) (T:Bl mg) (AF:AdF K mg Ad) :bJ P w K mg base (CX1 P w) 1 f fd ["alphabet","places"] ox:=by
 refine F.okX (k:=0) zU ?_ ?_
 ·bv_decide
 ·bv_normalize
  obtain⟨al,q,ps,rfl,hal,hq,hl,hm,k⟩:=h
  refine⟨_,ai (aF (dq (K:=K) rfl fO pX pZ (oK (K:=K) rfl) (aM) (ag (gS ["place"] rfl ⟨rfl,by decide +kernel,rfl,by decide +kernel⟩ (.cons (j:=0) rfl (.inl (by kernel_rfl)) (.nil)) (by decide +kernel) (ck (K:=K) rfl (pvL 1)) (fun _ _ _ _=>aL (i:=0) (show (["place","alphabet"]:List Str).Nodup from by decide +kernel)) (fun _ _ _ _=>dI) (fun _ _ _ _=>bP (cS (K:=K) rfl) (pvC 1) (pvL 0) (fun _ _=>rfl))) (ae)))),?_⟩
  ac_nf
  refine⟨by rfl,.inl ⟨⟨_,.of hq⟩,um V.int iO (eJ (.of hq)) (aj (by omega)) (fun x=>.str (tx [al.cps.toList.getD x.toNat 0])) ?_ ?_⟩⟩
  ·intro x hx H5 t5 R hR
   ac_nf
   refine⟨aP (aj (by omega)),_,cC (hm x hx).1 (Mk.getD_at (hm x hx)),?_⟩
   exact hR H5 (aw.refl _)
  ·intro D H5 hD t5 h5
   ac_nf
   refine⟨(Mk.bA al.cps.toList ps).map fun c=>tx [c],E8 (by rw[h5];unfold Mk.bA;rw[List.map_map];rfl),E7 (by rw[Mk.gk];omega),?_⟩
   rw[AO]
   exact k H5 t5
def mq:Sp:=fun vs H Q _=>∃ (m:Int) (p:Addr) (ws:List Int) (r:Int) (q:Addr) (ps:List Int),vs=[.int m,.ref p,.int r,.ref q]/\0<m/\H p=some (.lst (ws.map V.int))/\H q=some (.lst (ps.map V.int))/\ws.length<=100000 ∧
 Mk.sml ws/\Mk.sml ps/\∀ H',aw H H'->Q (.bl (Mk.good m ws r ps)) H'
theorem rg:aG ["m","weights","rest","places","total"] ["m","weights","rest","places"] (ar nT):=by subst_eqs
theorem xu (F:Fun K "are_good" "are_good" nT f fd) (T:Bl mg) (AF:AdF K mg Ad) :bJ P w K mg base (CX1 P w) 1 f fd ["m","weights","rest","places"] mq:=by
 refine F.okX (k:=0) rg ?_ ?_
 ·bv_decide
 ·bv_normalize
  obtain⟨m,p,ws,r,q,ps,rfl,hm,hp,hq,hl,hb,hb2,k⟩:=h
  refine⟨_,af (aA (i:=4) rg.nd (au (uA (K:=K) rfl rfl) T.sum DN (ag (gS ["weight","place"] rfl ⟨rfl,by decide +kernel,rfl,by decide +kernel⟩ (.nil) (by decide +kernel) (AY (K:=K) rfl T.zip (ag (pvL 1) (ag (pvL 3) (ae)))) (fun _ _ _ _=>oS (K:=K) (n:=2) rfl rfl (fH (aL (i:=0) (show (["weight","place"]:List Str).Nodup from by decide +kernel)) (fH (aL (i:=1) (show (["weight","place"]:List Str).Nodup from by decide +kernel)) (oT)))) (fun _ _ _ _=>dI) (fun _ _ _ _=>ax kP (pvL 0) (pvL 1))) (ae)))) (ai (aF (dh (cD (K:=K) rfl hu) (ax bV (ax gv (pvL 4) (pvL 2)) (pvL 0)) (ao) (aQ _)))),?_⟩
  ac_nf
  refine⟨⟨_,.of hp⟩,⟨_,.of hq⟩,KU V.int V.int iO iO (.of hp) (.of hq) (aj hl) (fun a b=>.int (a*b)) ?_ ?_⟩
  ·intro a b hab H2 s2 R hR
   ac_nf
   exact⟨yJ (hb a (mS hab).1) (hb2 b (mS hab).2),hR H2 (aw.refl _)⟩
  ·intro D H2 hD s2 h2
   ac_nf
   refine⟨D,(ws.zip ps).map fun x=>x.1*x.2,rfl,.of (by rw[h2,List.map_map];rfl),?_⟩
   rw[Mk.AB]
   ac_nf
   exact⟨hm,k H2 s2⟩
def h9 (Ad:Ads):Sp:=fun vs H Q _=>∃ (a:Addr) (al:List Nat) (ws:List Int) (r:Int),vs=[.ref a]/\cx Ad H a al ws r/\Q (.str (tx al)) H
theorem qP:aG ["self"] ["self"] (ar iI):=by subst_eqs
theorem qC (F:Fun K "alphabet" "Code.alphabet" iI f fd) (T:Bl mg) (AF:AdF K mg Ad) :bJ P w K mg base (CX1 P w) 1 f fd ["self"] (h9 Ad):=by
 refine F.okX (k:=0) qP ?_ ?_
 ·bv_decide
 ·bv_normalize
  obtain⟨a,al,ws,r,rfl,⟨dx,q,h1,h2⟩,k⟩:=h
  refine⟨_,ai (aF (cj (K:=K) rfl (pvL 0))),?_⟩
  ac_nf
  exact⟨_,dx,_,_,h1,AF.c_Code,AF.n_Code_letters,dG al q r,k⟩
def iK (Ad:Ads):Sp:=fun vs H Q _=>∃ (a:Addr) (al:List Nat) (ws:List Int) (r:Int),vs=[.ref a]/\cx Ad H a al ws r/\nw H (.lst (ws.map V.int)) Q
theorem rM:aG ["self"] ["self"] (ar jf):=by subst_eqs
theorem rJ (F:Fun K "weights" "Code.weights" jf f fd) (T:Bl mg) (AF:AdF K mg Ad) :bJ P w K mg base (CX1 P w) 1 f fd ["self"] (iK Ad):=by
 refine F.okX (k:=0) rM ?_ ?_
 ·bv_decide
 ·bv_normalize
  obtain⟨a,al,ws,r,rfl,⟨dx,q,h1,h2⟩,k⟩:=h
  refine⟨_,ai (aF (ei (gW (K:=K) rfl rfl) T.list j6 (ag (cj (K:=K) rfl (pvL 0)) (ae)))),?_⟩
  ac_nf
  exact⟨_,dx,_,_,h1,AF.c_Code,AF.n_Code_factors,fG al q r,_,.inl (.l h2),k⟩
def fz (Ad:Ads):Sp:=fun vs H Q _=>∃ (a:Addr) (al:List Nat) (ws:List Int) (r:Int),vs=[.ref a]/\cx Ad H a al ws r/\al.length<=26/\1<=ws.length/\ws.length<=8/\∀ H',aw H H'->Q (.int ((al.length:Int)^(ws.length-1))) H'
theorem iR:aG ["self","product","weight"] ["self"] (ar lY):=by subst_eqs
theorem vL (F:Fun K "many" "Code.many" lY f fd) (T:Bl mg) (AF:AdF K mg Ad) :bJ P w K mg base (CX1 P w) 1 f fd ["self"] (fz Ad):=by
 refine F.okX (k:=0) iR ?_ ?_
 ·bv_decide
 ·bv_normalize
  obtain⟨a,al,ws,r,rfl,⟨dx,q,h1,h2⟩,h26,hw1,hw8,k⟩:=h
  refine⟨_,af (aA (i:=1) iR.nd (ao)) (af (eQ cf rfl (ck (K:=K) rfl (cG (iu (K:=K) rfl) (cj (K:=K) rfl (pvL 0)) (di (ao)) (dJ))) (aL (i:=2) iR.nd) (ai (aA (i:=1) iR.nd (ax kP (pvL 1) (au (aH (K:=K) rfl) T.len b9 (ag (cj (K:=K) rfl (pvL 0)) (ae))))))) (ai (aF (pvL 1)))),?_⟩
  and_intros
  rw[dm]
  and_intros
  rw[dm]
  and_intros
  refine⟨_,dx,_,_,h1,AF.c_Code,AF.n_Code_factors,fG al q r,?_⟩
  and_intros
  refine⟨_,.of h2,fun p H1 hp s1 h3=>.inl ⟨⟨_,.of h3⟩,?_⟩⟩
  rw[show (1:Int)=((1:Nat):Int) from rfl,eO,←fM] at h3
  refine rS (xs:=(ws.drop 1).map V.int) (fun i σ H'=>H'=H1/\∃ o,σ=[some (.ref a),some (.int ((al.length:Int)^i)),o]) ?_ ?_ ?_ ?_
  ·exact⟨rfl,none,by simp⟩
  ·rintro i σ H' _ ⟨rfl,_⟩
   exact .of h3
  ·rintro i x σ H' hx ⟨rfl,o,rfl⟩
   have hi:i<ws.length-1:=by
    have:=(bf.mp hx).1
    rw[List.length_map,bK] at this
    exact this
   ac_nf
   refine⟨_,dx,_,_,s1 _ _ h1,AF.c_Code,AF.n_Code_letters,dG al q r,?_⟩
   ac_nf
   rw[bj]
   refine⟨aP (aj (by omega)),⟨?_,bB (show ((al.length:Int)).natAbs<1000 by omega) (by decide)⟩,trivial,some x,?_⟩
   ·have e:(((al.length:Int))^i).natAbs=al.length^i:=by rw[Int.natAbs_pow];rfl
    rw[e]
    refine cI (pV h26 i) (cI (jr (by decide) (show i<=8 by omega)) (by decide))
   ·rw[←Int.pow_succ]
  ·rintro σ H' ⟨rfl,o,rfl⟩
   rw[List.length_map,bK]
   ac_nf
   exact k _ s1
def mx:Sp:=fun vs H Q _=>∃ (m:Nat) (q:Addr) (ps:List Int),vs=[.int m,.ref q]/\H q=some (.lst (ps.map V.int))/\m<=26/\ps.length<=8/\∀ D vs' H',H D=none->aw H H'->H' D=some (.lst vs')->ie H' vs' (uj m ps)->Q (.ref D) H'
theorem eV:aG ["m","places","made","at","place","other"] ["m","places"] (ar jO):=by subst_eqs
theorem sW (F:Fun K "by_exchange" "by_exchange" jO f fd) (T:Bl mg) (AF:AdF K mg Ad) :bJ P w K mg base (CX1 P w) 1 f fd ["m","places"] mx:=by
 refine F.okX (k:=0) eV ?_ ?_
 ·bv_decide
 ·bv_normalize
  obtain⟨m,q,ps,rfl,hq,m26,p8,k⟩:=h
  refine⟨_,af (aA (i:=2) eV.nd (bR (ae))) (af (eQ cf rfl (tE (K:=K) rfl T.enumerate (ag (pvL 1) (ae))) (oS (K:=K) (n:=2) rfl rfl (fH (aL (i:=3) eV.nd) (fH (aL (i:=4) eV.nd) (oT)))) (ai (eQ cf rfl (eU T.range (ag (pvL 0) (ae))) (aL (i:=5) eV.nd) (ai (bH (aN (fB (K:=K) rfl hu) (pvL 5) (pvL 4) (aQ _)) (ai (dM (dq (K:=K) rfl eM fP fQ dO (pvL 2) (ag (ax aC (ax aC (cG (iu (K:=K) rfl) (pvL 1) (dJ) (di (pvL 3))) (bR (ag (pvL 5) (ae)))) (cG (iu (K:=K) rfl) (pvL 1) (di (ax aC (pvL 3) (ao))) (dJ))) (ae))))) (aU)))))) (ai (aF (pvL 2)))),?_⟩
  grind
  refine⟨aT _,fun D H1 hD s1 h1=>?_⟩
  cbv
  have hD0:H D=none:=hD
  grind
  refine⟨q,rfl,⟨_,.of (s1 _ _ hq)⟩,?_⟩
  refine uJ (xs:=ps.map V.int) (fun i σ H'=>(∃ o3 o4 o5,σ=[some (V.int m),some (V.ref q),some (V.ref D),o3,o4,o5])/\aw H H'/\∃ vs',H' D=some (.lst vs')/\vs'.length<=26*i/\(∀ v∈vs',v≠V.ref D)/\ie H' vs' ((List.range i).flatMap (exI m ps))) ?_ ?_ ?_ ?_
  ·exact⟨⟨_,_,_,rfl⟩,s1,[],h1,aT _,(fun v hv=>by cases hv),.nil⟩
  ·rintro i σ H' _ ⟨_,s,_⟩
   exact .of (s _ _ hq)
  ·rintro i x σ A1 hx ⟨⟨o3,o4,o5,rfl⟩,sA,vs2,h2,l2,hd2,hv2⟩ N hNx p A2 zp t0 g0
   clear hN
   obtain⟨w,hwi,rfl⟩:=xn hx
   have hi1:i<ps.length:=(bf.mp hwi).1
   refine⟨p,_,rfl,.of g0,rfl,?_⟩
   have h2':=t0 _ _ h2
   have hv2':=hv2.keep fun b ns e=>t0 _ _ e
   have sA':=sA.trans t0
   clear h2 hv2 g0 zp t0 sA
   rw[kz,List.flatMap_append,List.flatMap_singleton] at hNx
   have ew:ps.getD i 0=w:=by rw[List.getD_eq_getElem?_getD,hwi];rfl
   generalize (List.range i).flatMap (exI m ps)=base at hv2' hNx
   and_intros
   refine⟨by omega,by omega,lR (fun j σ H'=>(∃ o5,σ=[some (V.int m),some (V.ref q),some (V.ref D),some (V.int (i:Int)),some (V.int w),o5])/\aw H H'/\∃ vs',H' D=some (.lst vs')/\vs'.length<=26*i+j/\(∀ v∈vs',v≠V.ref D)/\ie H' vs' (base++((Mk.ofN j).filter fun o=>!decide (o=ps.getD i 0)).map fun o=>putN ps i o)) ?_ ?_ ?_⟩
   ·exact⟨⟨_,rfl⟩,sA',vs2,h2',l2,hd2,by show ie _ _ (base++[]);rw[fb];exact hv2'⟩
   ·rintro j σ H3 hj ⟨⟨o5,rfl⟩,s3,vs3,h3,l3,hd3,hv3⟩ N2 hN2
    clear hNx
    have hj':j<m:=by omega
    rw[ET,fL,List.map_append,←df] at hN2
    have hq3:=s3 _ _ hq
    have tl:(ps.take i).length<=8:=aK (by rw[bw];exact mV _ _) p8
    have dl:(ps.drop (i+1)).length<=8:=by rw[bK];omega
    and_intros
    rw[show 0+(j:Int)=(j:Int) from km _]
    by_cases he:(j:Int)=w
    ·rw[aq he]
     bv_omega
     refine hN2 _ _ ⟨⟨_,rfl⟩,s3,vs3,h3,by omega,hd3,?_⟩
     rw[mG (by rw[ew,aq he];decide),List.filter_nil,i9,fb]
     exact hv3
    ·rw[decide_eq_false he]
     bv_omega
     refine⟨.inl ⟨rfl,_,.of h3⟩,_,.of hq3,fun p1 G1 w1 t1 g1=>⟨aP (aj (by decide)),fun p2 G2 w2 t2 g2=>⟨_,_,t2 _ _ g1,g2,?_,fun p3 G3 w3 t3 g3=>⟨_,.of ((t1.trans (t2.trans t3)) _ _ hq3),fun p4 G4 w4 t4 g4=>⟨_,_,t4 _ _ g3,g4,?_,fun p5 G5 w5 t5 g5=>?_⟩⟩⟩⟩⟩
     ·rw[kI,←iA,List.length_map]
      exact aP (aj (by simp;omega))
     ·rw[kI,show (i:Int)+1=((i+1:Nat):Int) from rfl,eO,←iA,←fM,List.length_append,List.length_map,List.length_map]
      exact aP (aj (by simp;omega))
     have t35:=t1.trans (t2.trans (t3.trans (t4.trans t5)))
     have h35:=t35 _ _ h3
     rw[kI,show (i:Int)+1=((i+1:Nat):Int) from rfl,eO,←iA,←fM,show [V.int (j:Int)]=[(j:Int)].map V.int from rfl,←List.map_append,←List.map_append] at g5
     have n5:p5≠D:=bc (t4 _ _ (t3 _ _ (t2 _ _ (t1 _ _ h3)))) w5 |>.symm
     rw[mH (by rw[ew,decide_eq_false he];rfl),List.filter_nil,kx] at hN2
     refine⟨D,_,_,rfl,rfl,h35,aj (by omega),hN2 _ _ ⟨⟨_,rfl⟩,(s3.trans t35).bZ hD0,_,a8,by rw[List.length_append,c8];omega,fun v hv=>?_,ip (ie.uO hv3 hd3 fun b o hb e=>by rw[aD hb];exact t35 _ _ e) (.cons ⟨p5,rfl,by rw[aD n5];exact g5⟩ .nil)⟩⟩
     rcases bz.mp hv with hv | hv
     ·exact hd3 v hv
     ·rw[aV.mp hv]
      exact fun z=>n5 (by cases z;rfl)
   ·rintro σ H3 ⟨⟨o5,rfl⟩,s3,vs3,h3,l3,hd3,hv3⟩
    exact hNx _ _ ⟨⟨_,_,_,rfl⟩,s3,vs3,h3,by omega,hd3,hv3⟩
  ·rintro σ H2 ⟨⟨o3,o4,o5,rfl⟩,s2,vs2,h2,l2,hd2,hv2⟩
   show nn _ _ _
   cbv
   and_intros
   rw[List.length_map] at hv2
   exact k D vs2 H2 hD0 s2 h2 hv2
def tU:Sp:=fun vs H Q _=>∃ (q:Addr) (ps:List Int),vs=[.ref q]/\H q=some (.lst (ps.map V.int))/\ps.length<=8/\1<=ps.length/\∀ D vs' H',H D=none->aw H H'->H' D=some (.lst vs')->ie H' vs' (yk ps)->Q (.ref D) H'
theorem oq:aG ["places","made","at"] ["places"] (ar qJ):=by subst_eqs
theorem zz (F:Fun K "by_swap" "by_swap" qJ f fd) (T:Bl mg) (AF:AdF K mg Ad) :bJ P w K mg base (CX1 P w) 1 f fd ["places"] tU:=by
 refine F.okX (k:=0) oq ?_ ?_
 ·bv_decide
 ·bv_normalize
  obtain⟨q,ps,rfl,hq,p8,p1,k⟩:=h
  refine⟨_,af (aA (i:=1) oq.nd (bR (ae))) (af (eQ cf rfl (eU T.range (ag (ax gv (au (aH (K:=K) rfl) T.len b9 (ag (pvL 0) (ae))) (ao)) (ae))) (aL (i:=2) oq.nd) (ai (bH (aN (fB (K:=K) rfl hu) (bP (cS (K:=K) rfl) (pvL 0) (pvL 2) (fun _ _=>rfl)) (bP (cS (K:=K) rfl) (pvL 0) (ax aC (pvL 2) (ao)) (fun _ _=>rfl)) (aQ _)) (ai (dM (dq (K:=K) rfl eM fP fQ dO (pvL 1) (ag (ax aC (ax aC (cG (iu (K:=K) rfl) (pvL 0) (dJ) (di (pvL 2))) (bR (ag (bP (cS (K:=K) rfl) (pvL 0) (ax aC (pvL 2) (ao)) (fun _ _=>rfl)) (ag (bP (cS (K:=K) rfl) (pvL 0) (pvL 2) (fun _ _=>rfl)) (ae))))) (cG (iu (K:=K) rfl) (pvL 0) (di (ax aC (pvL 2) (ao))) (dJ))) (ae))))) (aU)))) (ai (aF (pvL 1)))),?_⟩
  grind
  refine⟨aT _,fun D H1 hD s1 h1=>?_⟩
  cbv
  have hD0:H D=none:=hD
  grind
  refine⟨_,.inl (.of (s1 _ _ hq)),?_⟩
  rw[List.length_map]
  refine⟨by omega,by omega,lR (fun i σ H'=>(∃ o2,σ=[some (V.ref q),some (V.ref D),o2])/\aw H H'/\∃ vs',H' D=some (.lst vs')/\vs'.length<=i/\(∀ v∈vs',v≠V.ref D)/\ie H' vs' (((List.range i).filter fun i=>!decide (ps.getD i 0=ps.getD (i+1) 0)).map (Ib ps))) ?_ ?_ ?_⟩
  ·exact⟨⟨_,rfl⟩,s1,[],h1,aT _,(fun v hv=>by cases hv),.nil⟩
  ·rintro i σ H3 hi ⟨⟨o2,rfl⟩,s3,vs3,h3,l3,hd3,hv3⟩ N hNx
   clear hN
   have hi':i+1<ps.length:=by omega
   have hq3:=s3 _ _ hq
   rw[kz,fL,List.map_append] at hNx
   have x0:(ps.map V.int)[i]?=some (V.int (ps.getD i 0)):=by rw[aJ,getD_some (by omega)];rfl
   have x1:(ps.map V.int)[i+1]?=some (V.int (ps.getD (i+1) 0)):=by rw[aJ,getD_some (by omega)];rfl
   and_intros
   rw[show 0+(i:Int)=(i:Int) from km _]
   have a0:atI (ps.map V.int) (i:Int)=some (V.int (ps.getD i 0)):=cC (by omega) (by rw[da];exact x0)
   have a1:atI (ps.map V.int) ((i:Int)+1)=some (V.int (ps.getD (i+1) 0)):=cC (by omega) (by rw[show ((i:Int)+1).toNat=i+1 by omega];exact x1)
   refine⟨_,_,.inl (.of hq3),a0,_,_,.inl (.of hq3),a1,?_⟩
   and_intros
   by_cases he:ps.getD i 0=ps.getD (i+1) 0
   ·rw[aq he]
    bv_omega
    refine hNx _ _ ⟨⟨_,rfl⟩,s3,vs3,h3,by omega,hd3,?_⟩
    rw[mG (by rw[aq he];decide),List.filter_nil,i9,fb]
    exact hv3
   ·rw[decide_eq_false he]
    bv_omega
    have tl:(ps.take i).length<=8:=aK (by rw[bw];exact mV _ _) p8
    have dl:(ps.drop (i+2)).length<=8:=by rw[bK];omega
    refine⟨.inl ⟨rfl,_,.of h3⟩,_,.of hq3,fun p1 G1 w1 t1 g1=>⟨_,_,.inl (.of (t1 _ _ hq3)),a1,_,_,.inl (.of (t1 _ _ hq3)),a0,aP (aj (by decide)),fun p2 G2 w2 t2 g2=>⟨_,_,t2 _ _ g1,g2,?_,fun p3 G3 w3 t3 g3=>⟨_,.of ((t1.trans (t2.trans t3)) _ _ hq3),fun p4 G4 w4 t4 g4=>⟨_,_,t4 _ _ g3,g4,?_,fun p5 G5 w5 t5 g5=>?_⟩⟩⟩⟩⟩
    ·rw[kI,←iA,List.length_map]
     exact aP (aj (by simp;omega))
    ·rw[kI,show (i:Int)+2=((i+2:Nat):Int) from rfl,eO,←iA,←fM,List.length_append,List.length_map,List.length_map]
     exact aP (aj (by simp;omega))
    have t35:=t1.trans (t2.trans (t3.trans (t4.trans t5)))
    have h35:=t35 _ _ h3
    rw[kI,show (i:Int)+2=((i+2:Nat):Int) from rfl,eO,←iA,←fM,show [V.int (ps.getD (i+1) 0),V.int (ps.getD i 0)]=[ps.getD (i+1) 0,ps.getD i 0].map V.int from rfl,←List.map_append,←List.map_append] at g5
    have n5:p5≠D:=bc (t4 _ _ (t3 _ _ (t2 _ _ (t1 _ _ h3)))) w5 |>.symm
    rw[mH (by rw[decide_eq_false he];rfl),List.filter_nil,kx] at hNx
    refine⟨D,_,_,rfl,rfl,h35,aj (by omega),hNx _ _ ⟨⟨_,rfl⟩,(s3.trans t35).bZ hD0,_,a8,by rw[List.length_append,c8];omega,fun v hv=>?_,ip (ie.uO hv3 hd3 fun b o hb e=>by rw[aD hb];exact t35 _ _ e) (.cons ⟨p5,rfl,by rw[aD n5];exact g5⟩ .nil)⟩⟩
    rcases bz.mp hv with hv | hv
    ·exact hd3 v hv
    ·rw[aV.mp hv]
     exact fun z=>n5 (by cases z;rfl)
  ·rintro σ H3 ⟨⟨o2,rfl⟩,s3,vs3,h3,l3,hd3,hv3⟩
   show nn _ _ _
   cbv
   and_intros
   rw[show (((ps.length:Nat):Int)-1).toNat=ps.length-1 by omega] at hv3
   exact k D vs3 H3 hD0 s3 h3 hv3
def pD:Sp:=fun vs H Q _=>∃ (a b:Addr) (ws:List V) (xss:List (List V)) (at_:Nat) (cs:List Int),vs=[.ref a,.int at_,.ref b]/\H a=some (.lst ws)/\jW H ws xss/\H b=some (.lst (cs.map V.int))/\cs.length<=26/\xss.length<=1000/\(∀ ns∈xss,ns.length<=1400)/\at_<=1400/\∀ D vs' H',H D=none->aw H H'->H' D=some (.lst vs')->jW H' vs' (xss.flatMap fun ns=>cs.map fun c=>n9 ns at_ (V.int c))->Q (.ref D) H'
theorem iS:aG ["lists","at","choices","made","numbers","choice"] ["lists","at","choices"] (ar ml):=by subst_eqs
theorem vU (F:Fun K "with_each" "with_each" ml f fd) (T:Bl mg) (AF:AdF K mg Ad) :bJ P w K mg base (CX1 P w) 1 f fd ["lists","at","choices"] pD:=by
 refine F.okX (k:=0) iS ?_ ?_
 ·bv_decide
 ·bv_normalize
  obtain⟨a,b,ws,xss,at_,cs,rfl,ha,hn,hb,c26,n1,n8,t8,k⟩:=h
  refine⟨_,af (aA (i:=3) iS.nd (bR (ae))) (af (eQ cf rfl (ck (K:=K) rfl (pvL 0)) (aL (i:=4) iS.nd) (ai (eQ cf rfl (ck (K:=K) rfl (pvL 2)) (aL (i:=5) iS.nd) (ai (dM (dq (K:=K) rfl eM fP fQ dO (pvL 3) (ag (ax aC (ax aC (cG (iu (K:=K) rfl) (pvL 4) (dJ) (di (pvL 1))) (bR (ag (pvL 5) (ae)))) (cG (iu (K:=K) rfl) (pvL 4) (di (ax aC (pvL 1) (ao))) (dJ))) (ae)))))))) (ai (aF (pvL 3)))),?_⟩
  have lw:ws.length=xss.length:=Paired.length hn
  grind
  refine⟨aT _,fun D H1 hD s1 h1=>?_⟩
  cbv
  have hD0:H D=none:=hD
  grind
  refine .inl ⟨⟨_,.of (s1 _ _ ha)⟩,ka (xs:=ws) (fun i σ H'=>(∃ o4 o5,σ=[some (V.ref a),some (V.int at_),some (V.ref b),some (V.ref D),o4,o5])/\aw H H'/\∃ vs',H' D=some (.lst vs')/\(∀ v∈vs',v≠V.ref D)/\jW H' vs' ((xss.take i).flatMap fun ns=>cs.map fun c=>n9 ns at_ (V.int c))) ?_ ?_ ?_ ?_⟩
  ·exact⟨⟨_,_,rfl⟩,s1,[],h1,(fun v hv=>by cases hv),.nil⟩
  ·rintro i σ H' hi ⟨_,h,_⟩
   exact .of (h _ _ ha)
  ·rintro i v σ H2 hi ⟨⟨o4,o5,rfl⟩,s2,vs2,h2,hd2,hv2⟩ N hNx
   clear hN
   obtain⟨ns,hns,q,rfl,hq⟩:=nt hn hi
   have hq2:=s2 _ _ hq
   have nsl:=n8 ns (bG hns)
   have hi1:i<ws.length:=(bf.mp hi).1
   have htk:xss.take (i+1)=xss.take i++[ns]:=by rw[iC,hns];rfl
   rw[htk,List.flatMap_append,List.flatMap_singleton] at hNx
   have lv2:vs2.length<=26000:=by
    rw[Paired.length hv2]
    refine aK (xh (m:=26) fun x _=>by rw[List.length_map];exact c26) ?_
    have:(xss.take i).length<=1000:=aK (by rw[bw];exact mV _ _) n1
    omega
   generalize ((xss.take i).flatMap fun ns=>cs.map fun c=>n9 ns at_ (V.int c))=base at hv2 hNx
   and_intros
   refine .inl ⟨⟨_,.of (s2 _ _ hb)⟩,ka (xs:=cs.map V.int) (fun j σ H'=>(∃ o5,σ=[some (V.ref a),some (V.int at_),some (V.ref b),some (V.ref D),some (V.ref q),o5])/\aw H H'/\∃ vs',H' D=some (.lst vs')/\vs'.length=vs2.length+j/\(∀ v∈vs',v≠V.ref D)/\jW H' vs' (base++(cs.take j).map fun c=>n9 ns at_ (V.int c))) ?_ ?_ ?_ ?_⟩
   ·exact⟨⟨_,rfl⟩,s2,vs2,h2,rfl,hd2,by simpa using hv2⟩
   ·rintro j σ H' hj ⟨_,h,_⟩
    exact .of (h _ _ hb)
   ·rintro j v σ H3 hj ⟨⟨o5,rfl⟩,s3,vs3,h3,l3,hd3,hv3⟩ N2 hN2
    clear hNx
    rw[aJ] at hj
    obtain⟨c,hc,rfl⟩:=dB.mp hj
    have hjl:j<cs.length:=(bf.mp hc).1
    have htk2:cs.take (j+1)=cs.take j++[c]:=by rw[iC,hc];rfl
    rw[htk2,List.map_append,←df] at hN2
    have hq3:=s3 _ _ hq
    have hvl:vs3.length<=30000:=by omega
    have tl:(ns.take at_).length<=1400:=aK (by rw[bw];exact mV _ _) nsl
    have dl:(ns.drop (at_+1)).length<=1400:=by rw[bK];omega
    and_intros
    refine⟨.inl ⟨rfl,_,.of h3⟩,_,.of hq3,fun p1 G1 w1 t1 g1=>⟨aP (aj (by decide)),fun p2 G2 w2 t2 g2=>⟨_,_,t2 _ _ g1,g2,?_,fun p3 G3 w3 t3 g3=>⟨_,.of ((t1.trans (t2.trans t3)) _ _ hq3),fun p4 G4 w4 t4 g4=>⟨_,_,t4 _ _ g3,g4,?_,fun p5 G5 w5 t5 g5=>?_⟩⟩⟩⟩⟩
    ·rw[kI]
     exact aP (aj (by simp;omega))
    ·rw[kI,show (at_:Int)+1=((at_+1:Nat):Int) from rfl,eO,List.length_append]
     exact aP (aj (by simp;omega))
    have t35:=t1.trans (t2.trans (t3.trans (t4.trans t5)))
    have h35:=t35 _ _ h3
    rw[kI,show (at_:Int)+1=((at_+1:Nat):Int) from rfl,eO] at g5
    have n5:p5≠D:=bc (t4 _ _ (t3 _ _ (t2 _ _ (t1 _ _ h3)))) w5 |>.symm
    refine⟨D,_,_,rfl,rfl,h35,aj (by omega),hN2 _ _ ⟨⟨_,rfl⟩,(s3.trans t35).bZ hD0,_,a8,by rw[List.length_append,c8];omega,fun v hv=>?_,ip (jW.uO hv3 hd3 fun b o hb e=>by rw[aD hb];exact t35 _ _ e) (.cons ⟨p5,rfl,by rw[aD n5];exact g5⟩ .nil)⟩⟩
    rcases bz.mp hv with hv | hv
    ·exact hd3 v hv
    ·rw[aV.mp hv]
     exact fun z=>n5 (by cases z;rfl)
   ·rintro σ H3 ⟨⟨o5,rfl⟩,s3,vs3,h3,l3,hd3,hv3⟩
    rw[List.length_map,mU] at hv3
    exact hNx _ _ ⟨⟨_,_,rfl⟩,s3,vs3,h3,hd3,hv3⟩
  ·rintro σ H2 ⟨⟨o4,o5,rfl⟩,s2,vs2,h2,hd2,hv2⟩
   show nn _ _ _
   cbv
   and_intros
   rw[fh (by omega)] at hv2
   exact k D vs2 H2 hD0 s2 h2 hv2
def jj:Sp:=fun vs H Q _=>∃ (x:V) (t:Tg) (n:Nat),vs=[x,.int n]/\eG H x=some t/\(∀ z,x=.str z->z.length<=100000)/\n<=1000/\∀ H',aw H H'->Q (.bl (hV n x)) H'
theorem tN:aG ["thing","most"] ["thing","most"] (ar jM):=by subst_eqs
theorem sU (F:Fun K "are_letters" "are_letters" jM f fd) (T:Bl mg) (AF:AdF K mg Ad) :bJ P w K mg base (CX1 P w) 1 f fd ["thing","most"] jj:=by
 refine F.okX (k:=0) tN ?_ ?_
 ·bv_decide
 ·bv_normalize
  obtain⟨x,t,n,rfl,ht,hz,hn,k⟩:=h
  refine⟨_,af (bH ((gT (cF (cq (au (eN .str) T.isinstance bt_isinstance (ag (pvL 0) (ag (jJ T.str sj) (ae)))))) (fF (cF (oV iH iH (ao) (au (aH (K:=K) rfl) T.len b9 (ag (pvL 0) (ae))) (pvL 1))))).pt) (ai (aF (kh))) (aU)) (ai (aF (au (gU (K:=K) rfl rfl) T.all nH (ag (gS ["sign"] rfl ⟨rfl,by decide +kernel,rfl,by decide +kernel⟩ (.nil) (by decide +kernel) (ck (K:=K) rfl (pvL 0)) (fun _ _ _ _=>aL (i:=0) (show (["sign"]:List Str).Nodup from by decide +kernel)) (fun _ _ _ _=>dI) (fun _ _ _ _=>dh (qF (K:=K) rfl hu1) (pvL 0) (eI AF.v_SMALL_LETTERS) (by kernel_rfl))) (ae))))),?_⟩
  by_cases hs:∃ z,x=.str z
  ·obtain⟨z,rfl⟩:=hs
   cases ht
   have hl:=hz z rfl
   have hc:=dg z
   have ek:hV n (.str z)=dF n z.cps.toList:=rfl
   ac_nf
   refine⟨trivial,Tg.str,rfl,?_⟩
   ac_nf
   refine⟨aP (aj (by omega)),?_⟩
   by_cases h1:1<=z.length
   ·rw[aq (show (1:Int)<=(z.length:Int) by omega)]
    bv_omega
    by_cases h2:z.length<=n
    ·rw[aq (show (z.length:Int)<=(n:Int) by omega)]
     bv_omega
     refine um (fun c:Nat=>V.str ⟨#[c]⟩) vC (wk z) (aj (by omega)) (fun c=>.bl (decide (97<=c/\c<123))) ?_ ?_
     ·intro c hc H2 s2 R hR
      ac_nf
      rw[zk,uw]
      have e2:decide (c∈List.range' 97 26)=decide (97<=c/\c<123):=decide_eq_decide.mpr (by rw[List.mem_range'_1])
      rw[e2]
      exact hR H2 (aw.refl _)
     ·intro D H2 hD s2 h2'
      refine⟨D,z.cps.toList.map fun c=>decide (97<=c/\c<123),rfl,.of (by rw[h2',List.map_map];rfl),?_⟩
      have e:(z.cps.toList.map fun c=>decide (97<=c/\c<123)).all id=hV n (.str z):=by
       rw[ek]
       unfold dF
       rw[aq (show 1<=z.cps.toList.length by omega),aq (show z.cps.toList.length<=n by omega),List.all_map];rfl
      rw[e]
      exact k H2 s2
    ·have e:hV n (.str z)=false:=by rw[ek];unfold dF;rw[decide_eq_false (show ¬ z.cps.toList.length<=n by omega)];simp
     rw[e] at k
     rw[decide_eq_false (show ¬ (z.length:Int)<=(n:Int) by omega)]
     bv_omega
     exact k H (aw.refl _)
   ·have e:hV n (.str z)=false:=by rw[ek];unfold dF;rw[decide_eq_false (show ¬ 1<=z.cps.toList.length by omega)];simp
    rw[e] at k
    rw[decide_eq_false (show ¬ (1:Int)<=(z.length:Int) by omega)]
    bv_omega
    exact k H (aw.refl _)
  ·have hv:hV n x=false:=by
    cases x with
    | str z=>exact absurd ⟨z,rfl⟩ hs
    | _=>rfl
   have hne:=pF ht fun z e=>hs ⟨z,e⟩
   rw[hv] at k
   ac_nf
   refine⟨trivial,t,ht,?_⟩
   cases t<;>first
    | exact absurd rfl hne
    | exact k H (aw.refl _)
def p9:Sp:=fun vs H Q _=>∃ (t:Addr) (key:List Key) (s:SSt),vs=[.ref t,.int s.1.length,.str (tx s.2)]/\H t=some (.tup (key.map kV))/\jI key/\sh s/\∀ H',aw H H'->Q (.bl (stepK key s).isSome) H'
theorem we:aG ["entry","many","spelling"] ["entry","many","spelling"] (ar md):=by subst_eqs
theorem vO (F:Fun K "can_stand" "can_stand" md f fd) (T:Bl mg) (AF:AdF K mg Ad) :bJ P w K mg base (CX1 P w) 1 f fd ["entry","many","spelling"] p9:=by
 refine F.okX (k:=0) we ?_ ?_
 ·bv_decide
 ·bv_normalize
  obtain⟨t,key,s,rfl,ht,ok,say,k⟩:=h
  refine⟨_,af (bH (aN (cD (K:=K) rfl hu) (bP (cS (K:=K) rfl) (pvL 0) (ao) (fun _ _=>rfl)) (aM) (aQ _)) (ai (aF (nQ (dh (cD (K:=K) rfl hu) (pvL 2) (aM) (aQ _)) (lU (dh iH (ax aC (pvL 1) (au (aH (K:=K) rfl) T.len b9 (ag (dq (K:=K) rfl fO pY qa oM (bP (cS (K:=K) rfl) (pvL 0) (ao) (fun _ _=>rfl)) (ag (aM) (ae))) (ae)))) (eI AF.v_MOST_WORDS) (aQ _)))))) (aU)) (af (bH (aN (cD (K:=K) rfl hu) (bP (cS (K:=K) rfl) (pvL 0) (ao) (fun _ _=>rfl)) (aM) (aQ _)) (ai (aF (nQ (dh vV (pvL 1) (eI AF.v_MOST_WORDS) (aQ _)) (lU (dh iH (ax aC (au (aH (K:=K) rfl) T.len b9 (ag (pvL 2) (ae))) (au (aH (K:=K) rfl) T.len b9 (ag (bP (cS (K:=K) rfl) (pvL 0) (ao) (fun _ _=>rfl)) (ae)))) (eI AF.v_LONGEST_WORD) (aQ _)))))) (aU)) (ai (aF (dh (fB (K:=K) rfl hu) (pvL 2) (aM) (aQ _))))),?_⟩
  have big:∀ {u:Nat},u<=10000->u<=sizeLine:=fun hu=>aP (aj (by omega))
  have l2:=say.len
  have few:=say.few
  have e0:Str.ofString ""=tx []:=rfl
  have de:decide (tx s.2=Str.ofString "")=decide (s.2=[]):=by rw[e0,ub]
  rcases ig ok with ⟨l,rfl,hl⟩ | ⟨l,rfl,hl⟩ | rfl
  ·have ht':H t=some (.tup [.str ("phrase":Str),.str (tx l)]):=ht
   have hs:l.length<=10000:=by
    have:=ok.short (tx l) (by simp [kV])
    rwa [bj] at this
   obtain⟨w6,_⟩:=Al hl
   grind
   refine⟨_,_,.inr (.of ht'),cC (by decide) rfl,?_⟩
   and_intros
   rw[if_pos (by rfl),de]
   rw[eY] at k
   by_cases h2:s.2=[]
   ·rw[if_pos (aq h2)]
    refine⟨_,_,.inr (.of ht'),cC (by decide) rfl,rfl,?_⟩
    and_intros
    refine⟨by rw[bj];omega,32,rfl,fun p H1 hp s1 h1=>?_⟩
    rw[bo] at h1
    and_intros
    refine⟨_,.inl (.of h1),?_⟩
    rw[List.length_map]
    and_intros
    have e:(some (s.1++Mk.aY 32 l,([]:List Nat))).isSome=true:=rfl
    by_cases hc:s.1.length+(Mk.aY 32 l).length<=60
    ·rw[if_pos ⟨h2,hc⟩] at k
     rw[aq (show (s.1.length:Int)+((Mk.aY 32 l).length:Int)<=60 by omega)]
     exact k H1 s1
    ·rw[if_neg (fun z=>hc z.2)] at k
     rw[decide_eq_false (show ¬ (s.1.length:Int)+((Mk.aY 32 l).length:Int)<=60 by omega)]
     exact k H1 s1
   ·rw[if_neg (by rw[decide_eq_false h2];decide)]
    rw[if_neg (fun z=>h2 z.1)] at k
    exact k H (aw.refl _)
  ·have ht':H t=some (.tup [.str ("part":Str),.str (tx l)]):=ht
   obtain⟨w1,w6,_⟩:=qy hl
   grind
   refine⟨_,_,.inr (.of ht'),cC (by decide) rfl,?_⟩
   and_intros
   rw[if_neg (by decide)]
   show nn _ _ _
   cbv
   grind
   refine⟨_,_,.inr (.of ht'),cC (by decide) rfl,?_⟩
   and_intros
   rw[if_pos (by rfl)]
   rw[iX] at k
   by_cases h1:s.1.length<60
   ·rw[if_pos (aq (by omega))]
    rw[bj]
    refine⟨big (by omega),_,_,.inr (.of ht'),cC (by decide) rfl,?_⟩
    and_intros
    rw[bj]
    refine⟨big (by omega),?_⟩
    by_cases hc:s.2.length+l.length<=20
    ·rw[if_pos ⟨h1,hc⟩] at k
     rw[aq (show (s.2.length:Int)+(l.length:Int)<=20 by omega)]
     exact k H (aw.refl _)
    ·rw[if_neg (fun z=>hc z.2)] at k
     rw[decide_eq_false (show ¬ (s.2.length:Int)+(l.length:Int)<=20 by omega)]
     exact k H (aw.refl _)
   ·rw[if_neg (by rw[decide_eq_false (by omega)];decide)]
    rw[if_neg (fun z=>h1 z.1)] at k
    exact k H (aw.refl _)
  ·have ht':H t=some (.tup [.str ("end":Str)]):=ht
   grind
   refine⟨_,_,.inr (.of ht'),cC (by decide) rfl,?_⟩
   and_intros
   rw[if_neg (by decide)]
   show nn _ _ _
   cbv
   grind
   refine⟨_,_,.inr (.of ht'),cC (by decide) rfl,?_⟩
   and_intros
   rw[if_neg (by decide)]
   show nn _ _ _
   cbv
   and_intros
   rw[de]
   rw[ki] at k
   by_cases h2:s.2=[]
   ·rw[if_pos h2] at k
    rw[aq h2]
    exact k H (aw.refl _)
   ·rw[if_neg h2] at k
    rw[decide_eq_false h2]
    exact k H (aw.refl _)
def lq (Ad:Ads):Sp:=fun vs H Q _=>∃ (b dx ca:Addr),vs=[.ref b,.ref ca]/\H b=some (.ins Ad.Book dx [])/\∀ dn de H',H dn=none->H de=none->dn≠de->dn≠b->de≠b->(∀ c u,c≠b->H c=some u->H' c=some u)->H' b=some (.ins Ad.Book dx (si ca dn de))->H' dn=some (.dK [])->H' de=some (.dT [])->Q .non H'
theorem wc:aG ["self","code"] ["self","code"] (ar gh):=by subst_eqs
theorem vJ (F:Fun K "__init__" "Book.__init__" gh f fd) (T:Bl mg) (AF:AdF K mg Ad) :bJ P w K mg base (CX1 P w) 1 f fd ["self","code"] (lq Ad):=by
 refine F.okX (k:=0) wc ?_ ?_
 ·bv_decide
 ·bv_normalize
  obtain⟨b,dx,ca,rfl,hb,k⟩:=h
  refine⟨_,af (nv (K:=K) rfl (pvL 0) (pvL 1)) (af (nv (K:=K) rfl (pvL 0) (xK)) (ai (nv (K:=K) rfl (pvL 0) (CU)))),?_⟩
  ac_nf
  refine⟨_,_,_,hb,AF.c_Book,AF.n_Book_basis,by decide,fun p G1 z1 t1 g1=>?_⟩
  have np1:p≠b:=fun e=>by rw[e,a8] at z1;cases z1
  have hb1:=t1 b _ a8
  refine⟨_,_,_,hb1,AF.c_Book,AF.n_Book_by_number,cI (ak 1) (by decide),fun p2 G2 z2 t2 g2=>?_⟩
  have np2:p2≠b:=fun e=>by rw[e,a8] at z2;cases z2
  have hb2:=t2 b _ a8
  have k1:∀ c u,c≠b->H c=some u->G1 c=some u:=fun c u hc h=>t1 c u (by rw[aD hc];exact h)
  have k2:∀ c u,c≠b->G1 c=some u->G2 c=some u:=fun c u hc h=>t2 c u (by rw[aD hc];exact h)
  have ne:p≠p2:=fun e=>by rw[←e,aD np1,g1] at z2;cases z2
  refine⟨_,_,_,hb2,AF.c_Book,AF.n_Book_by_entry,cI (ak 2) (by decide),k p p2 _ ?_ ?_ ne np1 np2 (fun c u hc h=>by rw[aD hc];exact k2 c u hc (k1 c u hc h)) (by rw[a8];rfl) (by rw[aD np1];exact k2 _ _ np1 g1) (by rw[aD np2];exact g2)⟩
  ·cases e:H p with
   | none=>rfl
   | some o=>rw[aD np1,e] at z1;cases z1
  ·cases e:H p2 with
   | none=>rfl
   | some o=>rw[aD np2,k1 p2 o np2 e] at z2;cases z2
def eE (Ad:Ads):Sp:=fun vs H Q _=>∃ (b ca dn de:Addr) (es:List Ben),vs=[.ref b]/\eh Ad H b ca dn de es/\Q (.ref ca) H
theorem wb:aG ["self"] ["self"] (ar lX):=by subst_eqs
theorem vI (F:Fun K "code" "Book.code" lX f fd) (T:Bl mg) (AF:AdF K mg Ad) :bJ P w K mg base (CX1 P w) 1 f fd ["self"] (eE Ad):=by
 refine F.okX (k:=0) wb ?_ (fun cdv A outer s H vs Q E hr h=>?_)
 ·bv_decide
 ·obtain⟨b,ca,dn,de,es,rfl,B,k⟩:=h
  obtain⟨dx,h1⟩:=B.bk
  have hu:=hr.m8
  have hu1:=sF hr
  refine⟨_,ai (aF (cj (K:=K) rfl (pvL 0))),?_⟩
  ac_nf
  exact⟨_,dx,_,_,h1,AF.c_Book,AF.n_Book_basis,j5 ca dn de,k⟩
def gB (K:PySem.W.Frag):Sp:=fun vs H Q _=>∃ (a:Addr) (ns:List Int) (k:Int),vs=[.ref a,.int k]/\SqL K H a (ns.map V.int)/\0<=k/\Q (.int (ns.getD k.toNat 0)) H
theorem tQ:aG ["_law_script","_law_k"] ["_law_script","_law_k"] (ar jQ):=by subst_eqs
theorem sY (F:Fun K "_law_cell_at" "_law_cell_at" jQ f fd) (T:Bl mg) (AF:AdF K mg Ad) :bJ P w K mg base (CX1 P w) 1 f fd ["_law_script","_law_k"] (gB K):=by
 refine F.okX (k:=0) tQ ?_ ?_
 ·bv_decide
 ·bv_normalize
  obtain⟨a,ns,i,rfl,hS,hi,k⟩:=h
  refine⟨_,af (bH (aN vV (pvL 1) (au (aH (K:=K) rfl) T.len b9 (ag (pvL 0) (ae))) (aQ _)) (ai (aF (bP (cS (K:=K) rfl) (pvL 0) (pvL 1) (fun _ _=>rfl)))) (aU)) (ai (aF (ao))),?_⟩
  ac_nf
  refine⟨_,.inl hS,?_⟩
  rw[List.length_map]
  by_cases hlt:i<(ns.length:Int)
  ·rw[if_pos (aq hlt)]
   refine⟨_,.int (ns.getD i.toNat 0),.inl hS,?_,k⟩
   have e:(ns.map V.int)[i.toNat]?=some (.int (ns.getD i.toNat 0)):=by
    rw[aJ,List.getD_eq_getElem?_getD,List.getElem?_eq_getElem (by omega)];rfl
   have:=bY e
   rwa [pM hi] at this
  ·rw[if_neg (by rw[bC];exact hlt)]
   have e:ns.getD i.toNat 0=0:=by rw[List.getD_eq_getElem?_getD,gJ (by omega)];rfl
   rw[e] at k
   exact k
def gC:Sp:=fun vs H Q _=>∃ c:Int,vs=[.int c]/\Q (.int (CH c)) H
theorem pk:aG ["_law_cell","_law_many_here"] ["_law_cell"] (ar mh):=by subst_eqs
theorem vR (F:Fun K "_law_mixed" "_law_mixed" mh f fd) (T:Bl mg) (AF:AdF K mg Ad) :bJ P w K mg base (CX1 P w) 1 f fd ["_law_cell"] gC:=by
 refine F.okX (k:=0) pk ?_ ?_
 ·bv_decide
 ·bv_normalize
  obtain⟨c,rfl,k⟩:=h
  refine⟨_,af (aA (i:=1) pk.nd (ao)) (ai (aF (ax bV (ax aC (ax kP (ax bV (pvL 0) (ax rY (ao) (ao))) (pvL 1)) (ao)) (ax aC (ax rY (ao) (ao)) (ao))))),?_⟩
  ac_nf
  have h1:0<=c%10^60:=c4 _ (by decide)
  have h2:c%10^60<10^60:=cH _ (by decide)
  refine⟨⟨by decide,by decide,by decide⟩,by decide,⟨?_,by decide⟩,⟨by decide,by decide,by decide⟩,by decide,k⟩
  have e:(c%10^Int.toNat 60)=c%10^60:=rfl
  rw[e]
  have h3:(10:Int)^60<=((2^1000:Nat):Int):=by decide
  omega
def pA:Sp:=fun vs H Q _=>∃ n m:Int,vs=[.int n,.int m]/\0<=m/\Q (.bl (Mk.cop m n)) H
theorem pd:aG ["_law_number","_law_m"] ["_law_number","_law_m"] (ar me):=by subst_eqs
theorem vP (F:Fun K "_law_apart" "_law_apart" me f fd) (T:Bl mg) (AF:AdF K mg Ad) :bJ P w K mg base (CX1 P w) 1 f fd ["_law_number","_law_m"] pA:=by
 refine F.okX (k:=0) pd ?_ ?_
 ·bv_decide
 ·bv_normalize
  obtain⟨n,m,rfl,hm,k⟩:=h
  refine⟨_,af (tJ cf (aN (fB (K:=K) rfl hu) (pvL 1) (ao) (aQ _)) (ai (Km (i:=0) (j:=1) rfl pd.nd rfl rfl (by decide) rfl rfl (ag (pvL 1) (ag (ax bV (pvL 0) (pvL 1)) (ae))) rfl))) (ai (aF (dh (cD (K:=K) rfl hu) (au qo T.abs yD (ag (pvL 0) (ae))) (ao) (aQ _)))),?_⟩
  ac_nf
  refine wD (fun σ H'=>H'=H/\∃ (a b:Int),σ=[some (.int a),some (.int b)]/\0<=b/\Int.gcd a b=Int.gcd n m)
   (fun σ _=>match σ with | [_,some (.int b)]=>b.toNat | _=>0) ⟨rfl,n,m,rfl,hm,rfl⟩ ?_
  rintro σ H' ⟨rfl,a,b,rfl,hb,hg⟩
  ac_nf
  by_cases hb0:b=0
  ·subst hb0
   have e:decide ((a.natAbs:Int)=1)=Mk.cop m n:=by
    unfold Mk.cop
    rw[←hg,Int.gcd_zero]
    by_cases h:a.natAbs=1
    ·rw[aq h];exact aq (by omega)
    ·rw[decide_eq_false h];exact decide_eq_false (by omega)
   rw[←e] at k
   exact k
  ·have e:(!decide (b=0))=true:=by simp [hb0]
   rw[if_pos e]
   refine⟨_,fun _ _ h=>h,by omega,⟨rfl,b,a%b,rfl,c4 _ hb0,?_⟩,?_⟩
   ·rw[Mk.Er,hg]
   ·show (a%b).toNat<b.toNat
    have h1:a%b<b:=cH _ (by omega)
    have h2:0<=a%b:=c4 _ hb0
    omega
def rB:Sp:=fun vs H Q _=>∃ (p q:Addr) (al:List Nat) (ws:List Int) (r:Int),vs=[.ref p]/\Parts H p q al ws r/\1<=ws.length/\ws.length<=8/\al.length<=26/\∀ H',aw H H'->Q (.int (bL al ws)) H'
theorem jA:aG ["_law_parts","_law_many_here","_law_weight"] ["_law_parts"] (ar oh):=by subst_eqs
theorem xF (F:Fun K "_law_many" "_law_many" oh f fd) (T:Bl mg) (AF:AdF K mg Ad) :bJ P w K mg base (CX1 P w) 1 f fd ["_law_parts"] rB:=by
 refine F.okX (k:=0) jA ?_ ?_
 ·bv_decide
 ·bv_normalize
  obtain⟨p,q,al,ws,r,rfl,⟨h1,h2⟩,w1,w8,a26,k⟩:=h
  refine⟨_,af (aA (i:=1) jA.nd (ao)) (af (eQ cf rfl (ck (K:=K) rfl (cG (iu (K:=K) rfl) (bP (cS (K:=K) rfl) (pvL 0) (ao) (fun _ _=>rfl)) (di (ao)) (dJ))) (aL (i:=2) jA.nd) (ai (aA (i:=1) jA.nd (ax kP (pvL 1) (au (aH (K:=K) rfl) T.len b9 (ag (bP (cS (K:=K) rfl) (pvL 0) (ao) (fun _ _=>rfl)) (ae))))))) (ai (aF (pvL 1)))),?_⟩
  grind
  cbv
  grind
  refine⟨_,_,.l h1,bY (j:=1) rfl,_,.of h2,fun p1 H1 hp1 s1 g1=>?_⟩
  rw[show (1:Int)=((1:Nat):Int) from rfl,eO,←fM] at g1
  refine .inl ⟨⟨_,.of g1⟩,ka (xs:=(ws.drop 1).map V.int) (fun i σ G=>(∃ o2,σ=[some (V.ref p),some (V.int ((al.length:Int)^i)),o2])/\G=H1) ⟨⟨_,rfl⟩,rfl⟩ ?_ ?_ ?_⟩
  ·rintro i σ G _ ⟨_,rfl⟩
   exact .of g1
  ·rintro i v σ G hi ⟨⟨o2,rfl⟩,rfl⟩ N hNx
   clear hN
   have hil:=(bf.mp hi).1
   rw[List.length_map,bK] at hil
   and_intros
   refine⟨_,_,.l (s1 _ _ h1),bY (j:=0) rfl,?_⟩
   and_intros
   rw[bj]
   have hb:((al.length:Int)^i).natAbs<=26^8:=by
    have e1:((al.length:Int))^i=((al.length^i:Nat):Int):=by simp
    rw[e1,Int.natAbs_natCast]
    exact aK (pV a26 _) (jr (by decide) (by omega))
   refine⟨aP (aj (by omega)),⟨cI hb (by decide),bB (show ((al.length:Int)).natAbs<1000 by omega) (by decide)⟩,hNx _ _ ⟨⟨some v,by rw[Int.pow_succ]⟩,rfl⟩⟩
  ·rintro σ G ⟨⟨o2,rfl⟩,rfl⟩
   show nn _ _ _
   cbv
   and_intros
   rw[List.length_map,bK]
   exact k _ s1
def rC (K:PySem.W.Frag):Sp:=fun vs H Q _=>∃ (D g:Addr) (es:List Ben) (gs:List Int),vs=[.ref D,.ref g]/\yv H D es/\(∀ e∈es,jI e.key)/\H g=some (.lst (gs.map V.int))/\gs.length<=1000 ∧
 (∀ wd,lj ((gs.map V.int).map (kOf es))=.inr wd->∀ H',aw H H'->Q (.str (tx (Mk.dY 32 wd))) H')/\∀ n,lj ((gs.map V.int).map (kOf es))=.inl n->∀ H',aw H H'->Q .non H'
theorem dZ:aG ["_law_entries_here","_law_groups_here","_law_words","_law_spelled","_law_group_here","_law_entry"] ["_law_entries_here","_law_groups_here"] (ar oi):=by subst_eqs
theorem xG (F:Fun K "_law_said" "_law_said" oi f fd) (T:Bl mg) (AF:AdF K mg Ad) :bJ P w K mg base (CX1 P w) 1 f fd ["_law_entries_here","_law_groups_here"] (rC K):=by
 refine F.okX (k:=0) dZ ?_ ?_
 ·bv_decide
 ·bv_normalize
  obtain⟨D,g,es,gs,rfl,hE,hok,hg,gl,k1,k2⟩:=h
  refine⟨_,af (aA (i:=2) dZ.nd (bR (ae))) (af (aA (i:=3) dZ.nd (aM)) (af (eQ cf rfl (ck (K:=K) rfl (pvL 1)) (aL (i:=4) dZ.nd) (af (bH (aN (CP (K:=K) rfl hu1) (pvL 4) (pvL 0) (by kernel_rfl)) (ai (aF (fD))) (aU)) (af (aA (i:=5) dZ.nd (tD hu1 (pvL 0) (pvL 4))) (ai (bH (aN (cD (K:=K) rfl hu) (bP (cS (K:=K) rfl) (pvL 5) (ao) (fun _ _=>rfl)) (aM) (aQ _)) (af (aA (i:=3) dZ.nd (ax aC (pvL 3) (bP (cS (K:=K) rfl) (pvL 5) (ao) (fun _ _=>rfl)))) (ai (bH ((gT (aN qE (au (aH (K:=K) rfl) T.len b9 (ag (pvL 3) (ae))) (ao) (aQ _)) (fF (aN qE (au (aH (K:=K) rfl) T.len b9 (ag (pvL 2) (ae))) (ao) (aQ _)))).pt) (ai (aF (fD))) (aU)))) (ai (bH (aN (cD (K:=K) rfl hu) (bP (cS (K:=K) rfl) (pvL 5) (ao) (fun _ _=>rfl)) (aM) (aQ _)) (af (bH (aN (cD (K:=K) rfl hu) (pvL 3) (aM) (aQ _)) (ai (aF (fD))) (aU)) (af (dM (dq (K:=K) rfl eM fP fQ dO (pvL 2) (ag (pvL 3) (ae)))) (ai (aA (i:=3) dZ.nd (aM))))) (af (bH (aN (fB (K:=K) rfl hu) (pvL 3) (aM) (aQ _)) (ai (aF (fD))) (aU)) (af (aA (i:=2) dZ.nd (ax aC (pvL 2) (dq (K:=K) rfl fO pY qa oM (bP (cS (K:=K) rfl) (pvL 5) (ao) (fun _ _=>rfl)) (ag (aM) (ae))))) (ai (bH (aN qE (au (aH (K:=K) rfl) T.len b9 (ag (pvL 2) (ae))) (ao) (aQ _)) (ai (aF (fD))) (aU)))))))))))) (af (bH ((gT (aN (fB (K:=K) rfl hu) (pvL 3) (aM) (aQ _)) (fF (aN (cD (K:=K) rfl hu) (pvL 2) (bR (ae)) (aQ _)))).pt) (ai (aF (fD))) (aU)) (ai (aF (dq (K:=K) rfl fO pX pZ (oK (K:=K) rfl) (aM) (ag (pvL 2) (ae)))))))),?_⟩
  have big:∀ {u:Nat},u<=10000->u<=sizeLine:=fun hu=>aP (aj (by omega))
  generalize hks:(gs.map V.int).map (kOf es)=ks at k1 k2
  have kl:ks.length=gs.length:=by rw[←hks,List.length_map,List.length_map]
  grind
  refine⟨aT _,fun L0 H1 hL0 s1 h1=>?_⟩
  cbv
  grind
  cbv
  grind
  have hg1:=s1 _ _ hg
  refine .inl ⟨⟨_,.of hg1⟩,ka (xs:=gs.map V.int) (fun i σ G=>∃ (s:SSt) (L:Addr) (o4 o5:Option V),σ=[some (V.ref D),some (V.ref g),some (V.ref L),some (V.str (tx s.2)),o4,o5]/\aw H G/\H L=none/\G L=some (.lst (s.1.map fun w=>V.str (tx w)))/\sh s/\iQ ks ([],[]) 0=iQ (ks.drop i) s i) ?_ ?_ ?_ ?_⟩
  ·exact⟨([],[]),L0,_,_,rfl,s1,hL0,h1,Ls,rfl⟩
  ·rintro i σ G _ ⟨_,_,_,_,_,sG,_⟩
   exact .of (sG _ _ hg)
  ·rintro i v σ A1 hx ⟨s,L,o4,o5,rfl,sA,hL,hLA,say,hrs⟩ N hNx
   clear hN
   rw[aJ] at hx
   obtain⟨n,hn,rfl⟩:=dB.mp hx
   have hi':i<gs.length:=(bf.mp hn).1
   have hk:ks[i]?=some (kOf es (.int n)):=by rw[←hks,aJ,aJ,hn];rfl
   have hcut:iQ ks ([],[]) 0=iQ (kOf es (.int n)::ks.drop (i+1)) s i:=by
    rw[hrs,List.drop_eq_getElem_cons (by rw[kl];exact hi'),(bf.mp hk).2]
   have back:∀ G,aw H G->iQ ks ([],[]) 0=.inl i->Q .non G:=fun G sG hr=>k2 i (by unfold lj;rw[hr]) G sG
   have few:=say.few
   have len:=say.len
   have EA:=hE.same sA
   refine fY fun n2 hM=>?_
   and_intros
   refine .inr ⟨_,lH.kr (k:=.inl n) EA.d,?_⟩
   rw[ER EA.nn]
   by_cases hm:n∈es.map (·.num)
   ·obtain⟨u,hu,rfl⟩:=aE.mp hm
    rw[aq hm]
    bv_omega
    show n2 _ _ _
    rw[hM]
    clear hM n2
    rw[zq hE.nn hu] at hcut
    have eo:=hok u hu
    have hstep:∀ s',stepK u.key s=some s'->iQ ks ([],[]) 0=iQ (ks.drop (i+1)) s' (i+1):=fun s' hs=>by
     rw[hcut]
     show (match stepK u.key s with | none=>_ | some s'=>_)=_
     rw[hs]
    have hstop:stepK u.key s=none->iQ ks ([],[]) 0=.inl i:=fun hs=>by
     rw[hcut]
     show (match stepK u.key s with | none=>_ | some s'=>_)=_
     rw[hs]
    have htA:=EA.en u hu
    refine fY fun n2 hM=>?_
    and_intros
    refine⟨D,.ref u.adr,rfl,?_,?_⟩
    ·have:=lH.kr (k:=.inl u.num) EA.d
     rw[oN EA.nn hu] at this
     exact this
    rw[hM]
    clear hM n2
    rcases ig eo with ⟨l,ek,hl⟩ | ⟨l,ek,hl⟩ | ek
    ·rw[ek] at htA hstep hstop eo
     have ht':A1 u.adr=some (.tup [.str ("phrase":Str),.str (tx l)]):=htA
     rw[eY] at hstep hstop
     have hs:l.length<=10000:=by
      have:=eo.short (tx l) (by simp [kV])
      rwa [bj] at this
     and_intros
     refine⟨_,_,.inr (.of ht'),cC (by decide) rfl,?_⟩
     and_intros
     rw[if_neg (by decide)]
     refine⟨_,_,.inr (.of ht'),cC (by decide) rfl,?_⟩
     and_intros
     rw[if_neg (by decide)]
     refine fY fun n2 hM=>?_
     and_intros
     rw[show Str.ofString ""=tx [] from rfl,ub]
     by_cases hsp:s.2=[]
     ·rw[if_neg (by rw[aq hsp];decide)]
      show n2 _ _ _
      rw[hM]
      clear hM n2
      refine fY fun n2 hM=>?_
      and_intros
      refine⟨_,_,.inr (.of ht'),cC (by decide) rfl,rfl,?_⟩
      and_intros
      have wl:=Al hl
      refine⟨by rw[bj];omega,32,rfl,fun p4 G4 hp4 t4 g4=>?_⟩
      rw[bo] at g4
      refine⟨_,_,t4 _ _ hLA,g4,by rw[List.length_map,List.length_map];exact big (by omega),fun p5 G5 hp5 t5 g5=>?_⟩
      rw[←List.map_append] at g5
      have s5:=sA.trans (t4.trans t5)
      rw[hM]
      clear hM n2
      and_intros
      refine⟨_,.inl (.of g5),?_⟩
      rw[List.length_map,List.length_append]
      by_cases hc:s.1.length+(Mk.aY 32 l).length<=60
      ·rw[if_neg (by rw[decide_eq_false (show ¬ (60:Int)<((s.1.length+(Mk.aY 32 l).length:Nat):Int) by omega)];decide)]
       have hs2:(if s.2=[]/\s.1.length+(Mk.aY 32 l).length<=60 then some (s.1++Mk.aY 32 l,([]:List Nat)) else none)=some (s.1++Mk.aY 32 l,[]):=if_pos ⟨hsp,hc⟩
       have:=hstep _ hs2
       refine hNx _ _ ⟨(s.1++Mk.aY 32 l,[]),p5,_,_,by rw[hsp],s5,(sA.trans t4).free hp5,g5,say.step eo (by rw[eY];exact hs2),this⟩
      ·rw[if_pos (by rw[aq (show (60:Int)<((s.1.length+(Mk.aY 32 l).length:Nat):Int) by omega)])]
       and_intros
       exact back G5 s5 (hstop (if_neg fun z=>hc z.2))
     ·rw[if_pos (by rw[decide_eq_false hsp];rfl)]
      and_intros
      exact back A1 sA (hstop (if_neg fun z=>hsp z.1))
    ·rw[ek] at htA hstep hstop eo
     have ht':A1 u.adr=some (.tup [.str ("part":Str),.str (tx l)]):=htA
     rw[iX] at hstep hstop
     obtain⟨l1,l6,_⟩:=qy hl
     and_intros
     refine⟨_,_,.inr (.of ht'),cC (by decide) rfl,?_⟩
     and_intros
     rw[if_pos (by rfl)]
     refine fY fun n2 hM=>?_
     and_intros
     refine⟨_,_,.inr (.of ht'),cC (by decide) rfl,?_⟩
     and_intros
     rw[bj,bj,qS]
     refine⟨big (by omega),?_⟩
     rw[hM]
     clear hM n2
     and_intros
     rw[bj,List.length_append]
     refine⟨big (by omega),?_⟩
     by_cases h20:s.2.length+l.length<=20
     ·rw[if_neg (by rw[decide_eq_false (show ¬ (20:Int)<((s.2.length+l.length:Nat):Int) by omega)];decide)]
      refine⟨_,.inl (.of hLA),?_⟩
      rw[List.length_map]
      by_cases h60:s.1.length<60
      ·rw[if_neg (by rw[decide_eq_false (show ¬ (59:Int)<(s.1.length:Int) by omega)];decide)]
       have hs2:(if s.1.length<60/\s.2.length+l.length<=20 then some (s.1,s.2++l) else none)=some (s.1,s.2++l):=if_pos ⟨h60,h20⟩
       have:=hstep _ hs2
       exact hNx _ _ ⟨(s.1,s.2++l),L,_,_,rfl,sA,hL,hLA,say.step eo (by rw[iX];exact hs2),this⟩
      ·rw[if_pos (by rw[aq (show (59:Int)<(s.1.length:Int) by omega)])]
       and_intros
       exact back A1 sA (hstop (if_neg fun z=>h60 z.1))
     ·rw[if_pos (by rw[aq (show (20:Int)<((s.2.length+l.length:Nat):Int) by omega)])]
      and_intros
      exact back A1 sA (hstop (if_neg fun z=>h20 z.2))
    ·rw[ek] at htA hstep hstop eo
     have ht':A1 u.adr=some (.tup [.str ("end":Str)]):=htA
     rw[ki] at hstep hstop
     and_intros
     refine⟨_,_,.inr (.of ht'),cC (by decide) rfl,?_⟩
     and_intros
     rw[if_neg (by decide)]
     refine⟨_,_,.inr (.of ht'),cC (by decide) rfl,?_⟩
     and_intros
     rw[if_pos (by rfl)]
     refine fY fun n2 hM=>?_
     and_intros
     rw[show Str.ofString ""=tx [] from rfl,ub]
     by_cases hsp:s.2=[]
     ·rw[if_pos (by rw[aq hsp])]
      and_intros
      exact back A1 sA (hstop (if_pos hsp))
     ·rw[if_neg (by rw[decide_eq_false hsp];decide)]
      show n2 _ _ _
      rw[hM]
      clear hM n2
      refine fY fun n2 hM=>?_
      and_intros
      refine⟨.inl ⟨rfl,_,.of hLA⟩,L,_,_,rfl,rfl,hLA,by rw[List.length_map];exact aj (by omega),?_⟩
      rw[hM]
      clear hM n2
      and_intros
      have hs2:(if s.2=[] then none else some (s.1++[s.2],([]:List Nat)))=some (s.1++[s.2],[]):=if_neg hsp
      have:=hstep _ hs2
      refine hNx _ _ ⟨(s.1++[s.2],[]),L,_,_,rfl,sA.bZ hL,hL,?_,say.step eo (by rw[ki];exact hs2),this⟩
      rw[a8,List.map_append];rfl
   ·rw[decide_eq_false hm]
    and_intros
    exact back A1 sA (by rw[hcut,vF hm];rfl)
  rintro σ H2 ⟨s,L,o4,o5,rfl,s2,hL,h2,say,hrs⟩
  show nn _ _ _
  cbv
  have hfin:iQ ks ([],[]) 0=.inr s:=by
   rw[hrs,List.drop_eq_nil_of_le (by rw[List.length_map];omega)];rfl
  clear hrs
  obtain⟨wd,sp⟩:=s
  have few:wd.length<=60:=say.few
  have ended:¬ (sp=[]/\wd≠[])->∀ H',aw H2 H'->Q .non H':=fun hno H' sH=>k2 gs.length (by unfold lj;rw[hfin];show (if _ then _ else _)=_;rw[if_neg hno,kl]) H' (s2.trans sH)
  grind
  have e0:Str.ofString ""=tx []:=rfl
  rw[e0,ub]
  by_cases hsp:sp=[]
  ·subst hsp
   rw[if_neg (by decide)]
   refine⟨aT _,fun p3 H3 hp3 s3 h3=>⟨_,_,.of (s3 _ _ h2),.of h3,?_,rfl,?_⟩⟩
   ·rw[cw]
    intro x hx
    obtain⟨w,_,rfl⟩:=aE.mp hx
    rfl
   by_cases hwne:wd=[]
   ·subst hwne
    rw[if_pos (by rfl)]
    and_intros
    exact ended (fun z=>z.2 rfl) H3 s3
   obtain⟨j1,j2⟩:=AN (ws:=wd) few say.wds
   rw[if_neg (by
    cases wd with
    | nil=>exact absurd rfl hwne
    | cons _ _=>exact bE)]
   show nn _ _ _
   cbv
   and_intros
   have ejs:(wd.map fun w=>V.str (tx w))=(wd.map tx).map V.str:=by rw[List.map_map];rfl
   refine⟨rfl,wd.map tx,.of (by rw[s3 _ _ h2,ejs]),?_,?_⟩
   ·rw[List.map_map,List.length_map]
    have:(wd.map ((fun z:Str=>z.length) ∘ tx)).sum<=(wd.map fun w=>w.length+1).sum:=by
     have e:wd.map ((fun z:Str=>z.length) ∘ tx)=wd.map fun w=>w.length:=i8 fun w _=>bj w
     rw[e]
     clear e j1 j2 ejs h2 say hfin hwne few ended
     induction wd with
     | nil=>simp
     | cons w r ih=>simp only[aR,jq];omega
    have e1:(Str.ofString " ").length=1:=rfl
    rw[e1]
    omega
   ·rw[show (Str.ofString " ")=tx [32] from rfl,vf]
    exact k1 wd (by unfold lj;rw[hfin];exact if_pos ⟨rfl,hwne⟩) H3 (s2.trans s3)
  ·rw[if_pos (by rw[decide_eq_false hsp];rfl)]
   and_intros
   exact ended (fun z=>hsp z.1) H2 (aw.refl _)
def kdB (z:Str):List Key->Bool
 | .inr y::_=>decide (y=z)
 | _=>false
def pB (K:PySem.W.Frag):Sp:=fun vs H Q _=>∃ (D:Addr) (es:List Ben) (ob:Obj) (z:Str) (n:Int),vs=[.ref D,.str z,.int n]/\H D=some (.frz ob (.dK (gR es)))/\yv H D es/\(∀ e∈es,jI e.key)/\es.length<=14/\(∃ e∈es,kdB z e.key=true)/\∀ e∈es,kdB z e.key=true->∀ H',aw H H'->Q (.int e.num) H'
theorem pf:aG ["_law_entries_here","_law_sort","_law_number","_law_some"] ["_law_entries_here","_law_sort","_law_number"] (ar mf):=by subst_eqs
theorem vQ (F:Fun K "_law_group" "_law_group" mf f fd) (T:Bl mg) (AF:AdF K mg Ad) :bJ P w K mg base (CX1 P w) 1 f fd ["_law_entries_here","_law_sort","_law_number"] (pB K):=by
 refine F.okX (k:=0) pf ?_ ?_
 ·bv_decide
 ·bv_normalize
  obtain⟨D,es,ob,z,n,rfl,hD,hE,hok,el,hex,k⟩:=h
  refine⟨_,af (lW (i:=3) ["_law_one"] pf.nd rfl (Or.inl rfl) rfl ⟨rfl,by decide +kernel,rfl,by decide +kernel⟩ (.cons (j:=1) rfl (.inl (by kernel_rfl)) (.cons (j:=0) rfl (.inl (by kernel_rfl)) (.nil))) (by decide +kernel) (xO (pvC 0)) (fun _ _ _ _=>aL (i:=0) (show (["_law_one","_law_sort","_law_entries_here"]:List Str).Nodup from by decide +kernel)) (fun _ _ _ _=>kT (aN (cD (K:=K) rfl hu) (bP (cS (K:=K) rfl) (tD hu1 (pvC 2) (pvL 0)) (ao) (fun _ _=>rfl)) (pvC 1) (aQ _))) (fun _ _ _ _=>pvL 0)) (ai (aF (bP (cS (K:=K) rfl) (pvL 3) (ax bV (pvL 2) (au (aH (K:=K) rfl) T.len b9 (ag (pvL 3) (ae)))) (fun _ _=>rfl)))),?_⟩
  grind
  refine⟨D,_,rfl,.inr ⟨ob,hD,?_⟩⟩
  have eks:(gR es).map (fun kv=>kV kv.1)=es.map fun e=>V.int e.num:=by rw[rW,List.map_map];rfl
  have hsq:(Itk ob D (gR es)).Seq H (es.map fun e=>V.int e.num):=by rw[←eks];exact Dg hD
  have hlx:(es.map fun e=>V.int e.num).length=es.length:=List.length_map _
  have at0:∀ (i:Nat) v,(es.map fun e=>V.int e.num)[i]?=some v->∃ e,es[i]?=some e/\v=.int e.num:=fun i v hv=>by
   rw[aJ] at hv
   obtain⟨e,he,rfl⟩:=dB.mp hv
   exact⟨e,he,rfl⟩
  have kin:∀ e∈es,∃ y xs,e.key=.inr y::xs:=fun e he=>by
   rcases ig (hok e he) with ⟨l,ek,_⟩ | ⟨l,ek,_⟩ | ek<;>exact⟨_,_,ek⟩
  refine LW hsq (by rw[hlx];exact aj (by omega)) (fun i=>(es[i]?).any fun e=>kdB z e.key) (fun i=>((es[i]?).map fun e=>V.int e.num).getD .non) ?_ ?_ ?_
  ·intro i v hv G t R hR
   obtain⟨e,he,rfl⟩:=at0 i v hv
   obtain⟨y,xs,ek⟩:=kin e (bG he)
   have hg:=lH.kr (k:=.inl e.num) (hE.same t).d
   rw[oN hE.nn (bG he)] at hg
   have hk:=(hE.same t).en e (bG he)
   rw[ek] at hk
   have er:((es[i]?).any fun e=>kdB z e.key)=decide (y=z):=by
    rw[he]
    show kdB z e.key=_
    rw[ek];rfl
   rw[er] at hR
   and_intros
   refine⟨D,_,rfl,hg,?_⟩
   and_intros
   refine⟨_,_,.inr (.of hk),cC (by decide) rfl,?_⟩
   show CZ K (.str y) (.str z) G _
   and_intros
   exact hR G (aw.refl _)
  ·intro i v hv _ G t R hR
   obtain⟨e,he,rfl⟩:=at0 i v hv
   rw[he] at hR
   and_intros
   exact hR G (aw.refl _)
  intro D1 G1 hD1 t1 g1
  cbv
  rw[hlx,xS] at g1
  obtain⟨fl,hfl⟩:∃ fl:List Ben,es.filter (fun e=>kdB z e.key)=fl:=⟨_,rfl⟩
  rw[hfl] at g1
  have gfl:=g1
  have fl0:0<fl.length:=by
   obtain⟨e,he,hz⟩:=hex
   have:e∈fl:=by rw[←hfl];exact bW.mpr ⟨he,hz⟩
   exact List.length_pos_of_mem this
  have flm:∀ e∈fl,e∈es/\kdB z e.key=true:=fun e he=>by
   rw[←hfl] at he
   exact bW.mp he
  and_intros
  refine⟨_,.l gfl,?_⟩
  rw[List.length_map]
  obtain⟨j,hj⟩:=gE (c4 n (show (fl.length:Int)≠0 by omega))
  have hjl:j<fl.length:=by have:=cH n (show 0<(fl.length:Int) by omega);omega
  have hje:fl[j]?=some fl[j]:=List.getElem?_eq_getElem hjl
  refine⟨by omega,_,_,.l gfl,by rw[hj];exact bY (by rw[aJ,hje];rfl),?_⟩
  obtain⟨h1,h2⟩:=flm _ (bG hje)
  exact k _ h1 h2 G1 t1
def nB:Sp:=fun vs H Q _=>∃ (al z:List Nat) (n:Int),vs=[.str (tx al),.str (tx z),.int n]/\3<=al.length/\al.length<=26/\al.Nodup/\(∀ c∈z,c∈al)/\3<=z.length/\z.length<=8/\∀ z' H',aw H H'->nE al z z'->Q (.str (tx z')) H'
theorem fJ:aG ["_law_alphabet","_law_word_here","_law_number","_law_at","_law_turned","_law_step","_law_letter"] ["_law_alphabet","_law_word_here","_law_number"] (ar lg):=by subst_eqs
theorem uq (F:Fun K "_law_faulty" "_law_faulty" lg f fd) (T:Bl mg) (AF:AdF K mg Ad) :bJ P w K mg base (CX1 P w) 1 f fd ["_law_alphabet","_law_word_here","_law_number"] nB:=by
 refine F.okX (k:=0) fJ ?_ ?_
 ·bv_decide
 ·bv_normalize
  obtain⟨al,z,n,rfl,a3,a26,nd,hm,z3,z8,k⟩:=h
  refine⟨_,af (aA (i:=3) fJ.nd (ax bV (ax cB (pvL 2) (ao)) (au (aH (K:=K) rfl) T.len b9 (ag (pvL 1) (ae))))) (af (bH ((zJ (aN (cD (K:=K) rfl hu) (ax bV (pvL 2) (ao)) (ao) (aQ _)) (zJ (aN qE (pvL 3) (ao) (aQ _)) (Bd (aN (fB (K:=K) rfl hu) (bP (cS (K:=K) rfl) (pvL 1) (ax gv (pvL 3) (ao)) (fun _ _=>rfl)) (bP (cS (K:=K) rfl) (pvL 1) (pvL 3) (fun _ _=>rfl)) (aQ _))))).pt) (af (aA (i:=4) fJ.nd (ax aC (bP (cS (K:=K) rfl) (pvL 1) (pvL 3) (fun _ _=>rfl)) (bP (cS (K:=K) rfl) (pvL 1) (ax gv (pvL 3) (ao)) (fun _ _=>rfl)))) (ai (aF (ax aC (ax aC (cG (iu (K:=K) rfl) (pvL 1) (dJ) (di (ax gv (pvL 3) (ao)))) (pvL 4)) (cG (iu (K:=K) rfl) (pvL 1) (di (ax aC (pvL 3) (ao))) (dJ)))))) (aU)) (af (aA (i:=5) fJ.nd (ax aC (ao) (ax bV (ax cB (pvL 2) (ao)) (ax gv (au (aH (K:=K) rfl) T.len b9 (ag (pvL 0) (ae))) (ao))))) (af (aA (i:=6) fJ.nd (bP (cS (K:=K) rfl) (pvL 0) (ax bV (ax aC (dq (K:=K) rfl fO PySem.F.slot_str_index PySem.F.type_str_index uS (pvL 0) (ag (bP (cS (K:=K) rfl) (pvL 1) (pvL 3) (fun _ _=>rfl)) (ae))) (pvL 5)) (au (aH (K:=K) rfl) T.len b9 (ag (pvL 0) (ae)))) (fun _ _=>rfl))) (ai (aF (ax aC (ax aC (cG (iu (K:=K) rfl) (pvL 1) (dJ) (di (pvL 3))) (pvL 6)) (cG (iu (K:=K) rfl) (pvL 1) (di (ax aC (pvL 3) (ao))) (dJ)))))))),?_⟩
  have big:∀ {u:Nat},u<=1000->u<=sizeLine:=fun hu=>aP (aj (by omega))
  grind
  rw[bj]
  refine⟨⟨by decide,by decide⟩,big (by omega),by omega,?_⟩
  obtain⟨i,hi⟩:=gE (c4 (n/2) (show (z.length:Int)≠0 by omega))
  have hil:i<z.length:=by have:=cH (n/2) (show 0<(z.length:Int) by omega);omega
  rw[hi,hN]
  clear hN nn hi
  have c0:z[i]?=some (z.getD i 0):=by rw[List.getD_eq_getElem?_getD,List.getElem?_eq_getElem hil];rfl
  have cm:z.getD i 0∈al:=hm _ (bG c0)
  have l1:∀ c:Nat,([c]:List Nat).length=1:=fun _=>rfl
  have e1:(i:Int)+1=((i+1:Nat):Int):=rfl
  have lA:(z.take i).length=i:=by rw[bw];omega
  refine Ay (fun σ G=>σ=[some (V.str (tx al)),some (V.str (tx z)),some (V.int n),some (V.int i),none,none,none]/\G=H) ?_ ?_
  ·rintro σ G ⟨rfl,rfl⟩
   grind
   rw[bj]
   refine⟨⟨by decide,by decide⟩,big (by omega),by omega,?_⟩
   have f0:=c4 (n/100) (show (al.length:Int)-1≠0 by omega)
   have f1:=cH (n/100) (show 0<(al.length:Int)-1 by omega)
   generalize n/100%((al.length:Int)-1)=fu at f0 f1
   cbv
   grind
   have fo:Txt.find (tx al) ⟨#[z.getD i 0]⟩=((al.idxOf (z.getD i 0):Nat):Int):=by
    have:=xc (x:=tx al) (c:=z.getD i 0) (by rw[bo];exact cm)
    rwa [bo] at this
   have hb:∀ x:Int,0<=x%(al.length:Int)/\x%(al.length:Int)<al.length:=fun x=>⟨c4 _ (by omega),cH _ (by omega)⟩
   simp only[bj,bo]
   refine⟨by rfl,big (by omega),_,bY c0,?_⟩
   rw[fo]
   have ix:al.idxOf (z.getD i 0)<al.length:=mP cm
   have hb':=hb ((al.idxOf (z.getD i 0):Int)+(1+fu))
   have cne:al.getD (((al.idxOf (z.getD i 0):Int)+(1+fu))%(al.length:Int)).toNat 0≠z.getD i 0:=fun e=>by
    have hj:(((al.idxOf (z.getD i 0):Int)+(1+fu))%(al.length:Int)).toNat<al.length:=by omega
    have e1:al[(((al.idxOf (z.getD i 0):Int)+(1+fu))%(al.length:Int)).toNat]?=some (al.getD (((al.idxOf (z.getD i 0):Int)+(1+fu))%(al.length:Int)).toNat 0):=by
     rw[List.getD_eq_getElem?_getD (i:=(((al.idxOf (z.getD i 0):Int)+(1+fu))%(al.length:Int)).toNat),List.getElem?_eq_getElem hj];rfl
    rw[e] at e1
    have e2:al[al.idxOf (z.getD i 0)]?=some (z.getD i 0):=by
     rw[List.getElem?_eq_getElem ix];exact bu some (List.getElem_idxOf ix)
    have e3:=(List.getElem?_inj hj nd).mp (e1.trans e2.symm)
    by_cases h:(al.idxOf (z.getD i 0):Int)+(1+fu)<al.length
    ·rw[mC (by omega) h] at e3;omega
    ·have e4:((al.idxOf (z.getD i 0):Int)+(1+fu))%(al.length:Int)=(al.idxOf (z.getD i 0):Int)+(1+fu)-al.length:=by
      rw[←Int.sub_emod_right,mC (by omega) (by omega)]
     rw[e4] at e3;omega
   refine⟨by omega,big (by omega),by omega,big (by omega),_,cC hb'.1 (Mk.getD_at hb'),?_⟩
   have cal:al.getD (((al.idxOf (z.getD i 0):Int)+(1+fu))%(al.length:Int)).toNat 0∈al:=Mk.getD_mem hb'
   generalize al.getD (((al.idxOf (z.getD i 0):Int)+(1+fu))%(al.length:Int)).toNat 0=c at cne cal
   cbv
   and_intros
   simp only[bj,bo,e1,uC,uB]
   refine⟨big (by omega),?_⟩
   simp only[FF,qS,bj,List.length_append,l1,lA,bK]
   exact⟨big (by omega),big (by omega),big (by omega),k _ _ (aw.refl _) (.inl ⟨i,c,hil,cal,cne,rfl⟩)⟩
  ·intro U hU
   and_intros
   refine⟨by decide,?_⟩
   have hU0:=hU _ _ ⟨rfl,rfl⟩
   cases decide (n%2=1) with
   | false=>rw[if_neg (by decide)];exact hU0
   | true =>
    rw[if_pos rfl]
    by_cases i0:0<i
    ·rw[aq (show (0:Int)<(i:Int) by omega),if_pos rfl]
     obtain⟨m,rfl⟩:∃ m,i=m+1:=⟨i-1,by omega⟩
     have em:((m+1:Nat):Int)-1=(m:Int):=by omega
     have cp:z[m]?=some (z.getD m 0):=by rw[List.getD_eq_getElem?_getD,List.getElem?_eq_getElem (by omega)];rfl
     rw[em,bj,bo]
     refine⟨big (by omega),_,bY cp,big (by omega),_,bY c0,?_⟩
     by_cases hne:z.getD m 0=z.getD (m+1) 0
     ·rw[if_neg (by rw[hne];simp)];exact hU0
     ·rw[if_pos (by
       have:¬ ({ cps:=#[z.getD m 0] }:Str)={ cps:=#[z.getD (m+1) 0] }:=fun e=>hne (by
        have:=bu (fun x:Str=>x.cps.toList) e
        simpa using this)
       rw[decide_eq_false this];rfl)]
      grind
      rw[em,bj,bo]
      have l1':({ cps:=#[z.getD (m+1) 0] }:Str).length+({ cps:=#[z.getD m 0] }:Str).length<=sizeLine:=(show (2:Nat)<=sizeLine from big (by decide))
      refine⟨big (by omega),_,bY c0,big (by omega),_,bY cp,l1',?_⟩
      cbv
      and_intros
      rw[em]
      have e2:((m+1:Nat):Int)+1=((m+2:Nat):Int):=by omega
      have lB:(z.take m).length=m:=by rw[bw];omega
      simp only[bj,bo,e2,uC,uB]
      simp only[FF,qS,bj,List.length_append,l1,lB,bK]
      exact⟨big (by omega),big (by omega),big (by omega),big (by omega),k _ _ (aw.refl _) (.inr ⟨m,hil,hne,rfl⟩)⟩
    ·rw[decide_eq_false (show ¬ (0:Int)<(i:Int) by omega),if_neg (by decide)]
     exact hU0
def rq:Sp:=fun vs H Q _=>∃ (p:Addr) (ws:List Int) (m:Int),vs=[.ref p,.int m]/\H p=some (.lst (ws.map V.int))/\ws.length<=1000/\∀ H',aw H H'->Q (.bl (Mk.safe m ws)) H'
theorem rh:aG ["weights","m","differences"] ["weights","m"] (ar nU):=by subst_eqs
theorem xv (F:Fun K "are_safe" "are_safe" nU f fd) (T:Bl mg) (AF:AdF K mg Ad) (C_common_divisor:Fnc P w K mg base (CX1 P w) 1 "common_divisor" ["one","other"] jD):bJ P w K mg base (CX1 P w) 2 f fd ["weights","m"] rq:=by
 refine F.okX (k:=1) rh ?_ ?_
 ·bv_decide
 ·bv_normalize
  obtain⟨p,ws,m,rfl,hp,hl,k⟩:=h
  refine⟨_,af (lW (i:=2) ["ahead","behind"] rh.nd rfl (Or.inl rfl) rfl ⟨rfl,by decide +kernel,rfl,by decide +kernel⟩ (.nil) (by decide +kernel) (AY (K:=K) rfl T.zip (ag (pvL 0) (ag (cG (iu (K:=K) rfl) (pvL 0) (di (ao)) (dJ)) (ae)))) (fun _ _ _ _=>oS (K:=K) (n:=2) rfl rfl (fH (aL (i:=0) (show (["ahead","behind"]:List Str).Nodup from by decide +kernel)) (fH (aL (i:=1) (show (["ahead","behind"]:List Str).Nodup from by decide +kernel)) (oT)))) (fun _ _ _ _=>dI) (fun _ _ _ _=>ax gv (pvL 1) (pvL 0))) (ai (aF (au (gU (K:=K) rfl rfl) T.all nH (ag (gS ["number"] rfl ⟨rfl,by decide +kernel,rfl,by decide +kernel⟩ (.cons (j:=1) rfl (.inl (by kernel_rfl)) (.nil)) (by decide +kernel) (ck (K:=K) rfl (ax aC (pvL 0) (pvL 2))) (fun _ _ _ _=>aL (i:=0) (show (["number","m"]:List Str).Nodup from by decide +kernel)) (fun _ _ _ _=>dI) (fun _ _ _ _=>dh (cD (K:=K) rfl hu) (ay C_common_divisor eT (hr.mono (by decide)) (ag (pvL 0) (ag (pvC 1) (ae)))) (ao) (aQ _))) (ae))))),?_⟩
  ac_nf
  refine⟨_,.of hp,fun q H1 hq s1 h1=>?_⟩
  have hp1:H1 p=some (.lst (ws.map V.int)):=s1 _ _ hp
  have ec:lP (ws.map V.int) (some 1) none=(ws.drop 1).map V.int:=by rw[show (1:Int)=((1:Nat):Int) from rfl,eO,fM]
  rw[ec] at h1
  refine⟨⟨_,.of hp1⟩,⟨_,.of h1⟩,KU V.int V.int iO iO (.of hp1) (.of h1) (aj (by omega)) (fun a b=>.int (b-a)) ?_ ?_⟩
  ·intro a b hab H' s' R hR
   ac_nf
   exact hR H' (aw.refl _)
  ·intro D H2 hD s2 h2
   have e2:H2 D=some (.lst ((Mk.dif ws).map V.int)):=by rw[h2];unfold Mk.dif;rw[List.map_map];rfl
   have hp2:H2 p=some (.lst (ws.map V.int)):=s2 _ _ hp1
   have ldif:(Mk.dif ws).length<=1000:=by unfold Mk.dif;rw[List.length_map,List.length_zip];omega
   ac_nf
   refine⟨_,_,hp2,e2,?_,fun r H3 hr s3 h3=>.inl ⟨⟨_,.of h3⟩,?_⟩⟩
   ·rw[List.length_map,List.length_map];exact aP (aj (by omega))
   ·rw[←List.map_append] at h3
    refine um (xs:=ws++Mk.dif ws) V.int iO (eJ (.of h3)) (by rw[List.length_append];exact aj (by omega)) (fun n=>.bl (Mk.cop m n)) ?_ ?_
    ·intro n hn H' s' R hR
     ac_nf
     refine⟨n,m,rfl,?_⟩
     have e:decide (((Int.gcd n m:Nat):Int)=1)=Mk.cop m n:=by
      unfold Mk.cop
      by_cases h:Int.gcd n m=1
      ·rw[aq h];exact aq (by omega)
      ·rw[decide_eq_false h];exact decide_eq_false (by omega)
     show R (V.bl (decide (((Int.gcd n m:Nat):Int)=1))) H'
     rw[e]
     exact hR H' (aw.refl _)
    ·intro D' H4 hD' s4 h4
     refine⟨D',(ws++Mk.dif ws).map (Mk.cop m),rfl,.of (by rw[h4,List.map_map];rfl),?_⟩
     have ea:(((ws++Mk.dif ws).map (Mk.cop m)).all id)=Mk.safe m ws:=by unfold Mk.safe;rw[List.all_map];rfl
     rw[ea]
     exact k H4 (s1.trans (s2.trans (s3.trans s4)))
def cu (b:Int):V->Bool
 | .int i=>decide (0<=i)&&decide (i<b)
 | _=>false
def gj:Sp:=fun vs H Q _=>∃ (x:V) (t:Tg) (b:Int),vs=[x,.int b]/\eG H x=some t/\Q (.bl (cu b x)) H
theorem yb:aG ["thing","bound"] ["thing","bound"] (ar nX):=by subst_eqs
theorem xA (F:Fun K "is_below" "is_below" nX f fd) (T:Bl mg) (AF:AdF K mg Ad) (C_is_whole:Fnc P w K mg base (CX1 P w) 1 "is_whole" ["thing"] r6):bJ P w K mg base (CX1 P w) 2 f fd ["thing","bound"] gj:=by
 refine F.okX (k:=1) yb ?_ ?_
 ·bv_decide
 ·bv_normalize
  obtain⟨x,t,b,rfl,ht,k⟩:=h
  refine⟨_,ai (aF (nQ (ay C_is_whole av (hr.mono (by decide)) (ag (pvL 0) (ae))) (lU (Ff iH vV (ao) (pvL 0) (pvL 1))))),?_⟩
  by_cases hs:∃ i,x=.int i
  ·obtain⟨i,rfl⟩:=hs
   cases ht
   ac_nf
   refine⟨_,Tg.int,rfl,rfl,?_⟩
   ac_nf
   have ek:cu b (.int i)=(decide (0<=i)&&decide (i<b)):=rfl
   rw[ek] at k
   rw[if_pos (by simp)]
   cases h0:decide (0<=i) with
   | false=>rw[h0,fW] at k;bv_omega;exact k
   | true=>rw[h0,dA] at k;bv_omega;exact k
  ·have hv:cu b x=false:=by
    cases x with
    | int i=>exact absurd ⟨i,rfl⟩ hs
    | _=>rfl
   have hne:t≠Tg.int:=fun e=>by
    subst e
    cases x with
    | int i=>exact hs ⟨i,rfl⟩
    | ref a =>
     have h':kj (H a)=some .int:=ht
     cases e:H a with
     | none=>rw[e] at h';cases h'
     | some o=>rw[e] at h';cases o with
      | frz ob u=>cases u<;>cases h'
      | _=>cases h'
    | _=>cases ht
   rw[hv] at k
   ac_nf
   refine⟨x,t,rfl,ht,?_⟩
   ac_nf
   rw[decide_eq_false hne]
   bv_omega
   exact k
def hX (al:Str) (ws:List Int) (r:Int):V->Bool
 | .str z=>Mk.bU al.cps.toList ws r z.cps.toList
 | _=>false
def tV:Sp:=fun vs H Q _=>∃ (al:Str) (p:Addr) (ws:List Int) (r:Int) (x:V) (t:Tg),vs=[.str al,.ref p,.int r,x]/\H p=some (.lst (ws.map V.int))/\ws.length<=1000/\0<al.length/\al.length<=1000/\Mk.sml ws ∧
 eG H x=some t/\(∀ z,x=.str z->z.length<=100000)/\∀ H',aw H H'->Q (.bl (hX al ws r x)) H'
theorem zR:aG ["alphabet","weights","rest","word"] ["alphabet","weights","rest","word"] (ar qK):=by subst_eqs
theorem z5 (F:Fun K "is_good" "is_good" qK f fd) (T:Bl mg) (AF:AdF K mg Ad) (C_are_good:Fnc P w K mg base (CX1 P w) 1 "are_good" ["m","weights","rest","places"] mq) (C_places_of:Fnc P w K mg base (CX1 P w) 1 "places_of" ["alphabet","word"] iU) (C_is_word:Fnc P w K mg base (CX1 P w) 1 "is_word" ["alphabet","length","thing"] lx):bJ P w K mg base (CX1 P w) 2 f fd ["alphabet","weights","rest","word"] tV:=by
 refine F.okX (k:=1) zR ?_ ?_
 ·bv_decide
 ·bv_normalize
  obtain⟨al,p,ws,r,x,t,rfl,hp,hwl,ha0,ha,hsm,ht,hz,k⟩:=h
  refine⟨_,af (bH (cF (cq (ay C_is_word av (hr.mono (by decide)) (ag (pvL 0) (ag (au (aH (K:=K) rfl) T.len b9 (ag (pvL 1) (ae))) (ag (pvL 3) (ae))))))) (ai (aF (kh))) (aU)) (ai (aF (ay C_are_good av (hr.mono (by decide)) (ag (au (aH (K:=K) rfl) T.len b9 (ag (pvL 0) (ae))) (ag (pvL 1) (ag (pvL 2) (ag (ay C_places_of av (hr.mono (by decide)) (ag (pvL 0) (ag (pvL 3) (ae)))) (ae)))))))),?_⟩
  ac_nf
  refine⟨_,.l hp,?_⟩
  rw[List.length_map]
  refine⟨al,_,x,t,rfl,ht,hz,fun H1 s1=>?_⟩
  have h1p:H1 p=some (.lst (ws.map V.int)):=s1 _ _ hp
  ac_nf
  cases hw:cV al ws.length x with
  | false =>
   have e:hX al ws r x=false:=by
    cases x with
    | str z =>
     show (Mk.b8 al.cps.toList ws.length z.cps.toList&&_)=false
     rw[show Mk.b8 al.cps.toList ws.length z.cps.toList=false from hw,fW]
    | _=>rfl
   rw[e] at k
   exact k H1 s1
  | true =>
   cases x with
   | str z =>
    have hw':Mk.b8 al.cps.toList ws.length z.cps.toList=true:=hw
    obtain⟨hw1,hw2⟩:=Mk.cQ.mp hw'
    have hzl:z.cps.toList.length<=1000:=by omega
    bv_omega
    refine⟨aP (aj (by omega)),al,z,rfl,by rw[dg];omega,hw2,fun q H2 hq s2 h2=>?_⟩
    have h2p:H2 p=some (.lst (ws.map V.int)):=s2 _ _ h1p
    ac_nf
    refine⟨_,p,ws,r,q,_,rfl,by omega,h2p,h2,by omega,hsm,Mk.Kq (Mk.kU hw2) (by rw[dg] at ha;omega),fun H3 s3=>?_⟩
    have e:hX al ws r (.str z)=Mk.good al.length ws r (Mk.plc al.cps.toList z.cps.toList):=by
     show (Mk.b8 al.cps.toList ws.length z.cps.toList&&Mk.good al.cps.toList.length ws r _)=_
     rw[hw',dA,←dg]
    rw[e] at k
    exact k H3 (s1.trans (s2.trans s3))
   | _=>cases hw
def va (Ad:Ads):Sp:=fun vs H Q E=>∃ (a:Addr) (al:List Nat) (ws:List Int) (r:Int) (x:V) (t:Tg),vs=[.ref a,x]/\cx Ad H a al ws r/\bD al ws r/\eG H x=some t/\(∀ z,x=.str z->z.length<=100000) ∧
 (cV (tx al) ws.length x=false->∀ H',aw H H'->E (.ref Ad.NoWord) none H') ∧
 ∀ z,x=.str (tx z)->Mk.b8 al ws.length z=true->∀ fs:List (List Int),fs.Perm (jy al.length (Mk.plc al z))->∀ D H',H D=none->aw H H'->H' D=some (.lst (fs.map fun ps=>V.str (tx (Mk.bA al ps))))->Q (.ref D) H'
theorem qR:aG ["code","word","alphabet","places"] ["code","word"] (ar tL):=by subst_eqs
theorem CM (F:Fun K "faulty" "faulty" tL f fd) (T:Bl mg) (AF:AdF K mg Ad) (C_by_exchange:Fnc P w K mg base (CX1 P w) 1 "by_exchange" ["m","places"] mx) (C_by_swap:Fnc P w K mg base (CX1 P w) 1 "by_swap" ["places"] tU) (C_spelled:Fnc P w K mg base (CX1 P w) 1 "spelled" ["alphabet","places"] ox) (C_places_of:Fnc P w K mg base (CX1 P w) 1 "places_of" ["alphabet","word"] iU) (C_is_word:Fnc P w K mg base (CX1 P w) 1 "is_word" ["alphabet","length","thing"] lx) (M_Code_weights:Mtd P w K mg base (CX1 P w) Ad.Code "weights" 1 ["self"] (iK Ad)) (M_Code_alphabet:Mtd P w K mg base (CX1 P w) Ad.Code "alphabet" 1 ["self"] (h9 Ad)):bJ P w K mg base (CX1 P w) 2 f fd ["code","word"] (va Ad):=by
 refine F.okX (k:=1) qR ?_ ?_
 ·bv_decide
 ·bv_normalize
  obtain⟨a,al,ws,r,x,t,rfl,hat,ok,ht,hz,hE,k⟩:=h
  have hu2:_+2<cLine:=cI (Nat.add_le_add (Nat.le_add_right _ _) (by decide)) hr.un
  refine⟨_,af (fV (i:=2) qR.nd (cE M_Code_alphabet av (hr.mono (by decide)) (pvL 0))) (af (bH (cF (cq (ay C_is_word av (hr.mono (by decide)) (ag (pvC 2) (ag (au (aH (K:=K) rfl) T.len b9 (ag (cE M_Code_weights av (hr.mono (by decide)) (pvL 0)) (ae))) (ag (pvL 1) (ae))))))) (ai (du cT AF.q_NoWord AF.g_NoWord cL rfl (ag (aM) (ae)))) (aU)) (af (aA (i:=3) qR.nd (ay C_places_of av (hr.mono (by decide)) (ag (pvC 2) (ag (pvL 1) (ae))))) (ai (aF (gS ["made"] rfl ⟨rfl,by decide +kernel,rfl,by decide +kernel⟩ (.cons (j:=2) rfl (.inl (by kernel_rfl)) (.nil)) (by decide +kernel) (ck (K:=K) rfl (au (yH (K:=K) rfl hu2) T.sorted u9 (ag (ax aC (ay C_by_exchange av (hr.mono (by decide)) (ag (au (aH (K:=K) rfl) T.len b9 (ag (pvC 2) (ae))) (ag (pvL 3) (ae)))) (ay C_by_swap av (hr.mono (by decide)) (ag (pvL 3) (ae)))) (ae)))) (fun _ _ _ _=>aL (i:=0) (show (["made","alphabet"]:List Str).Nodup from by decide +kernel)) (fun _ _ _ _=>dI) (fun _ _ _ _=>ay C_spelled eT (hr.mono (by decide)) (ag (pvC 1) (ag (pvL 0) (ae))))))))),?_⟩
  grind
  obtain⟨dx,q,c1,c2⟩:=hat
  have a3:=ok.a3
  have a26:=ok.a26
  have w3:=ok.w3
  have w8:=ok.w8
  refine⟨dx,_,c1,bQ (by decide) (by decide) (by decide) al q r,a,al,ws,r,rfl,⟨dx,q,c1,c2⟩,?_⟩
  cbv
  grind
  refine⟨dx,_,c1,bQ (by decide) (by decide) (by decide) al q r,a,al,ws,r,rfl,⟨dx,q,c1,c2⟩,fun pw H1 hpw s1 h1=>?_⟩
  and_intros
  refine⟨_,.inl (.of h1),?_⟩
  rw[List.length_map]
  refine⟨tx al,ws.length,x,t,rfl,gD s1 ht,hz,fun H2 s2=>⟨_,rfl,?_⟩⟩
  cases htv:cV (tx al) ws.length x with
  | false =>
   rw[if_pos (by rfl)]
   exact⟨aP (aj (by decide)),hE htv H2 (s1.trans s2)⟩
  | true =>
   rw[if_neg (by decide)]
   obtain⟨z,rfl⟩:∃ z,x=.str (tx z):=by
    cases x with
    | str z=>obtain⟨l,rfl⟩:=LI z;exact⟨l,rfl⟩
    | _=>cases htv
   have hw:Mk.b8 al ws.length z=true:=by
    have:Mk.b8 (tx al).cps.toList ws.length (tx z).cps.toList=true:=htv
    rwa [bo,bo] at this
   have k':=k z rfl hw
   clear k hE hz htv ht
   obtain⟨zl,zm⟩:=Mk.cQ.mp hw
   have pm:=Mk.kU zm
   have pl:(Mk.plc al z).length=ws.length:=by rw[Mk.nu];omega
   show nn _ _ _
   cbv
   grind
   refine⟨tx al,tx z,rfl,by rw[bj];omega,by rw[bo,bo];exact zm,fun p3 H3 hp3 s3 h3=>?_⟩
   rw[bo,bo] at h3
   generalize Mk.plc al z=ps at h3 pm pl k'
   cbv
   and_intros
   rw[bj]
   refine⟨aP (aj (by omega)),al.length,p3,ps,rfl,h3,a26,by omega,fun D4 v4 H4 hD4 s4 h4 n4=>?_⟩
   refine⟨p3,ps,rfl,s4 _ _ h3,by omega,by omega,fun D5 v5 H5 hD5 s5 h5 n5=>?_⟩
   have l4:v4.length=ps.length*(al.length-1):=by rw[kS n4,sy pm]
   have l4':v4.length<=200:=by
    rw[l4]
    exact aK (Nat.mul_le_mul (show ps.length<=8 by omega) (show al.length-1<=25 by omega)) (by decide)
   have l5:v5.length<=8:=by rw[kS n5];exact aK sd (by omega)
   refine⟨_,_,s5 _ _ h4,h5,aP (aj (by omega)),fun p6 H6 hp6 s6 h6=>?_⟩
   have n6:ie H6 (v4++v5) (jy al.length ps):=ip (n4.keep fun b ns e=>(s5.trans s6) _ _ e) (n5.keep fun b ns e=>s6 _ _ e)
   obtain⟨zs,e1,e2,hzs⟩:=uU n6
   rw[e1] at h6
   have lz:zs.length<=208:=by
    have:=bu List.length e1
    rw[List.length_append,List.length_map] at this
    omega
   have l64:zs.length<64:=by
    have:=bu List.length e1
    rw[List.length_append,List.length_map] at this
    have:ps.length*(al.length-1)<=6*8:=Nat.mul_le_mul (by have:=ok.sm;omega) (by have:=ok.sm;omega)
    omega
   refine⟨zs,.of h6,l64,fun z hz=>.of (hzs z hz),fun us hp p7 H7 hp7 s7 h7=>?_⟩
   have lu:us.length=zs.length:=hp.length_eq
   have hpf:(us.map fun z=>z.2).Perm (jy al.length ps):=by rw[e2];exact hp.map _
   refine .inl ⟨⟨_,.of h7⟩,Ir (eJ (.of h7)) (by rw[List.length_map];exact aj (by omega)) ((us.map fun z=>z.2).map fun ps=>V.str (tx (Mk.bA al ps))) (by simp) ?_ ?_⟩
   ·intro i x u hx hu H8 s8 R hR
    rw[aJ,aJ] at hu
    obtain⟨y,hy,rfl⟩:=xn hx
    rw[hy] at hu
    cases hu
    have hym:y∈zs:=hp.mem_iff.mp (bG hy)
    have hy2:y.2∈jy al.length ps:=by rw[e2];exact iB hym
    have fo:=lQ pm y.2 hy2
    and_intros
    refine⟨tx al,y.1,y.2,rfl,by rw[bj];omega,(s7.trans s8) _ _ (hzs y hym),by omega,by rw[bo];exact fo.2,fun H9 s9=>?_⟩
    rw[bo]
    exact hR H9 s9
   ·intro D H8 hD s8 h8
    exact k' _ hpf D H8 ((s1.trans (s2.trans (s3.trans (s4.trans (s5.trans (s6.trans s7)))))).free hD) (s1.trans (s2.trans (s3.trans (s4.trans (s5.trans (s6.trans (s7.trans s8))))))) h8
def pz:Sp:=fun vs H Q _=>∃ (x:V) (t:Tg) (n:Nat),vs=[x,.int n]/\eG H x=some t/\(∀ z,x=.str z->z.length<=10000)/\n<=1000/\∀ H',aw H H'->Q (.bl (j4 n x)) H'
theorem pb:aG ["thing","most","words"] ["thing","most"] (ar ma):=by subst_eqs
theorem vN (F:Fun K "are_words" "are_words" ma f fd) (T:Bl mg) (AF:AdF K mg Ad) (C_are_letters:Fnc P w K mg base (CX1 P w) 1 "are_letters" ["thing","most"] jj):bJ P w K mg base (CX1 P w) 2 f fd ["thing","most"] pz:=by
 refine F.okX (k:=1) pb ?_ ?_
 ·bv_decide
 ·bv_normalize
  obtain⟨x,t,n,rfl,ht,hz,hn,k⟩:=h
  refine⟨_,af (bH (cF (cq (au (eN .str) T.isinstance bt_isinstance (ag (pvL 0) (ag (jJ T.str sj) (ae)))))) (ai (aF (kh))) (aU)) (af (aA (i:=2) pb.nd (dq (K:=K) rfl fO pY qa oM (pvL 0) (ag (aM) (ae)))) (ai (aF (nQ (dh iH (au (aH (K:=K) rfl) T.len b9 (ag (pvL 2) (ae))) (pvL 1) (aQ _)) (lU (au (gU (K:=K) rfl rfl) T.all nH (ag (gS ["word"] rfl ⟨rfl,by decide +kernel,rfl,by decide +kernel⟩ (.nil) (by decide +kernel) (ck (K:=K) rfl (pvL 2)) (fun _ _ _ _=>aL (i:=0) (show (["word"]:List Str).Nodup from by decide +kernel)) (fun _ _ _ _=>dI) (fun _ _ _ _=>ay C_are_letters eT (hr.mono (by decide)) (ag (pvL 0) (ag (eI AF.v_LONGEST_WORD) (ae))))) (ae)))))))),?_⟩
  by_cases hs:∃ z,x=.str z
  ·obtain⟨z,rfl⟩:=hs
   cases ht
   have hl:=hz z rfl
   have hc:=dg z
   have ek:j4 n (.str z)=iG n z.cps.toList:=rfl
   ac_nf
   refine⟨trivial,Tg.str,rfl,?_⟩
   ac_nf
   obtain⟨sl1,sl2⟩:=Mk.tY (c:=32) z.cps.toList
   refine⟨rfl,by omega,32,rfl,fun p H1 hp s1 h1=>⟨_,.l h1,?_⟩⟩
   rw[List.length_map]
   by_cases h2:(Mk.aY 32 z.cps.toList).length<=n
   ·rw[aq (show ((Mk.aY 32 z.cps.toList).length:Int)<=(n:Int) by omega)]
    bv_omega
    refine .inl ⟨⟨_,.of h1⟩,um (fun w:List Nat=>V.str (tx w)) (fun a b e=>hO (V.str.inj e)) (eJ (.of h1)) (aj (by omega)) (fun w=>.bl (dF 20 w)) ?_ ?_⟩
    ·intro w hw H2 s2 R hR
     have hwl:=sl2 w hw
     ac_nf
     refine⟨_,Tg.str,20,rfl,rfl,(fun y e=>by cases e;rw[bj];omega),by decide,fun H3 s3=>?_⟩
     have e:hV 20 (.str (tx w))=dF 20 w:=by show dF 20 (tx w).cps.toList=_;rw[bo]
     rw[e]
     exact hR H3 s3
    ·intro D H2 hD s2 h2'
     refine⟨D,(Mk.aY 32 z.cps.toList).map (dF 20),rfl,.of (by rw[h2',List.map_map];rfl),?_⟩
     have e:((Mk.aY 32 z.cps.toList).map (dF 20)).all id=j4 n (.str z):=by
      rw[ek]
      unfold iG
      rw[aq h2,List.all_map];rfl
     rw[e]
     exact k H2 (s1.trans s2)
   ·have e:j4 n (.str z)=false:=by rw[ek];unfold iG;rw[decide_eq_false h2];rfl
    rw[e] at k
    rw[decide_eq_false (show ¬ ((Mk.aY 32 z.cps.toList).length:Int)<=(n:Int) by omega)]
    bv_omega
    exact k H1 s1
  ·have hv:j4 n x=false:=by
    cases x with
    | str z=>exact absurd ⟨z,rfl⟩ hs
    | _=>rfl
   have hne:=pF ht fun z e=>hs ⟨z,e⟩
   rw[hv] at k
   ac_nf
   refine⟨trivial,t,ht,?_⟩
   cases t<;>first
    | exact absurd rfl hne
    | exact k H (aw.refl _)
def iL (Ad:Ads):Sp:=fun vs H Q _=>∃ (ca q:Addr) (al:List Nat) (ws:List Int) (r:Int) (gs:List Int),vs=[.ref ca,.ref q]/\cx Ad H ca al ws r/\bD al ws r/\H q=some (.lst (gs.map V.int))/\∀ H',aw H H'->Q (.int ((gs.sum+(gs.length:Int))%bL al ws)) H'
theorem rN:aG ["code","groups"] ["code","groups"] (ar jh):=by subst_eqs
theorem rL (F:Fun K "check_number" "check_number" jh f fd) (T:Bl mg) (AF:AdF K mg Ad) (M_Code_many:Mtd P w K mg base (CX1 P w) Ad.Code "many" 1 ["self"] (fz Ad)):bJ P w K mg base (CX1 P w) 2 f fd ["code","groups"] (iL Ad):=by
 refine F.okX (k:=1) rN ?_ ?_
 ·bv_decide
 ·bv_normalize
  obtain⟨ca,q,al,ws,r,gs,rfl,C,ok,hq,k⟩:=h
  refine⟨_,ai (aF (ax bV (ax aC (au (uA (K:=K) rfl rfl) T.sum DN (ag (pvL 1) (ae))) (au (aH (K:=K) rfl) T.len b9 (ag (pvL 1) (ae)))) (cE M_Code_many av (hr.mono (by decide)) (pvL 0)))),?_⟩
  obtain⟨dc,qc,hc1,hc2⟩:=id C
  have a3:=ok.a3
  have w3:=ok.w3
  have hmany:0<bL al ws:=Int.pow_pos (by omega)
  and_intros
  refine⟨q,gs,rfl,.of hq,_,.l hq,?_⟩
  rw[List.length_map]
  and_intros
  refine⟨dc,_,hc1,bQ (by decide) (by decide) (by decide) al qc r,ca,al,ws,r,rfl,C,ok.a26,by omega,ok.w8,fun G1 t1=>?_⟩
  have em:(al.length:Int)^(ws.length-1)=bL al ws:=rfl
  rw[em]
  and_intros
  exact⟨hmany,k G1 t1⟩
def gb (al:List Nat) (n:Int) (H:Hp):V->Bool
 | .ref p=>match H p with
  | some (.lst xs)=>decide (2<=xs.length)&&decide (xs.length<=1400)&&xs.all (cV (tx al) n)
  | _=>false
 | _=>false
def lF (Ad:Ads):Sp:=fun vs H Q _=>∃ (ca:Addr) (al:List Nat) (ws:List Int) (r:Int) (x:V) (t:Tg),vs=[.ref ca,x]/\cx Ad H ca al ws r/\eG H x=some t/\(∀ p o u,x=.ref p->H p≠some (.frz o u))/\(∀ p xs,x=.ref p->H p=some (.lst xs)->∀ y∈xs,(∃ t,eG H y=some t)/\∀ z,y=.str z->z.length<=100000) ∧
 ∀ H',aw H H'->Q (.bl (gb al ws.length H x)) H'
theorem lE:aG ["code","thing","length"] ["code","thing"] (ar jg):=by subst_eqs
theorem rK (F:Fun K "are_words_of" "are_words_of" jg f fd) (T:Bl mg) (AF:AdF K mg Ad) (C_is_word:Fnc P w K mg base (CX1 P w) 1 "is_word" ["alphabet","length","thing"] lx) (M_Code_alphabet:Mtd P w K mg base (CX1 P w) Ad.Code "alphabet" 1 ["self"] (h9 Ad)) (M_Code_weights:Mtd P w K mg base (CX1 P w) Ad.Code "weights" 1 ["self"] (iK Ad)):bJ P w K mg base (CX1 P w) 2 f fd ["code","thing"] (lF Ad):=by
 refine F.okX (k:=1) lE ?_ ?_
 ·bv_decide
 ·bv_normalize
  obtain⟨ca,al,ws,r,x,t,rfl,C,ht,hfz,hit,k⟩:=h
  refine⟨_,af (bH ((gT (cF (cq (au (eN .lst) T.isinstance bt_isinstance (ag (pvL 1) (ag (jJ T.list j6) (ae)))))) (fF (cF (oV iH iH (eI AF.v_FEWEST_CAME) (au (aH (K:=K) rfl) T.len b9 (ag (pvL 1) (ae))) (eI AF.v_MOST_CAME))))).pt) (ai (aF (kh))) (aU)) (af (fV (i:=2) lE.nd (au (aH (K:=K) rfl) T.len b9 (ag (cE M_Code_weights av (hr.mono (by decide)) (pvC 0)) (ae)))) (ai (aF (au (gU (K:=K) rfl rfl) T.all nH (ag (gS ["word"] rfl ⟨rfl,by decide +kernel,rfl,by decide +kernel⟩ (.cons (j:=2) rfl (.inl (by kernel_rfl)) (.cons (j:=0) rfl (.inl (by kernel_rfl)) (.nil))) (by decide +kernel) (ck (K:=K) rfl (pvL 1)) (fun _ _ _ _=>aL (i:=0) (show (["word","length","code"]:List Str).Nodup from by decide +kernel)) (fun _ _ _ _=>dI) (fun _ _ _ _=>ay C_is_word eT (hr.mono (by decide)) (ag (cE M_Code_alphabet eT (hr.mono (by decide)) (pvC 2)) (ag (pvC 1) (ag (pvL 0) (ae)))))) (ae)))))),?_⟩
  grind
  by_cases hs:∃ p xs,x=.ref p/\H p=some (.lst xs)
  ·obtain⟨p,xs,rfl,hp⟩:=hs
   have hty:=hit p xs rfl hp
   have et:t=Tg.lst:=by
    have:kj (H p)=some t:=ht
    rw[hp] at this;cases this;rfl
   subst et
   have ek:gb al ws.length H (.ref p)=(decide (2<=xs.length)&&decide (xs.length<=1400)&&xs.all (cV (tx al) ws.length)):=by
    show (match H p with | some (.lst xs)=>_ | _=>false)=_
    rw[hp]
   rw[ek] at k
   refine⟨trivial,Tg.lst,ht,?_⟩
   and_intros
   refine⟨_,.l hp,?_⟩
   by_cases h2:2<=xs.length
   ·rw[aq h2,dA] at k
    rw[aq (show (2:Int)<=(xs.length:Int) by omega)]
    bv_omega
    by_cases h14:xs.length<=1400
    ·rw[aq h14,dA] at k
     rw[aq (show (xs.length:Int)<=1400 by omega)]
     bv_omega
     show nn _ _ _
     cbv
     obtain⟨dc,qc,hc1,hc2⟩:=id C
     grind
     refine⟨dc,_,hc1,bQ (by decide) (by decide) (by decide) al qc r,ca,al,ws,r,rfl,C,fun p1 H1 hp1 s1 h1=>⟨_,.l h1,?_⟩⟩
     rw[List.length_map,hN]
     clear hN nn
     and_intros
     have hp1':=s1 _ _ hp
     refine .inl ⟨⟨_,.of hp1'⟩,EF (xs:=xs) (eJ (.of hp1')) (aj (by omega)) (fun y=>.bl (cV (tx al) ws.length y)) ?_ ?_⟩
     ·intro y hy H2 s2 R hR
      obtain⟨⟨ty,hty1⟩,hty2⟩:=hty y hy
      have C2:=C.same (s1.trans s2)
      obtain⟨dc2,qc2,hc21,hc22⟩:=id C2
      and_intros
      refine⟨dc2,_,hc21,bQ (by decide) (by decide) (by decide) al qc2 r,ca,al,ws,r,rfl,C2,?_⟩
      exact⟨tx al,ws.length,y,ty,rfl,gD (s1.trans s2) hty1,hty2,fun H3 s3=>hR H3 s3⟩
     ·intro D H2 hD s2 h2'
      refine⟨D,xs.map (cV (tx al) ws.length),rfl,.of (by rw[h2',List.map_map];rfl),?_⟩
      have e:(xs.map (cV (tx al) ws.length)).all id=xs.all (cV (tx al) ws.length):=by rw[List.all_map];rfl
      rw[e]
      exact k H2 (s1.trans s2)
    ·rw[decide_eq_false h14,fW] at k
     rw[decide_eq_false (show ¬ (xs.length:Int)<=1400 by omega)]
     bv_omega
     exact k H (aw.refl _)
   ·rw[decide_eq_false h2,fW,fW] at k
    rw[decide_eq_false (show ¬ (2:Int)<=(xs.length:Int) by omega)]
    bv_omega
    exact k H (aw.refl _)
  ·have hv:gb al ws.length H x=false:=by
    cases x with
    | ref p =>
     show (match H p with | some (.lst xs)=>_ | _=>false)=_
     split
     ·rename_i xs hp;exact absurd ⟨p,xs,rfl,hp⟩ hs
     ·rfl
    | _=>rfl
   have hne:t≠Tg.lst:=fun e=>by
    subst e
    cases x with
    | ref a =>
     have h':kj (H a)=some .lst:=ht
     cases e:H a with
     | none=>rw[e] at h';cases h'
     | some o=>rw[e] at h';cases o with
      | lst xs=>exact hs ⟨a,xs,rfl,e⟩
      | frz ob u=>exact hfz a ob u rfl e
      | _=>cases h'
    | _=>cases ht
   rw[hv] at k
   refine⟨trivial,t,ht,?_⟩
   cases t<;>first
    | exact absurd rfl hne
    | exact k H (aw.refl _)
def fZ (Ad:Ads):Sp:=fun vs H Q _=>∃ (b ca dn de f:Addr) (es:List Ben) (al:List Nat) (ws:List Int) (r n:Int),vs=[.ref b,.ref f]/\eh Ad H b ca dn de es/\cx Ad H ca al ws r/\bD al ws r/\qj uk Ad.tb H f/\yx (es.map (·.num)) n/\n<bL al ws/\∀ H',aw H H'->Q (.int n) H'
theorem fX:aG ["self","is_barred","k"] ["self","is_barred"] (ar gx):=by subst_eqs
theorem nN (F:Fun K "least_free" "Book.least_free" gx f fd) (T:Bl mg) (AF:AdF K mg Ad) (M_Code_many:Mtd P w K mg base (CX1 P w) Ad.Code "many" 1 ["self"] (fz Ad)):bJ P w K mg base (CX1 P w) 2 f fd ["self","is_barred"] (fZ Ad):=by
 refine F.okX (k:=1) fX ?_ (fun cdv A outer s H vs Q E hr h=>?_)
 ·bv_decide
 ·obtain⟨b,ca,dn,de,f,es,al,ws,r,n,rfl,B,C,ok,Fb,Lf,hn,k⟩:=h
  obtain⟨dx,h1⟩:=B.bk
  have hu:=hr.m8
  have hu1:=sF hr
  refine⟨_,af (aA (i:=2) fX.nd (ao)) (af (tJ cf ((gT (aN (qF (K:=K) rfl hu1) (pvL 2) (cj (K:=K) rfl (pvL 0)) (by kernel_rfl)) (fF (cq (tp (q:=uk) (Pt:=Ad.tb) (pvL 1) hr (ag (pvL 2) (ae)))))).pt) (ai (aA (i:=2) fX.nd (ax aC (pvL 2) (ao))))) (af (bH (aN EX (pvL 2) (cE M_Code_many av (hr.mono (by decide)) (cj (K:=K) rfl (pvL 0))) (aQ _)) (ai (du cT AF.q_TooMany AF.g_TooMany cL rfl (ag (aM) (ae)))) (aU)) (ai (aF (pvL 2))))),?_⟩
  grind
  cbv
  grind
  refine wD (fun σ H'=>∃ k:Int,0<=k/\k<=n/\σ=[some (V.ref b),some (V.ref f),some (V.int k)]/\H'=H) (fun σ _=>match σ with | [_,_,some (V.int k)]=>(n-k).toNat | _=>0) ⟨0,by decide,Lf.1,rfl,rfl⟩ ?_
  rintro σ H' ⟨j,j0,jn,rfl,rfl⟩
  and_intros
  refine⟨_,dx,_,_,h1,AF.c_Book,AF.n_Book_by_number,jY ca dn de,?_⟩
  refine .inr ⟨_,.inl ⟨_,.inl j,.inl B.hn,rfl,rfl⟩,?_⟩
  rw[ER B.nn]
  by_cases hm:j∈es.map (·.num)
  ·rw[aq hm,if_pos rfl]
   have jl:j≠n:=fun e=>Lf.2.1 (by rw[←e];exact hm)
   refine⟨fun σ G=>σ=[some (V.ref b),some (V.ref f),some (V.int (j+1))]/\G=H',?_,rfl,rfl⟩
   rintro σ G ⟨rfl,rfl⟩
   exact⟨⟨j+1,by omega,by omega,rfl,rfl⟩,show (n-(j+1)).toNat<(n-j).toNat by omega⟩
  ·rw[decide_eq_false hm,if_neg (by decide)]
   have je:j=n:=by
    rcases Int.lt_or_eq_of_le jn with h | h
    ·exact absurd (Lf.2.2 j j0 h) hm
    ·exact h
   subst je
   refine⟨Fb,Fb,trivial,?_⟩
   cbv
   obtain⟨dc,qc,hc1,hc2⟩:=id C
   grind
   refine⟨_,dx,_,_,h1,AF.c_Book,AF.n_Book_basis,j5 ca dn de,?_⟩
   refine⟨dc,_,hc1,bQ (by decide) (by decide) (by decide) al qc r,ca,al,ws,r,rfl,C,ok.a26,by have:=ok.w3;omega,ok.w8,fun G1 t1=>?_⟩
   and_intros
   rw[decide_eq_false (show ¬ (al.length:Int)^(ws.length-1)<=j by have:j<(al.length:Int)^(ws.length-1):=hn;omega)]
   bv_omega
   show nn _ _ _
   cbv
   and_intros
   exact k G1 t1
def m5:Sp:=fun vs H Q _=>∃ c m n:Int,vs=[.int c,.int m,.int n]/\0<m/\m<=1000/\0<=n/\n<=1000/\∀ p H',H p=none->aw H H'->H' p=some (.lst ((Mk.wts c m n.toNat).map V.int))->Q (.ref p) H'
theorem dP:aG ["_law_cell","_law_m","_law_many_here","_law_found","_law_k","_law_some"] ["_law_cell","_law_m","_law_many_here"] (ar jS):=by subst_eqs
theorem tf (F:Fun K "_law_weights" "_law_weights" jS f fd) (T:Bl mg) (AF:AdF K mg Ad) (C_law_apart:Fnc P w K mg base (CX1 P w) 1 "_law_apart" ["_law_number","_law_m"] pA):bJ P w K mg base (CX1 P w) 2 f fd ["_law_cell","_law_m","_law_many_here"] m5:=by
 refine F.okX (k:=1) dP ?_ ?_
 ·bv_decide
 ·bv_normalize
  obtain⟨c,m,n,rfl,hm,hm2,hn0,hn,k⟩:=h
  refine⟨_,af (fV (i:=3) dP.nd (bR (ae))) (af (eQ cf rfl (eU T.range (ag (pvL 2) (ae))) (Fo (i:=4) dP.nd) (af (lW (i:=5) ["_law_w"] dP.nd rfl (Or.inl rfl) rfl ⟨rfl,by decide +kernel,rfl,by decide +kernel⟩ (.cons (j:=1) rfl (.inl (by kernel_rfl)) (.cons (j:=4) rfl (.inl (by kernel_rfl)) (.cons (j:=3) rfl (.inl (by kernel_rfl)) (.nil)))) (by decide +kernel) (eU T.range (ag (pvC 1) (ae))) (fun _ _ _ _=>aL (i:=0) (show (["_law_w","_law_m","_law_k","_law_found"]:List Str).Nodup from by decide +kernel)) (fun _ _ _ _=>kT ((zJ (cq (ay C_law_apart eT (hr.mono (by decide)) (ag (pvL 0) (ag (pvC 1) (ae))))) (Bd ((gT (aN (cD (K:=K) rfl hu) (pvC 2) (ao) (aQ _)) (fF (cq (ay C_law_apart eT (hr.mono (by decide)) (ag (ax gv (pvL 0) (bP (cS (K:=K) rfl) (pvC 3) (ax gv (pvC 2) (ao)) (fun _ _=>rfl))) (ag (pvC 1) (ae))))))).pt))).pt)) (fun _ _ _ _=>pvL 0)) (af (bH (aN (cD (K:=K) rfl hu) (pvL 5) (bR (ae)) (aQ _)) (ai (aA (i:=5) dP.nd (ei (gW (K:=K) rfl rfl) T.list j6 (ag (ei BK T.range DL (ag (pvC 1) (ae))) (ae))))) (aU)) (af (dM (dq (K:=K) rfl eM fP fQ dO (pvC 3) (ag (bP (cS (K:=K) rfl) (pvL 5) (ax bV (pvL 0) (au (aH (K:=K) rfl) T.len b9 (ag (pvL 5) (ae)))) (fun _ _=>rfl)) (ae)))) (ai (aA (i:=0) dP.nd (ax cB (pvL 0) (ao)))))))) (ai (aF (pvC 3)))),?_⟩
  ac_nf
  refine⟨by decide,fun p H0 hp s0 h0=>?_⟩
  ac_nf
  refine⟨by omega,by omega,?_⟩
  refine AJ (n:=n.toNat) (fun i σ H'=>∃ (ci:Int) (fnd:List Int) (o1 o2:Option V),σ=[some (.int ci),some (.int m),some (.int n),some (.ref p),o1,o2]/\fnd.length=i/\aw H H'/\H' p=some (.lst (fnd.map V.int))/\Mk.nD m (n.toNat-i) ci fnd=Mk.wts c m n.toNat) ?_ ?_ ?_
  ·exact⟨c,[],none,none,rfl,rfl,s0,h0,rfl⟩
  ·rintro i σ H' hi ⟨ci,fnd,o1,o2,rfl,hlen,s1,h1,hgo⟩
   ac_nf
   refine⟨by omega,by omega,?_⟩
   refine zt (xs:=(Mk.ofN m.toNat).map V.int) (wj _) (by rw[List.length_map,Mk.oO];exact aj (by omega)) (pI fun w=>Mk.cop m w&&(fnd.isEmpty||Mk.cop m (w-fnd.getLastD 0))) (fun x=>x) ?_ ?_ ?_
   ·intro x hx H2 s2 R hR
    obtain⟨w,rfl,hw⟩:=EJ hx
    have h2:H2 p=some (.lst (fnd.map V.int)):=s2 _ _ h1
    ac_nf
    refine⟨w,m,rfl,by omega,?_⟩
    ac_nf
    have e0:pI (fun w=>Mk.cop m w&&(fnd.isEmpty||Mk.cop m (w-fnd.getLastD 0))) (.int w)=(Mk.cop m w&&(fnd.isEmpty||Mk.cop m (w-fnd.getLastD 0))):=rfl
    rw[e0] at hR
    cases hc:Mk.cop m w with
    | false =>
     rw[hc,fW] at hR
     exact hR H2 (aw.refl _)
    | true =>
     rw[hc,dA] at hR
     bv_omega
     cases hf:fnd with
     | nil =>
      rw[hf] at hlen
      have hi0:i=0:=hlen.symm
      subst hi0
      rw[if_pos (by simp)]
      rw[hf] at hR
      exact hR H2 (aw.refl _)
     | cons a r =>
      have hne:i≠0:=by rw[←hlen,hf];simp
      rw[if_neg (by simp;omega)]
      have hlast:(fnd.map V.int)[i-1]?=some (.int (fnd.getLastD 0)):=by
       rw[aJ,←hlen,←List.getLast?_eq_getElem?,jo,hf,List.getLast?_cons];rfl
      have e2:atI (fnd.map V.int) (0+(i:Int)-1)=some (.int (fnd.getLastD 0)):=by
       rw[show 0+(i:Int)-1=((i-1:Nat):Int) by omega];exact bY hlast
      refine⟨_,_,.l h2,e2,_,m,rfl,by omega,?_⟩
      ac_nf
      have e3:fnd.isEmpty=false:=by rw[hf];rfl
      rw[e3,Bool.false_or] at hR
      exact hR H2 (aw.refl _)
   ·intro x hx _ H2 s2 R hR
    ac_nf
    exact hR H2 (aw.refl _)
   ·intro D H2 hD s2 h2
    have h2':H2 D=some (.lst ((Mk.wH m fnd).map V.int)):=by
     rw[h2,List.map_id',Co];rfl
    have hp2:H2 p=some (.lst (fnd.map V.int)):=s2 _ _ h1
    have hsame:∀ H3,aw H' H3->aw H H3:=fun H3 e b o hb=>by
     by_cases hbp:b=p
     ·subst hbp;rw[hp] at hb;cases hb
     ·exact e b o (s1 b o hb)
    have hpk:=Mk.Ba hm fnd ci
    have hpos:=Mk.xR hm fnd
    have hat:atI ((Mk.fE m fnd).map V.int) (ci%((Mk.fE m fnd).length:Int))=some (.int ((Mk.fE m fnd).getD (ci%((Mk.fE m fnd).length:Int)).toNat 0)):=by
     have e:((Mk.fE m fnd).map V.int)[(ci%((Mk.fE m fnd).length:Int)).toNat]?=some (.int ((Mk.fE m fnd).getD (ci%((Mk.fE m fnd).length:Int)).toNat 0)):=by
      rw[aJ,List.getD_eq_getElem?_getD,List.getElem?_eq_getElem (by omega)];rfl
     have:=bY e
     rwa [pM hpk.1] at this
    have hgo2:Mk.nD m (n.toNat-(i+1)) (ci/7) (fnd++[(Mk.fE m fnd).getD (ci%((Mk.fE m fnd).length:Int)).toNat 0])=Mk.wts c m n.toNat:=by
     rw[←hgo,show n.toNat-i=(n.toNat-(i+1))+1 by omega];rfl
    ac_nf
    refine⟨aT _,fun r H3 hr s3 h3=>?_⟩
    refine⟨_,_,.of (s3 _ _ h2'),.of h3,uH _,rfl,?_⟩
    have s4:aw H' H3:=s2.trans s3
    have hp3:H3 p=some (.lst (fnd.map V.int)):=s3 _ _ hp2
    cases hcand:Mk.wH m fnd with
    | nil =>
     have hpool:Mk.fE m fnd=Mk.ofN m.toNat:=by unfold Mk.fE;rw[if_pos hcand]
     rw[if_pos (show lK (([]:List Int).map V.int) []=true from rfl)]
     intro a H4 ha s5 h4
     refine⟨_,.inr ⟨0,m,h4,⟨by omega,by omega,by omega,by omega⟩,by omega,rfl⟩,fun l H5 hl s6 h5=>?_⟩
     have hp5:H5 p=some (.lst (fnd.map V.int)):=s6 _ _ (s5 _ _ hp3)
     have hl5:H5 l=some (.lst ((Mk.fE m fnd).map V.int)):=by rw[h5,hpool,Int.sub_zero,uZ]
     have s7:aw H' H5:=s4.trans (s5.trans s6)
     ac_nf
     refine⟨.inl ⟨rfl,_,.of hp5⟩,_,.l hl5,by rw[List.length_map];omega,_,_,.l hl5,by rw[List.length_map];exact hat,p,_,_,rfl,rfl,hp5,by rw[List.length_map];exact aj (by omega),⟨by decide,by decide⟩,_,_,_,_,rfl,?_,(hsame _ s7).bZ hp,?_,hgo2⟩
     ·rw[List.length_append,hlen];rfl
     ·rw[a8,List.map_append];rfl
    | cons x y =>
     have hpool:Mk.fE m fnd=Mk.wH m fnd:=by unfold Mk.fE;rw[if_neg (by rw[hcand];simp)]
     rw[if_neg (by simp [lK])]
     have hl3:H3 D=some (.lst ((Mk.fE m fnd).map V.int)):=by rw[hpool];exact s3 _ _ h2'
     refine⟨.inl ⟨rfl,_,.of hp3⟩,_,.l hl3,by rw[List.length_map];omega,_,_,.l hl3,by rw[List.length_map];exact hat,p,_,_,rfl,rfl,hp3,by rw[List.length_map];exact aj (by omega),⟨by decide,by decide⟩,_,_,_,_,rfl,?_,(hsame _ s4).bZ hp,?_,hgo2⟩
     ·rw[List.length_append,hlen];rfl
     ·rw[a8,List.map_append];rfl
  ·rintro σ H' ⟨ci,fnd,o1,o2,rfl,hlen,s1,h1,hgo⟩
   ac_nf
   refine k p H' hp s1 ?_
   rw[h1,←hgo,Nat.sub_self]
   rfl
def sL (a b:Nat):List (Nat×List Nat):=[(0,[]),(1,[a]),(2,[a]),(1,[b]),(2,[a,b]),(1,[a,b]),(2,[b,32,a]),(2,[b]),(1,[a,b,a,b,a,a]),(2,[a,32,b]),(1,[b,a]),(2,[a,b,32,a]),(2,[b,a]),(2,[a,32,a,b,32,b])]
def kOk (q:Nat×List Nat):Bool:=if q.1=0 then q.2==[] else if q.1=1 then dF 6 q.2 else decide (q.1=2)&&iG 6 q.2&&decide ((Mk.aY 32 q.2).length<=3/\q.2.length<=6)
theorem JE {a b:Nat} (ha:97<=a/\a<123) (hb:97<=b/\b<123) (h:a≠b):(sL a b).Nodup/\(sL a b).all kOk=true:=by
 have a32:¬ a=32:=by omega
 have b32:¬ b=32:=by omega
 have h':¬ b=a:=fun e=>h e.symm
 have h1:¬ a=b:=h
 constructor
 ·simp [sL,h',h1,a32,b32]
 ·simp [sL,kOk,dF,iG,Mk.aY,a32,b32,ha.1,ha.2,hb.1,hb.2]
def mkKey (q:Nat×List Nat):List Key:=if q.1=0 then [.inr "end"] else if q.1=1 then [.inr "part",.inr (tx q.2)] else [.inr "phrase",.inr (tx q.2)]
theorem ni (h:kOk q=true):q=(0,[])∨(q.1=1/\dF 6 q.2=true)∨(q.1=2/\iG 6 q.2=true/\(Mk.aY 32 q.2).length<=3/\q.2.length<=6):=by
 obtain⟨k,l⟩:=q
 unfold kOk at h
 simp only at h
 split at h
 ·rename_i e
  subst e
  exact .inl (by rw[eq_of_beq h])
 ·split at h
  ·rename_i e
   exact .inr (.inl ⟨e,h⟩)
  ·rw[bI,bI,bC,bC] at h
   exact .inr (.inr ⟨h.1.1,h.1.2,h.2⟩)
theorem mk0:mkKey (0,[])=[.inr "end"]:=rfl
theorem mk1 (l:List Nat):mkKey (1,l)=[.inr "part",.inr (tx l)]:=rfl
theorem mk2 (l:List Nat):mkKey (2,l)=[.inr "phrase",.inr (tx l)]:=rfl
theorem CI {q u:Nat×List Nat} (h1:kOk q=true) (h2:kOk u=true) (h:mkKey q=mkKey u):q=u:=by
 obtain⟨k,l⟩:=q
 obtain⟨k',l'⟩:=u
 rcases ni h1 with e | ⟨e,_⟩ | ⟨e,_⟩<;>rcases ni h2 with e' | ⟨e',_⟩ | ⟨e',_⟩
 ·rw[e,e']
 ·have e2:k'=1:=e'
  subst e2;rw[e,mk0,mk1] at h;cases h
 ·have e2:k'=2:=e'
  subst e2;rw[e,mk0,mk2] at h;cases h
 ·have e2:k=1:=e
  subst e2;rw[e',mk0,mk1] at h;cases h
 ·have e2:k=1:=e
  have e3:k'=1:=e'
  subst e2 e3
  rw[mk1,mk1] at h
  simp only[List.cons.injEq,Sum.inr.injEq,true_and,and_true] at h
  rw[hO h]
 ·have e2:k=1:=e
  have e3:k'=2:=e'
  subst e2 e3
  rw[mk1,mk2] at h
  simp only[List.cons.injEq,Sum.inr.injEq,and_true] at h
  exact absurd h.1 (by decide)
 ·have e2:k=2:=e
  subst e2;rw[e',mk0,mk2] at h;cases h
 ·have e2:k=2:=e
  have e3:k'=1:=e'
  subst e2 e3
  rw[mk1,mk2] at h
  simp only[List.cons.injEq,Sum.inr.injEq,and_true] at h
  exact absurd h.1 (by decide)
 ·have e2:k=2:=e
  have e3:k'=2:=e'
  subst e2 e3
  rw[mk2,mk2] at h
  simp only[List.cons.injEq,Sum.inr.injEq,true_and,and_true] at h
  rw[hO h]
theorem EK (h:kOk q=true):jI (mkKey q):=by
 obtain⟨k,l⟩:=q
 rcases ni h with e | ⟨e,h2⟩ | ⟨e,h2,_,h4⟩
 ·rw[e,mk0];exact Jw
 ·have e2:k=1:=e
  subst e2;rw[mk1];exact GN h2
 ·have e2:k=2:=e
  subst e2;rw[mk2]
  refine⟨vE h2,ak 2,fun z hz=>?_⟩
  have hl:l.length<=10000:=by
   have h4':l.length<=6:=h4
   omega
  have hz':V.str z∈[V.str ("phrase":Str),V.str (tx l)]:=hz
  rcases aI.mp hz' with e | e
  ·cases e;decide
  ·have e2:V.str z=V.str (tx l):=aV.mp e
   cases e2
   rw[bj];exact hl
theorem ES {fi st M:Int}{i j:Nat} (hM:27<=M) (hst:st=1∨st=2) (hij:j<i) (hi:i<14):(fi+st*(j:Int))%M≠(fi+st*(i:Int))%M:=fun e=>by
 have h1:=uh.mp e.symm
 have h2:=jk h1
 have e3:fi+st*(i:Int)-(fi+st*(j:Int))=st*((i:Int)-j):=by rw[Int.mul_sub];omega
 rw[e3] at h2
 have:0<st*((i:Int)-j):=by rcases hst with rfl | rfl<;>omega
 have:=Int.le_of_dvd this h2
 rcases hst with rfl | rfl<;>omega
theorem JJ (ok:bD al ws r) (w4:4<=ws.length):27<=bL al ws:=by
 have a3:=ok.a3
 have h:3^3<=al.length^(ws.length-1):=aK (pV a3 3) (jr (by omega) (by omega))
 unfold bL
 have e:((al.length^(ws.length-1):Nat):Int)=(al.length:Int)^(ws.length-1):=by simp
 rw[←e]
 omega
def yB (H:Hp) (vs:List V) (ks:List (List Key)):Prop:=Paired (fun v k=>∃ t,v=V.ref t/\H t=some (.tup (k.map kV))) vs ks
def vn (vs:List V) (j:Nat):Addr:=match vs[j]? with
 | some (.ref t)=>t
 | _=>0
theorem Ic (h:yB H vs ks)  (hj:ks[j]?=some key):vs[j]?=some (.ref (vn vs j))/\H (vn vs j)=some (.tup (key.map kV)):=by
 have hl:=Paired.length h
 have hjl:=(bf.mp hj).1
 have hv:vs[j]?=some (vs[j]'(by omega)):=List.getElem?_eq_getElem _
 obtain⟨k',hk',t,e,ht⟩:=nt h hv
 rw[hj] at hk';cases hk'
 have ea:vn vs j=t:=by unfold vn;rw[hv,e]
 rw[ea,hv,e];exact⟨rfl,ht⟩
structure Du (al:List Nat) (ws:List Int) (H:Hp) (es:List Ben):Prop where
 en:∀ e∈es,H e.adr=some (.tup (e.key.map kV))
 nn:(es.map (·.num)).Nodup
 nk:(es.map (·.key)).Nodup
 ok:∀ e∈es,jI e.key/\0<=e.num/\e.num<bL al ws
 few:es.length<=14
 ph:∀ e∈es,∀ l,e.key=[.inr "phrase",.inr (tx l)]->(Mk.aY 32 l).length<=3
 hE:∃ e∈es,e.key=[.inr "end"]
 hP:∃ e∈es,∃ l,e.key=[.inr "part",.inr (tx l)]
 hF:∃ e∈es,∃ l,e.key=[.inr "phrase",.inr (tx l)]
def m4 (K:PySem.W.Frag):Sp:=fun vs H Q _=>∃ (a p q:Addr) (ns:List Int) (al:List Nat) (ws:List Int) (r:Int),vs=[.ref a,.ref p]/\SqL K H a (ns.map V.int)/\Parts H p q al ws r/\bD al ws r/\4<=ws.length ∧
 ∀ D es H',H D=none->aw H H'->H' D=some (.dK (gR es))->Du al ws H' es->Q (.ref D) H'
theorem bF:aG ["_law_script","_law_parts","_law_cell","_law_letters","_law_a","_law_b","_law_some","_law_first","_law_step","_law_found","_law_k"] ["_law_script","_law_parts"] (ar jR):=by subst_eqs
theorem sZ (F:Fun K "_law_entries" "_law_entries" jR f fd) (T:Bl mg) (AF:AdF K mg Ad) (C_law_many:Fnc P w K mg base (CX1 P w) 1 "_law_many" ["_law_parts"] rB) (C_law_mixed:Fnc P w K mg base (CX1 P w) 1 "_law_mixed" ["_law_cell"] gC) (C_law_cell_at:Fnc P w K mg base (CX1 P w) 1 "_law_cell_at" ["_law_script","_law_k"] (gB K)):bJ P w K mg base (CX1 P w) 2 f fd ["_law_script","_law_parts"] (m4 K):=by
 refine F.okX (k:=1) bF ?_ ?_
 ·bv_decide
 ·bv_normalize
  obtain⟨a,p,q,ns,al,ws,r,rfl,hS,hP,ok,w4,k⟩:=h
  refine⟨_,af (aA (i:=2) bF.nd (ay C_law_mixed av (hr.mono (by decide)) (ag (ay C_law_cell_at av (hr.mono (by decide)) (ag (pvL 0) (ag (ao) (ae)))) (ae)))) (af (aA (i:=3) bF.nd (aM)) (af (aA (i:=4) bF.nd (bP (cS (K:=K) rfl) (pvL 3) (ax bV (pvL 2) (ao)) (fun _ _=>rfl))) (af (aA (i:=5) bF.nd (bP (cS (K:=K) rfl) (pvL 3) (ax bV (ax aC (ax aC (pvL 2) (ao)) (ax bV (ax cB (pvL 2) (ao)) (ao))) (ao)) (fun _ _=>rfl))) (af (aA (i:=6) bF.nd (bR (ag (eR (ag (aM) (ae))) (ag (eR (ag (aM) (ag (pvL 4) (ae)))) (ag (eR (ag (aM) (ag (pvL 4) (ae)))) (ag (eR (ag (aM) (ag (pvL 5) (ae)))) (ag (eR (ag (aM) (ag (ax aC (pvL 4) (pvL 5)) (ae)))) (ag (eR (ag (aM) (ag (ax aC (pvL 4) (pvL 5)) (ae)))) (ae))))))))) (af (aA (i:=6) bF.nd (ax aC (pvL 6) (bR (ag (eR (ag (aM) (ag (ax aC (ax aC (pvL 5) (aM)) (pvL 4)) (ae)))) (ag (eR (ag (aM) (ag (pvL 5) (ae)))) (ae)))))) (af (aA (i:=6) bF.nd (ax aC (pvL 6) (bR (ag (eR (ag (aM) (ag (ax aC (ax aC (ax aC (ax aC (ax aC (pvL 4) (pvL 5)) (pvL 4)) (pvL 5)) (pvL 4)) (pvL 4)) (ae)))) (ag (eR (ag (aM) (ag (ax aC (ax aC (pvL 4) (aM)) (pvL 5)) (ae)))) (ag (eR (ag (aM) (ag (ax aC (pvL 5) (pvL 4)) (ae)))) (ae))))))) (af (aA (i:=6) bF.nd (ax aC (pvL 6) (bR (ag (eR (ag (aM) (ag (ax aC (ax aC (ax aC (pvL 4) (pvL 5)) (aM)) (pvL 4)) (ae)))) (ag (eR (ag (aM) (ag (ax aC (pvL 5) (pvL 4)) (ae)))) (ag (eR (ag (aM) (ag (ax aC (ax aC (ax aC (ax aC (ax aC (pvL 4) (aM)) (pvL 4)) (pvL 5)) (aM)) (pvL 5)) (ae)))) (ae))))))) (af (aA (i:=7) bF.nd (ax cB (pvL 2) (ao))) (af (aA (i:=8) bF.nd (bP (cS (K:=K) rfl) (bR (ag (ao) (ag (ao) (ae)))) (ax bV (ax cB (pvL 2) (ax rY (ao) (ao))) (ao)) (fun _ _=>rfl))) (af (aA (i:=9) bF.nd (xK)) (af (eQ cf rfl (eU T.range (ag (au (aH (K:=K) rfl) T.len b9 (ag (pvL 6) (ae))) (ae))) (aL (i:=10) bF.nd) (ai (bH ((gT (aN vV (pvL 10) (ao) (aQ _)) (fF (aN qE (ax bV (ax cB (ax cB (pvL 2) (ax rY (ao) (ao))) (ax aC (pvL 10) (ao))) (ao)) (ao) (aQ _)))).pt) (ai (tI hu1 (pvL 9) (ax bV (ax aC (pvL 7) (ax kP (pvL 8) (pvL 10))) (ay C_law_many av (hr.mono (by decide)) (ag (pvL 1) (ae)))) (bP (cS (K:=K) rfl) (pvL 6) (pvL 10) (fun _ _=>rfl)))) (aU)))) (ai (aF (pvL 9)))))))))))))),?_⟩
  have big:∀ {u:Nat},u<=1000->u<=sizeLine:=fun hu=>aP (aj (by omega))
  grind
  refine⟨a,ns,1,rfl,hS,by decide,?_⟩
  generalize ns.getD (1:Int).toNat 0=c0
  refine⟨c0,rfl,?_⟩
  have y0:=rV c0
  generalize CH c0=y at y0
  cbv
  grind
  cbv
  grind
  obtain⟨ia,hia⟩:∃ i:Nat,y%26=(i:Int):=gE (by omega)
  have ia26:ia<26:=by omega
  refine⟨by decide,big (by decide),97+ia,by rw[hia];exact bY (Dz ia ia26),?_⟩
  cbv
  grind
  obtain⟨ib,hib⟩:∃ i:Nat,(y+1+y/26%25)%26=(i:Int):=gE (by omega)
  have ib26:ib<26:=by omega
  have iab:ia≠ib:=by omega
  refine⟨⟨by decide,by decide⟩,by decide,by decide,big (by decide),97+ib,by rw[hib];exact bY (Dz ib ib26),?_⟩
  cbv
  have knd:=JE (a:=97+ia) (b:=97+ib) (by omega) (by omega) (by omega)
  generalize 97+ia=ca at knd
  generalize 97+ib=cb at knd
  clear hia hib
  grind
  have le1:1<=sizeLine:=big (by decide)
  have le2:2<=sizeLine:=big (by decide)
  have le3:3<=sizeLine:=big (by decide)
  have le4:4<=sizeLine:=big (by decide)
  have le5:5<=sizeLine:=big (by decide)
  have le6:6<=sizeLine:=big (by decide)
  have le8:8<=sizeLine:=big (by decide)
  have le11:11<=sizeLine:=big (by decide)
  have le14:14<=sizeLine:=big (by decide)
  refine⟨le1,fun t0 G0 v0 q0 e0=>⟨le2,fun t1 G1 v1 q1 e1=>⟨le2,fun t2 G2 v2 q2 e2=>⟨le2,fun t3 G3 v3 q3 e3=>⟨le2,le2,fun t4 G4 v4 q4 e4=>⟨le2,le2,fun t5 G5 v5 q5 e5=>⟨le6,fun l0 A0 vl0 ql0 el0=>?_⟩⟩⟩⟩⟩⟩⟩
  cbv
  grind
  refine⟨le2,le3,le2,fun t6 G6 v6 q6 e6=>⟨le2,fun t7 G7 v7 q7 e7=>⟨le2,fun l1 A1 vl1 ql1 el1=>⟨_,_,(q6.trans (q7.trans ql1)) _ _ el0,el1,le8,fun l2 A2 vl2 ql2 el2=>?_⟩⟩⟩⟩
  cbv
  grind
  refine⟨le2,le3,le4,le5,le6,le2,fun t8 G8 v8 q8 e8=>⟨le2,le3,le2,fun t9 G9 v9 q9 e9=>⟨le2,le2,fun t10 G10 v10 q10 e10=>⟨le3,fun l3 A3 vl3 ql3 el3=>⟨_,_,(q8.trans (q9.trans (q10.trans ql3))) _ _ el2,el3,le11,fun l4 A4 vl4 ql4 el4=>?_⟩⟩⟩⟩⟩
  cbv
  grind
  refine⟨le2,le3,le4,le2,fun t11 G11 v11 q11 e11=>⟨le2,le2,fun t12 G12 v12 q12 e12=>⟨le2,le3,le4,le5,le6,le2,fun t13 G13 v13 q13 e13=>⟨le3,fun l5 A5 vl5 ql5 el5=>⟨_,_,(q11.trans (q12.trans (q13.trans ql5))) _ _ el4,el5,le14,fun l6 A6 vl6 ql6 el6=>?_⟩⟩⟩⟩⟩
  cbv
  have d6:aw A5 A6:=ql6
  have d13:=ql5.trans d6
  have d12:=q13.trans d13
  have d11:=q12.trans d12
  have d4:=q11.trans d11
  have d3:=ql4.trans d4
  have d10:=ql3.trans d3
  have d9:=q10.trans d10
  have d8:=q9.trans d9
  have d2:=q8.trans d8
  have d1:=ql2.trans d2
  have d7:=ql1.trans d1
  have d6':=q7.trans d7
  have d0:=q6.trans d6'
  have d5:=ql0.trans d0
  have d5':=q5.trans d5
  have d4':=q4.trans d5'
  have d3':=q3.trans d4'
  have d2':=q2.trans d3'
  have d1':=q1.trans d2'
  have sH:aw H A6:=q0.trans d1'
  obtain⟨vs,evs,hvs⟩:∃ vs,A6 l6=some (.lst vs)/\yB A6 vs ((sL ca cb).map mkKey):=⟨_,el6,.cons ⟨t0,rfl,d1' _ _ e0⟩ (.cons ⟨t1,rfl,d2' _ _ e1⟩ (.cons ⟨t2,rfl,d3' _ _ e2⟩ (.cons ⟨t3,rfl,d4' _ _ e3⟩ (.cons ⟨t4,rfl,d5' _ _ e4⟩ (.cons ⟨t5,rfl,d5 _ _ e5⟩ (.cons ⟨t6,rfl,d6' _ _ e6⟩ (.cons ⟨t7,rfl,d7 _ _ e7⟩ (.cons ⟨t8,rfl,d8 _ _ e8⟩ (.cons ⟨t9,rfl,d9 _ _ e9⟩ (.cons ⟨t10,rfl,d10 _ _ e10⟩ (.cons ⟨t11,rfl,d11 _ _ e11⟩ (.cons ⟨t12,rfl,d12 _ _ e12⟩ (.cons ⟨t13,rfl,d13 _ _ e13⟩ .nil)))))))))))))⟩
  have lvs:vs.length=14:=Paired.length hvs
  clear d1' d2' d3' d4' d5' d5 d0 d6' d7 d1 d2 d8 d9 d10 d3 d4 d11 d12 d13 d6 q0 q1 q2 q3 q4 q5 q6 q7 q8 q9 q10 q11 q12 q13 ql0 ql1 ql2 ql3 ql4 ql5 ql6 e0 e1 e2 e3 e4 e5 e6 e7 e8 e9 e10 e11 e12 e13 el0 el1 el2 el3 el4 el5 el6 v0 v1 v2 v3 v4 v5 v6 v7 v8 v9 v10 v11 v12 v13 vl0 vl1 vl2 vl3 vl4 vl5 vl6
  grind
  refine⟨⟨by decide,by decide⟩,?_⟩
  cbv
  generalize y/650=fi
  grind
  obtain⟨st,hst,hb⟩:∃ st:Int,(st=1∨st=2)/\atI [V.int 1,V.int 2] (y/10^Int.toNat 6%2)=some (V.int st):=by
   have hy:y/10^Int.toNat 6%2=0∨y/10^Int.toNat 6%2=1:=by omega
   rcases hy with e | e<;>rw[e]
   ·exact⟨1,.inl rfl,rfl⟩
   ·exact⟨2,.inr rfl,rfl⟩
  refine⟨le2,fun p1 H1 hp1 s1 h1=>⟨⟨by decide,by decide,by decide⟩,⟨by decide,by decide⟩,by decide,_,_,.l h1,hb,?_⟩⟩
  rw[hN]
  clear hN nn hb
  grind
  intro D H2 hD s2 h2
  cbv
  have s6:=s1.trans s2
  have sA:=sH.trans s6
  have evs2:=s6 _ _ evs
  have nlp:l6≠D:=bc (s1 _ _ evs) hD
  have hvs2:yB H2 vs ((sL ca cb).map mkKey):=j8 (fun _ _ ⟨t,e,ht⟩=>⟨t,e,s6 _ _ ht⟩) hvs
  have hP2:Parts H2 p q al ws r:=⟨sA _ _ hP.1,sA _ _ hP.2⟩
  have hD0:H D=none:=(sH.trans s1).free hD
  have hM:=JJ ok w4
  have a26:=ok.a26
  have w8:=ok.w8
  have kl:(sL ca cb).length=14:=rfl
  have k0:(sL ca cb).getD 0 (0,[])=(0,[]):=rfl
  have k1:(sL ca cb).getD 1 (0,[])=(1,[ca]):=rfl
  have k2:(sL ca cb).getD 2 (0,[])=(2,[ca]):=rfl
  generalize sL ca cb=kd at knd hvs2 kl hvs k0 k1 k2
  clear hvs evs h1 hp1
  obtain⟨mkE,hmk⟩:∃ mkE:Nat->Ben,mkE=fun j=>⟨(fi+st*(j:Int))%bL al ws,mkKey (kd.getD j (0,[])),vn vs j⟩:=⟨_,rfl⟩
  have kat:∀ {j:Nat},j<14->kd[j]?=some (kd.getD j (0,[])):=fun {j} h=>by rw[List.getD_eq_getElem?_getD,List.getElem?_eq_getElem (by omega)];rfl
  have kok:∀ {j:Nat},j<14->kOk (kd.getD j (0,[]))=true:=fun h=>cw.mp knd.2 _ (bG (kat h))
  have vat:∀ {j:Nat},j<14->vs[j]?=some (.ref (vn vs j))/\H2 (vn vs j)=some (.tup ((mkKey (kd.getD j (0,[]))).map kV)):=fun h=>Ic hvs2 (by rw[aJ,kat h];rfl)
  have mnum:∀ j,(mkE j).num=(fi+st*(j:Int))%bL al ws:=fun j=>by rw[hmk]
  have mkey:∀ j,(mkE j).key=mkKey (kd.getD j (0,[])):=fun j=>by rw[hmk]
  have madr:∀ j,(mkE j).adr=vn vs j:=fun j=>by rw[hmk]
  grind
  refine⟨_,.l evs2,?_⟩
  rw[lvs]
  refine⟨by decide,by decide,lR (n:=14) (fun i σ G=>(∃ o10,σ=[some (V.ref a),some (V.ref p),some (V.int y),some (V.str (Str.ofString "abcdefghijklmnopqrstuvwxyz")),some (V.str { cps:=#[ca] }),some (V.str { cps:=#[cb] }),some (V.ref l6),some (V.int fi),some (V.int st),some (V.ref D),o10])/\(∀ c o,c≠D->H2 c=some o->G c=some o)/\∃ js:List Nat,js.Pairwise (·<·)/\(∀ j∈js,j<i)/\(∀ j,j<3->j<i->j∈js)/\G D=some (.dK (gR (js.map mkE)))) ?_ ?_ ?_⟩
  ·exact⟨⟨_,rfl⟩,(fun c o _ e=>e),[],.nil,(fun j h=>by cases h),(fun j _ h=>by omega),h2⟩
  ·rintro i σ G hi ⟨⟨o10,rfl⟩,kp,js,jp,jl,j3,hGD⟩ N hNx
   clear hN
   have hi14:i<14:=hi
   have jlen:js.length<=14:=by
    have:=qA (List.range 14) js (mD (fun h=>aS h) jp) fun j hj=>bN.mpr (by have:=jl j hj;omega)
    rwa [List.length_range] at this
   have fin:∀ G':Hp,aw G G'->N [some (V.ref a),some (V.ref p),some (V.int y),some (V.str (Str.ofString "abcdefghijklmnopqrstuvwxyz")),some (V.str { cps:=#[ca] }),some (V.str { cps:=#[cb] }),some (V.ref l6),some (V.int fi),some (V.int st),some (V.ref D),some (V.int (i:Int))] (upd G' D (.dK (putK (gR (js.map mkE)) (.inl ((fi+st*(i:Int))%bL al ws)) (V.ref (vn vs i))))):=fun G' t=>by
    refine hNx _ _ ⟨⟨_,rfl⟩,(fun c o hc e=>by rw[aD hc];exact t _ _ (kp c o hc e)),js++[i],?_,?_,?_,?_⟩
    ·refine List.pairwise_append.mpr ⟨jp,List.pairwise_singleton _ _,fun x hx y hy=>?_⟩
     rw[aV.mp hy];exact jl x hx
    ·intro j hj
     rcases bz.mp hj with hj | hj
     ·have:=jl j hj;omega
     ·rw[aV.mp hj];omega
    ·intro j h3 hj
     by_cases e:j=i
     ·rw[e];exact dR _ (aV.mpr rfl)
     ·exact ky _ (j3 j h3 (by omega))
    ·rw[a8,List.map_append,kx,uV,vZ,mnum,madr]
     refine sR fun hm=>?_
     rw[List.map_map] at hm
     obtain⟨j,hj,e⟩:=aE.mp hm
     have e':(mkE j).num=(fi+st*(i:Int))%bL al ws:=e
     rw[mnum] at e'
     exact ES hM hst (jl j hj) hi14 e'
   have hlG:=kp _ _ nlp evs2
   have hPG:Parts G p q al ws r:=⟨kp _ _ (fun e=>by have:=hP.1;rw[e,hD0] at this;cases this) hP2.1,kp _ _ (fun e=>by have:=hP.2;rw[e,hD0] at this;cases this) hP2.2⟩
   rw[km]
   by_cases h3:i<3
   ·and_intros
    rw[aq (show (i:Int)<3 by omega)]
    and_intros
    refine⟨_,_,.l hlG,bY (vat hi14).1,⟨cI (show st.natAbs<=1000 by omega) (by decide),cI (show ((i:Int)).natAbs<=1000 by omega) (by decide)⟩,p,q,al,ws,r,rfl,hPG,by omega,by omega,by omega,fun G1 t1=>?_⟩
    and_intros
    exact⟨by omega,D,_,rfl,yu.k (k:=.inl _) (t1 _ _ hGD) (aj (by rw[kg,List.length_map];omega)),fin G1 t1⟩
   ·and_intros
    rw[decide_eq_false (show ¬ (i:Int)<3 by omega)]
    and_intros
    refine⟨⟨by decide,by decide,by decide⟩,⟨by decide,by decide⟩,⟨by omega,Int.lt_of_lt_of_le (show (i:Int)+1<1000 by omega) (by decide)⟩,by decide,?_⟩
    cases decide (0<y/10^Int.toNat 8/((i:Int)+1)%4) with
    | true =>
     rw[if_pos rfl]
     refine⟨_,_,.l hlG,bY (vat hi14).1,⟨cI (show st.natAbs<=1000 by omega) (by decide),cI (show ((i:Int)).natAbs<=1000 by omega) (by decide)⟩,p,q,al,ws,r,rfl,hPG,by omega,by omega,by omega,fun G1 t1=>?_⟩
     and_intros
     exact⟨by omega,D,_,rfl,yu.k (k:=.inl _) (t1 _ _ hGD) (aj (by rw[kg,List.length_map];omega)),fin G1 t1⟩
    | false =>
     rw[if_neg (by decide)]
     exact hNx _ _ ⟨⟨_,rfl⟩,kp,js,jp,(fun j hj=>by have:=jl j hj;omega),(fun j h4 hj=>j3 j h4 (by omega)),hGD⟩
  ·rintro σ G ⟨⟨o10,rfl⟩,kp,js,jp,jl,j3,hGD⟩
   show nn _ _ _
   cbv
   and_intros
   have jnd:js.Nodup:=mD (fun h=>aS h) jp
   have jlen:js.length<=14:=by
    have:=qA (List.range 14) js jnd fun j hj=>bN.mpr (jl j hj)
    rwa [List.length_range] at this
   have hm0:∀ e∈js.map mkE,∃ j,j<14/\e=mkE j:=fun e he=>by
    obtain⟨j,hj,rfl⟩:=aE.mp he
    exact⟨j,jl j hj,rfl⟩
   have get:∀ j,j<3->mkE j∈js.map mkE:=fun j h=>iB (j3 j h (by omega))
   refine k D (js.map mkE) G hD0 (fun c o e=>kp c o (fun z=>by rw[z,hD0] at e;cases e) (sA _ _ e)) hGD ⟨fun e he=>?_,?_,?_,fun e he=>?_,by rw[List.length_map];exact jlen,fun e he l hl=>?_,?_,?_,?_⟩
   ·obtain⟨j,hj,rfl⟩:=hm0 e he
    rw[madr,mkey]
    exact kp _ _ (fun z=>by have:=(vat hj).2;rw[z,h2] at this;cases this) (vat hj).2
   ·rw[List.map_map]
    refine gM.mpr (kn (fun {x y} hx hy hxy e=>?_) jp)
    have e':(mkE x).num=(mkE y).num:=e
    rw[mnum,mnum] at e'
    exact ES hM hst hxy (jl y hy) e'
   ·rw[List.map_map]
    refine gM.mpr (kn (fun {x y} hx hy hxy e=>?_) jp)
    have e':(mkE x).key=(mkE y).key:=e
    rw[mkey,mkey] at e'
    have hx':=jl x hx
    have hy':=jl y hy
    have e2:=CI (kok hx') (kok hy') e'
    have e3:kd[x]?=kd[y]?:=by rw[kat hx',kat hy',e2]
    have:=(List.getElem?_inj (by omega) knd.1).mp e3
    omega
   ·obtain⟨j,hj,rfl⟩:=hm0 e he
    rw[mkey,mnum]
    exact⟨EK (kok hj),c4 _ (by omega),cH _ (by omega)⟩
   ·obtain⟨j,hj,rfl⟩:=hm0 e he
    rw[mkey] at hl
    have hk:=kok hj
    generalize kd.getD j (0,[])=kq at hl hk
    obtain⟨k1,l1⟩:=kq
    rcases ni hk with e2 | ⟨e2,_⟩ | ⟨e2,_,h4,_⟩
    ·rw[e2,mk0] at hl;cases hl
    ·have e3:k1=1:=e2
     subst e3;rw[mk1] at hl
     simp only[List.cons.injEq,Sum.inr.injEq,and_true] at hl
     exact absurd hl.1 (by decide)
    ·have e3:k1=2:=e2
     subst e3;rw[mk2] at hl
     simp only[List.cons.injEq,Sum.inr.injEq,true_and,and_true] at hl
     rw[←hO hl];exact h4
   ·exact⟨mkE 0,get 0 (by decide),by rw[mkey,k0];rfl⟩
   ·exact⟨mkE 1,get 1 (by decide),_,by rw[mkey,k1];rfl⟩
   ·exact⟨mkE 2,get 2 (by decide),_,by rw[mkey,k2];rfl⟩
theorem Hf (ok:jI key) (h:kdB "part" key=true):∃ l,key=[.inr "part",.inr (tx l)]/\dF 6 l=true:=by
 rcases ig ok with ⟨l,rfl,_⟩ | ⟨l,rfl,hl⟩ | rfl
 ·exact absurd h (by show ¬ decide (("phrase":Str)="part")=true;decide)
 ·exact⟨l,rfl,hl⟩
 ·exact absurd h (by show ¬ decide (("end":Str)="part")=true;decide)
theorem kd_end (ok:jI key) (h:kdB "end" key=true):key=[.inr "end"]:=by
 rcases ig ok with ⟨l,rfl,_⟩ | ⟨l,rfl,hl⟩ | rfl
 ·exact absurd h (by show ¬ decide (("phrase":Str)="end")=true;decide)
 ·exact absurd h (by show ¬ decide (("part":Str)="end")=true;decide)
 ·rfl
theorem uN (ok:jI key) (h:kdB "phrase" key=true):∃ l,key=[.inr "phrase",.inr (tx l)]:=by
 rcases ig ok with ⟨l,rfl,_⟩ | ⟨l,rfl,hl⟩ | rfl
 ·exact⟨l,rfl⟩
 ·exact absurd h (by show ¬ decide (("part":Str)="phrase")=true;decide)
 ·exact absurd h (by show ¬ decide (("end":Str)="phrase")=true;decide)
def nC (K:PySem.W.Frag):Sp:=fun vs H Q _=>∃ (c D:Addr) (cs:List Int) (es:List Ben) (ob:Obj) (al:List Nat) (ws:List Int),vs=[.ref c,.ref D]/\H c=some (.lst (cs.map V.int))/\cs.length<=20/\H D=some (.frz ob (.dK (gR es)))/\Du al ws H es ∧
 ∀ (g:Addr) (gs:List Int) (wd:List (List Nat)) H',H g=none->aw H H'->H' g=some (.lst (gs.map V.int))->1<=gs.length->gs.length<=80->(∀ x∈gs,x∈es.map (·.num))->lj ((gs.map V.int).map (kOf es))=.inr wd->Q (.ref g) H'
theorem fK:aG ["_law_cells","_law_entries_here","_law_groups_here","_law_cell","_law_number","_law_k"] ["_law_cells","_law_entries_here"] (ar lh):=by subst_eqs
theorem ur (F:Fun K "_law_groups" "_law_groups" lh f fd) (T:Bl mg) (AF:AdF K mg Ad) (C_law_group:Fnc P w K mg base (CX1 P w) 1 "_law_group" ["_law_entries_here","_law_sort","_law_number"] (pB K)) (C_law_mixed:Fnc P w K mg base (CX1 P w) 1 "_law_mixed" ["_law_cell"] gC):bJ P w K mg base (CX1 P w) 2 f fd ["_law_cells","_law_entries_here"] (nC K):=by
 refine F.okX (k:=1) fK ?_ ?_
 ·bv_decide
 ·bv_normalize
  obtain⟨c,D,cs,es,ob,al,ws,rfl,hc,c20,hD,eo,k⟩:=h
  refine⟨_,af (aA (i:=2) fK.nd (bR (ae))) (af (eQ cf rfl (ck (K:=K) rfl (pvL 0)) (aL (i:=3) fK.nd) (af (aA (i:=4) fK.nd (ay C_law_mixed av (hr.mono (by decide)) (ag (pvL 3) (ae)))) (ai (bH (aN (cD (K:=K) rfl hu) (ax bV (pvL 4) (ao)) (ao) (aQ _)) (af (eQ cf rfl (eU T.range (ag (ax aC (ao) (ax bV (ax cB (pvL 4) (ao)) (ao))) (ae))) (aL (i:=5) fK.nd) (ai (dM (dq (K:=K) rfl eM fP fQ dO (pvL 2) (ag (ay C_law_group av (hr.mono (by decide)) (ag (pvL 1) (ag (aM) (ag (ax aC (ax cB (pvL 4) (ao)) (ax AV (ao) (pvL 5))) (ae))))) (ae)))))) (ai (dM (dq (K:=K) rfl eM fP fQ dO (pvL 2) (ag (ay C_law_group av (hr.mono (by decide)) (ag (pvL 1) (ag (aM) (ag (ao) (ae))))) (ae)))))) (ai (dM (dq (K:=K) rfl eM fP fQ dO (pvL 2) (ag (ay C_law_group av (hr.mono (by decide)) (ag (pvL 1) (ag (aM) (ag (ax cB (pvL 4) (ao)) (ae))))) (ae))))))))) (af (bH (aN (cD (K:=K) rfl hu) (pvL 2) (bR (ae)) (aQ _)) (ai (dM (dq (K:=K) rfl eM fP fQ dO (pvL 2) (ag (ay C_law_group av (hr.mono (by decide)) (ag (pvL 1) (ag (aM) (ag (ao) (ae))))) (ae))))) (aU)) (ai (aF (pvL 2))))),?_⟩
  have hE:yv H D es:=⟨.inr ⟨ob,hD⟩,eo.en,eo.nn⟩
  have hok:∀ e∈es,jI e.key:=fun e he=>(eo.ok e he).1
  grind
  refine⟨aT _,fun g H1 hg s1 h1=>?_⟩
  cbv
  grind
  have hc1:=s1 _ _ hc
  refine .inl ⟨⟨_,.of hc1⟩,ka (xs:=cs.map V.int) (fun i σ G=>(∃ o3 o4 o5,σ=[some (V.ref c),some (V.ref D),some (V.ref g),o3,o4,o5])/\aw H G/\∃ (grp:List Ben) (wd:List (List Nat)),G g=some (.lst ((grp.map fun e=>e.num).map V.int))/\(∀ e∈grp,e∈es)/\grp.length<=4*i/\i<=grp.length/\runK (grp.map fun e=>e.key) ([],[])=some (wd,[])/\wd.length<=3*i/\(1<=i->wd≠[])) ?_ ?_ ?_ ?_⟩
  ·exact⟨⟨_,_,_,rfl⟩,s1,[],[],h1,(fun e he=>by cases he),ak _,ak _,rfl,ak _,fun h=>by omega⟩
  ·rintro i σ G _ ⟨_,sG,_⟩
   exact .of (sG _ _ hc)
  ·rintro i v σ G hi ⟨⟨o3,o4,o5,rfl⟩,sG,grp,wd,hgG,hgr,gl,gl2,hrun,wl,wne⟩ N hNx
   clear hN
   rw[aJ] at hi
   obtain⟨x,hx,rfl⟩:=dB.mp hi
   have hil:=(bf.mp hx).1
   refine fY fun n2 hM=>?_
   and_intros
   refine⟨x,rfl,?_⟩
   have y0:=rV x
   generalize CH x=y at y0
   rw[hM]
   clear hM n2
   and_intros
   refine⟨by decide,?_⟩
   by_cases h3:y%3=0
   ·rw[aq h3,if_pos rfl]
    refine fY fun n2 hM=>?_
    and_intros
    have m0:0<=y/3%3/\y/3%3<3:=by omega
    refine⟨⟨by decide,by decide⟩,by decide,by omega,by omega,?_⟩
    refine lR (n:=(1+y/3%3).toNat) (fun j σ G'=>(∃ o5,σ=[some (V.ref c),some (V.ref D),some (V.ref g),some (V.int x),some (V.int y),o5])/\aw H G'/\∃ (gr:List Ben) (sp:List Nat),G' g=some (.lst ((gr.map fun e=>e.num).map V.int))/\(∀ e∈gr,e∈es)/\gr.length<=4*i+j/\i<=gr.length/\runK (gr.map fun e=>e.key) ([],[])=some (wd,sp)/\sp.length<=6*j/\(1<=j->sp≠[])) ?_ ?_ ?_
    ·exact⟨⟨_,rfl⟩,sG,grp,[],hgG,hgr,by omega,gl2,hrun,by simp,fun h=>by omega⟩
    ·rintro j σ G' hj ⟨⟨o5,rfl⟩,sG',gr,sp,hg',hgr',gl',gl2',hrun',sl,sne⟩ N2 hN2
     clear hM hNx
     and_intros
     refine⟨.inl ⟨rfl,_,.of hg'⟩,⟨by decide,by decide⟩,.inl (by decide),D,es,ob,_,_,rfl,sG' _ _ hD,hE.same sG',hok,eo.few,?_,fun e he hz G1 t1=>?_⟩
     ·obtain⟨e,he,l,ek⟩:=eo.hP
      exact⟨e,he,by rw[ek];rfl⟩
     obtain⟨l,ek,hl⟩:=Hf (hok e he) hz
     obtain⟨l1,l6,_⟩:=qy hl
     refine⟨g,_,_,rfl,rfl,t1 _ _ hg',by rw[List.length_map,List.length_map];exact aj (by omega),hN2 _ _ ⟨⟨_,rfl⟩,(sG'.trans t1).bZ hg,gr++[e],sp++l,?_,?_,?_,?_,?_,?_,fun _ z=>?_⟩⟩
     ·rw[a8,List.map_append,List.map_append];rfl
     ·intro e' he'
      rcases bz.mp he' with h | h
      ·exact hgr' e' h
      ·rw[aV.mp h];exact he
     ·rw[List.length_append,c8];omega
     ·rw[List.length_append];omega
     ·rw[List.map_append,kx]
      refine tK hrun' ?_
      rw[ek,iX,if_pos ⟨by show wd.length<60;omega,by show sp.length+l.length<=20;omega⟩]
     ·rw[List.length_append];omega
     ·have:=bu List.length z
      rw[List.length_append,gK] at this
      omega
    ·rintro σ G' ⟨⟨o5,rfl⟩,sG',gr,sp,hg',hgr',gl',gl2',hrun',sl,sne⟩
     show n2 _ _ _
     rw[hM]
     clear hM n2
     and_intros
     refine⟨.inl ⟨rfl,_,.of hg'⟩,D,es,ob,_,_,rfl,sG' _ _ hD,hE.same sG',hok,eo.few,?_,fun e he hz G1 t1=>?_⟩
     ·obtain⟨e,he,ek⟩:=eo.hE
      exact⟨e,he,by rw[ek];rfl⟩
     have ek:=kd_end (hok e he) hz
     have spne:sp≠[]:=sne (by omega)
     refine⟨g,_,_,rfl,rfl,t1 _ _ hg',by rw[List.length_map,List.length_map];exact aj (by omega),hNx _ _ ⟨⟨_,_,_,rfl⟩,(sG'.trans t1).bZ hg,gr++[e],wd++[sp],?_,?_,?_,?_,?_,?_,fun _ z=>?_⟩⟩
     ·rw[a8,List.map_append,List.map_append];rfl
     ·intro e' he'
      rcases bz.mp he' with h | h
      ·exact hgr' e' h
      ·rw[aV.mp h];exact he
     ·rw[List.length_append,c8];omega
     ·rw[List.length_append,c8];omega
     ·rw[List.map_append,kx]
      refine tK hrun' ?_
      rw[ek,ki,if_neg spne]
     ·rw[List.length_append,c8];omega
     ·simp at z
   ·rw[decide_eq_false h3,if_neg (by decide)]
    refine⟨.inl ⟨rfl,_,.of hgG⟩,⟨by decide,by decide⟩,D,es,ob,_,_,rfl,sG _ _ hD,hE.same sG,hok,eo.few,?_,fun e he hz G1 t1=>?_⟩
    ·obtain⟨e,he,l,ek⟩:=eo.hF
     exact⟨e,he,by rw[ek];rfl⟩
    obtain⟨l,ek⟩:=uN (hok e he) hz
    have p3:=eo.ph e he l ek
    have p1:=FG 32 l
    refine⟨g,_,_,rfl,rfl,t1 _ _ hgG,by rw[List.length_map,List.length_map];exact aj (by omega),hNx _ _ ⟨⟨_,_,_,rfl⟩,(sG.trans t1).bZ hg,grp++[e],wd++Mk.aY 32 l,?_,?_,?_,?_,?_,?_,fun _ z=>?_⟩⟩
    ·rw[a8,List.map_append,List.map_append];rfl
    ·intro e' he'
     rcases bz.mp he' with h | h
     ·exact hgr e' h
     ·rw[aV.mp h];exact he
    ·rw[List.length_append,c8];omega
    ·rw[List.length_append,c8];omega
    ·rw[List.map_append,kx]
     refine tK hrun ?_
     rw[ek,eY,if_pos ⟨rfl,by show wd.length+_<=60;omega⟩]
    ·rw[List.length_append];omega
    ·have:=bu List.length z
     rw[List.length_append,gK] at this
     omega
  rintro σ G ⟨⟨o3,o4,o5,rfl⟩,sG,grp,wd,hgG,hgr,gl,gl2,hrun,wl,wne⟩
  show nn _ _ _
  cbv
  rw[List.length_map] at gl gl2 wl wne
  refine Ay (fun σ G'=>(∃ o3 o4 o5,σ=[some (V.ref c),some (V.ref D),some (V.ref g),o3,o4,o5])/\aw H G'/\∃ (grp:List Ben) (wd:List (List Nat)),G' g=some (.lst ((grp.map fun e=>e.num).map V.int))/\(∀ e∈grp,e∈es)/\grp.length<=80/\1<=grp.length/\runK (grp.map fun e=>e.key) ([],[])=some (wd,[])/\wd≠[]) ?_ ?_
  ·rintro σ G' ⟨⟨o3,o4,o5,rfl⟩,sG',grp,wd,hg',hgr',l80,l1,hrun',wne'⟩
   and_intros
   exact k g _ wd G' hg sG' hg' (by rw[List.length_map];exact l1) (by rw[List.length_map];exact l80) (fun x hx=>by obtain⟨e,he,rfl⟩:=aE.mp hx;exact iB (hgr' e he)) (HQ eo.nn hgr' rfl hrun' wne')
  ·intro U hU
   and_intros
   refine⟨aT _,fun p3 G3 hp3 s3 h3=>⟨_,_,.of (s3 _ _ hgG),.of h3,uH _,rfl,?_⟩⟩
   cases grp with
   | nil =>
    rw[if_pos (by rfl)]
    have hg3:=s3 _ _ hgG
    refine⟨.inl ⟨rfl,_,.of hg3⟩,D,es,ob,_,_,rfl,(sG.trans s3) _ _ hD,hE.same (sG.trans s3),hok,eo.few,?_,fun e he hz G1 t1=>?_⟩
    ·obtain⟨e,he,l,ek⟩:=eo.hF
     exact⟨e,he,by rw[ek];rfl⟩
    obtain⟨l,ek⟩:=uN (hok e he) hz
    have p3:=eo.ph e he l ek
    have p1:=FG 32 l
    refine⟨g,_,_,rfl,rfl,t1 _ _ hg3,aj (by decide),hU _ _ ⟨⟨_,_,_,rfl⟩,((sG.trans s3).trans t1).bZ hg,[e],Mk.aY 32 l,?_,?_,(by show 1<=80;decide),ak _,?_,fun z=>?_⟩⟩
    ·rw[a8];rfl
    ·intro e' he'
     rw[aV.mp he'];exact he
    ·show (match stepK e.key ([],[]) with | none=>none | some t=>runK [] t)=_
     rw[ek,eY,if_pos ⟨rfl,by show 0+_<=60;omega⟩]
     show some ([]++Mk.aY 32 l,([]:List Nat))=_
     rw[List.nil_append]
    ·have:=bu List.length z
     rw[gK] at this
     omega
   | cons e0 gr =>
    rw[if_neg (by show ¬ lK (V.int e0.num::_) []=true;exact bE)]
    have hl1:1<=cs.length:=by
     cases cs with
     | nil=>rw[aO,gK] at gl;omega
     | cons _ _=>rw[aO];omega
    exact hU _ _ ⟨⟨_,_,_,rfl⟩,sG.trans s3,e0::gr,wd,s3 _ _ hgG,hgr,by omega,by rw[aO];omega,hrun,wne hl1⟩
def dW (H:Hp) (m:Int):V->Bool
 | .ref p=>match H p with
  | some (.lst xs)=>decide (3<=xs.length)&&decide (xs.length<=8)&&xs.all (cu m)
  | _=>false
 | _=>false
def mw:Sp:=fun vs H Q _=>∃ (x:V) (t:Tg) (m:Int),vs=[x,.int m]/\eG H x=some t/\(∀ p o u,x=.ref p->H p≠some (.frz o u))/\(∀ p xs,x=.ref p->H p=some (.lst xs)->xs.length<=1000/\∀ y∈xs,∃ t,eG H y=some t) ∧
 ∀ H',aw H H'->Q (.bl (dW H m x)) H'
theorem tO:aG ["thing","m"] ["thing","m"] (ar jN):=by subst_eqs
theorem sV (F:Fun K "are_weights" "are_weights" jN f fd) (T:Bl mg) (AF:AdF K mg Ad) (C_is_below:Fnc P w K mg base (CX1 P w) 2 "is_below" ["thing","bound"] gj):bJ P w K mg base (CX1 P w) 3 f fd ["thing","m"] mw:=by
 refine F.okX (k:=2) tO ?_ ?_
 ·bv_decide
 ·bv_normalize
  obtain⟨x,t,m,rfl,ht,hfz,hit,k⟩:=h
  refine⟨_,af (bH ((gT (cF (cq (au (eN .lst) T.isinstance bt_isinstance (ag (pvL 0) (ag (jJ T.list j6) (ae)))))) (fF (cF (oV iH iH (ao) (au (aH (K:=K) rfl) T.len b9 (ag (pvL 0) (ae))) (ao))))).pt) (ai (aF (kh))) (aU)) (ai (aF (au (gU (K:=K) rfl rfl) T.all nH (ag (gS ["weight"] rfl ⟨rfl,by decide +kernel,rfl,by decide +kernel⟩ (.cons (j:=1) rfl (.inl (by kernel_rfl)) (.nil)) (by decide +kernel) (ck (K:=K) rfl (pvL 0)) (fun _ _ _ _=>aL (i:=0) (show (["weight","m"]:List Str).Nodup from by decide +kernel)) (fun _ _ _ _=>dI) (fun _ _ _ _=>ay C_is_below eT (hr.mono (by decide)) (ag (pvL 0) (ag (pvC 1) (ae))))) (ae))))),?_⟩
  by_cases hs:∃ p xs,x=.ref p/\H p=some (.lst xs)
  ·obtain⟨p,xs,rfl,hp⟩:=hs
   obtain⟨hl,hty⟩:=hit p xs rfl hp
   have et:t=Tg.lst:=by
    have:kj (H p)=some t:=ht
    rw[hp] at this;cases this;rfl
   subst et
   have ek:dW H m (.ref p)=(decide (3<=xs.length)&&decide (xs.length<=8)&&xs.all (cu m)):=by
    show (match H p with | some (.lst xs)=>_ | _=>false)=_
    rw[hp]
   rw[ek] at k
   ac_nf
   refine⟨trivial,Tg.lst,ht,?_⟩
   ac_nf
   refine⟨_,.l hp,?_⟩
   by_cases h3:3<=xs.length
   ·rw[aq h3,dA] at k
    rw[aq (show (3:Int)<=(xs.length:Int) by omega)]
    bv_omega
    by_cases h8:xs.length<=8
    ·rw[aq h8,dA] at k
     rw[aq (show (xs.length:Int)<=8 by omega)]
     bv_omega
     refine .inl ⟨⟨_,.of hp⟩,EF (xs:=xs) (eJ (.of hp)) (aj (by omega)) (fun y=>.bl (cu m y)) ?_ ?_⟩
     ·intro y hy H2 s2 R hR
      obtain⟨ty,hty⟩:=hty y hy
      have hty2:eG H2 y=some ty:=gD s2 hty
      ac_nf
      refine⟨y,ty,m,rfl,hty2,?_⟩
      exact hR H2 (aw.refl _)
     ·intro D H2 hD s2 h2
      refine⟨D,xs.map (cu m),rfl,.of (by rw[h2,List.map_map];rfl),?_⟩
      have e:(xs.map (cu m)).all id=xs.all (cu m):=by rw[List.all_map];rfl
      rw[e]
      exact k H2 s2
    ·rw[decide_eq_false h8,fW] at k
     rw[decide_eq_false (show ¬ (xs.length:Int)<=8 by omega)]
     bv_omega
     exact k H (aw.refl _)
   ·rw[decide_eq_false h3,fW,fW] at k
    rw[decide_eq_false (show ¬ (3:Int)<=(xs.length:Int) by omega)]
    bv_omega
    exact k H (aw.refl _)
  ·have hv:dW H m x=false:=by
    cases x with
    | ref p =>
     show (match H p with | some (.lst xs)=>_ | _=>false)=_
     split
     ·rename_i xs hp;exact absurd ⟨p,xs,rfl,hp⟩ hs
     ·rfl
    | _=>rfl
   have hne:t≠Tg.lst:=fun e=>by
    subst e
    cases x with
    | ref a =>
     have h':kj (H a)=some .lst:=ht
     cases e:H a with
     | none=>rw[e] at h';cases h'
     | some o=>rw[e] at h';cases o with
      | lst xs=>exact hs ⟨a,xs,rfl,e⟩
      | frz ob u=>exact hfz a ob u rfl e
      | _=>cases h'
    | _=>cases ht
   rw[hv] at k
   ac_nf
   refine⟨trivial,t,ht,?_⟩
   cases t<;>first
    | exact absurd rfl hne
    | exact k H (aw.refl _)
def lr (Ad:Ads):Sp:=fun vs H Q E=>∃ (a:Addr) (al:List Nat) (ws:List Int) (r:Int) (x:V) (t:Tg),vs=[.ref a,x]/\cx Ad H a al ws r/\bD al ws r/\eG H x=some t ∧
 (cu ((al.length:Int)^(ws.length-1)) x=false->∀ H',aw H H'->E (.ref Ad.NoNumber) none H') ∧
 (∀ k,x=.int k->0<=k->k<(al.length:Int)^(ws.length-1)->∀ H',aw H H'->Q (.str (tx (Mk.bA al (Mk.jH al.length ws r k)))) H')
theorem eC:aG ["self","k","m","left","ahead","weight","lasts"] ["self","k"] (ar lZ):=by subst_eqs
theorem vM (F:Fun K "word" "Code.word" lZ f fd) (T:Bl mg) (AF:AdF K mg Ad) (C_spelled:Fnc P w K mg base (CX1 P w) 1 "spelled" ["alphabet","places"] ox) (C_are_good:Fnc P w K mg base (CX1 P w) 1 "are_good" ["m","weights","rest","places"] mq) (C_is_below:Fnc P w K mg base (CX1 P w) 2 "is_below" ["thing","bound"] gj) (M_Code_many:Mtd P w K mg base (CX1 P w) Ad.Code "many" 1 ["self"] (fz Ad)):bJ P w K mg base (CX1 P w) 3 f fd ["self","k"] (lr Ad):=by
 refine F.okX (k:=2) eC ?_ ?_
 ·bv_decide
 ·bv_normalize
  obtain⟨a,al,ws,r,x,t,rfl,⟨dx,q,h1,h2⟩,ok,ht,kE,kQ⟩:=h
  refine⟨_,af (bH (cF (cq (ay C_is_below av (hr.mono (by decide)) (ag (pvL 1) (ag (cE M_Code_many av (hr.mono (by decide)) (pvC 0)) (ae)))))) (ai (du cT AF.q_NoNumber AF.g_NoNumber cL rfl (ag (aM) (ae)))) (aU)) (af (fV (i:=2) eC.nd (au (aH (K:=K) rfl) T.len b9 (ag (cj (K:=K) rfl (pvC 0)) (ae)))) (af (aA (i:=3) eC.nd (pvL 1)) (af (fV (i:=4) eC.nd (bR (ae))) (af (eQ cf rfl (ck (K:=K) rfl (cG (iu (K:=K) rfl) (cj (K:=K) rfl (pvC 0)) (di (ao)) (dJ))) (aL (i:=5) eC.nd) (af (dM (dq (K:=K) rfl eM PySem.F.slot_list_insert PySem.F.type_list_insert CK (pvC 4) (ag (ao) (ag (ax bV (pvL 3) (pvC 2)) (ae))))) (ai (aA (i:=3) eC.nd (ax cB (pvL 3) (pvC 2)))))) (af (lW (i:=6) ["last"] eC.nd rfl (Or.inl rfl) rfl ⟨rfl,by decide +kernel,rfl,by decide +kernel⟩ (.cons (j:=2) rfl (.inl (by kernel_rfl)) (.cons (j:=0) rfl (.inl (by kernel_rfl)) (.cons (j:=4) rfl (.inl (by kernel_rfl)) (.nil)))) (by decide +kernel) (eU T.range (ag (pvC 2) (ae))) (fun _ _ _ _=>aL (i:=0) (show (["last","m","self","ahead"]:List Str).Nodup from by decide +kernel)) (fun _ _ _ _=>kT (cq (ay C_are_good eT (hr.mono (by decide)) (ag (pvC 1) (ag (cj (K:=K) rfl (pvC 2)) (ag (cj (K:=K) rfl (pvC 2)) (ag (ax aC (pvC 3) (bR (ag (pvL 0) (ae)))) (ae)))))))) (fun _ _ _ _=>pvL 0)) (ai (aF (ay C_spelled av (hr.mono (by decide)) (ag (cj (K:=K) rfl (pvC 0)) (ag (ax aC (pvC 4) (pvL 6)) (ae))))))))))),?_⟩
  have g3:=ok.a3
  have g26:=ok.a26
  have w3:=ok.w3
  have w8:=ok.w8
  rw[dm]
  and_intros
  refine⟨dx,_,h1,bQ (by decide) (by decide) (by decide) al q r,a,al,ws,r,rfl,⟨dx,q,h1,h2⟩,g26,by omega,w8,fun H1 s1=>?_⟩
  and_intros
  refine⟨x,t,_,rfl,gD s1 ht,?_⟩
  cases hG:cu ((al.length:Int)^(ws.length-1)) x with
  | false =>
   bv_omega
   exact⟨by decide,kE hG H1 s1⟩
  | true =>
   bv_omega
   obtain⟨k,rfl⟩:∃ k,x=.int k:=by
    cases x with
    | int k=>exact⟨k,rfl⟩
    | _=>cases hG
   have hG':(decide (0<=k)&&decide (k<(al.length:Int)^(ws.length-1)))=true:=hG
   rw[bI,bC,bC] at hG'
   have kQ':=kQ k rfl hG'.1 hG'.2
   have h11:=s1 _ _ h1
   have h21:=s1 _ _ h2
   rw[dm]
   and_intros
   refine⟨_,dx,_,_,h11,AF.c_Code,AF.n_Code_letters,dG al q r,?_⟩
   and_intros
   rw[bj]
   refine⟨aP (aj (by omega)),?_⟩
   and_intros
   rw[dm]
   and_intros
   rw[dm]
   and_intros
   refine⟨aT _,fun p H2 hp s2 hp2=>?_⟩
   rw[dm]
   and_intros
   refine⟨_,dx,_,_,s2 _ _ h11,AF.c_Code,AF.n_Code_factors,fG al q r,?_⟩
   and_intros
   refine⟨_,.of (s2 _ _ h21),fun q1 H3 hq1 s3 h3=>.inl ⟨⟨_,.of h3⟩,?_⟩⟩
   rw[show (1:Int)=((1:Nat):Int) from rfl,eO,←fM] at h3
   have hp3:=s3 _ _ hp2
   have hqp:q1≠p:=fun e=>by rw[e,hp2] at hq1;cases hq1
   have hap:a≠p:=fun e=>by rw[←e,h11] at hp;cases hp
   have hqq:q≠p:=fun e=>by rw[←e,h21] at hp;cases hp
   have h13:=s3 _ _ (s2 _ _ h11)
   have h23:=s3 _ _ (s2 _ _ h21)
   have m0:(0:Int)<al.length:=by omega
   refine rS (xs:=(ws.drop 1).map V.int) (fun i σ H'=>(∀ b o,b≠p->H3 b=some o->H' b=some o)/\H' p=some (.lst ((Mk.jx al.length i k).map V.int))/\∃ o,σ=[some (.ref a),some (.int k),some (.int al.length),some (.int (k/(al.length:Int)^i)),some (.ref p),o,none]) ?_ ?_ ?_ ?_
   ·exact⟨fun _ _ _ h=>h,hp3,none,by rw[Int.pow_zero,Int.ediv_one]⟩
   ·rintro i σ H' _ ⟨f1,_⟩
    exact .of (f1 _ _ hqp h3)
   ·rintro i x σ H' hx ⟨f1,f2,o,rfl⟩
    have hi:i<ws.length-1:=by
     have:=(bf.mp hx).1
     rw[List.length_map,bK] at this
     exact this
    ac_nf
    refine⟨.inl ⟨rfl,_,.of f2⟩,m0,_,f2,Int.le_refl 0,by decide,?_,⟨m0,Int.lt_of_lt_of_le (show (al.length:Int)<1000 by omega) (by decide)⟩,fun b o hb e=>?_,?_,some x,?_⟩
    ·rw[List.length_map,Mk.jZ]
     exact aj (by omega)
    ·rw[aD hb]
     exact f1 b o hb e
    ·rw[a8,Mk.uG m0]
     rfl
    ·rw[Int.ediv_ediv_of_nonneg (Int.pow_nonneg (iy m0)),Int.pow_succ]
   ·rintro σ H' ⟨f1,f2,o,rfl⟩
    rw[List.length_map,bK] at f2
    have f13:=f1 _ _ hap h13
    have f23:=f1 _ _ hqq h23
    have fm:=Mk.sC m0 (ws.length-1) k
    have fl:=Mk.jZ al.length (ws.length-1) k
    obtain⟨l1,l2,l3,-⟩:=Mk.nq (r:=r) m0 (by omega) ok.wm (Mk.ir.mp ok.safe).1 (show (Mk.jx al.length (ws.length-1) k).length+1=ws.length by omega)
    ac_nf
    refine⟨by omega,by omega,?_⟩
    refine ED V.int iO (wj al.length) (by rw[Mk.oO];exact aj (by omega)) (fun x=>Mk.good al.length ws r (Mk.jx al.length (ws.length-1) k++[x])) V.int ?_ ?_ ?_
    ·intro x hx H5 s5 R hR
     have hxm:=Mk.gu.mp hx
     ac_nf
     refine⟨_,dx,_,_,s5 _ _ f13,AF.c_Code,AF.n_Code_factors,fG al q r,?_⟩
     refine⟨_,dx,_,_,s5 _ _ f13,AF.c_Code,AF.n_Code_remainder,lD al q r,?_⟩
     refine⟨aP (aj (by decide)),fun p1 H6 hp1 s6 h6=>?_⟩
     have f26:=s6 _ _ (s5 _ _ f2)
     refine⟨_,_,f26,h6,by rw[List.length_map,fl];show ws.length-1+1<=sizeLine;exact aP (aj (by omega)),fun p2 H7 hp2 s7 h7=>?_⟩
     refine⟨_,q,ws,r,p2,Mk.jx al.length (ws.length-1) k++[x],rfl,m0,s7 _ _ (s6 _ _ (s5 _ _ f23)),by rw[h7,List.map_append];rfl,by omega,ok.sml,?_,fun H8 s8=>⟨_,rfl,hR H8 ((s6.trans s7).trans s8)⟩⟩
     intro y hy
     rcases bz.mp hy with hy | hy
     ·have:=fm y hy;omega
     ·rw[aV.mp hy];omega
    ·intro x hx _ H5 s5 R hR
     ac_nf
     exact hR H5 (aw.refl _)
    ·intro D H5 hD s5 h5
     have f15:=s5 _ _ f13
     have f25:=s5 _ _ f2
     have h5':H5 D=some (.lst ([Mk.qW al.length ws r (Mk.jx al.length (ws.length-1) k)].map V.int)):=by
      rw[h5,←l1]
      rfl
     ac_nf
     refine⟨_,dx,_,_,f15,AF.c_Code,AF.n_Code_letters,dG al q r,_,_,f25,h5',by rw[List.length_map,fl];show ws.length-1+1<=sizeLine;exact aP (aj (by omega)),fun p1 H6 hp1 s6 h6=>?_⟩
     refine⟨tx al,p1,Mk.jH al.length ws r k,rfl,by rw[bj];omega,by rw[h6,←List.map_append];rfl,?_,?_,fun H7 s7=>?_⟩
     ·unfold Mk.jH
      rw[List.length_append,fl]
      show ws.length-1+1<=_
      omega
     ·rw[bo]
      unfold Mk.jH
      intro y hy
      rcases bz.mp hy with hy | hy
      ·exact fm y hy
      ·rw[aV.mp hy];exact⟨l2,l3⟩
     ·rw[bo]
      refine kQ' H7 fun b o e=>?_
      have hbp:b≠p:=fun e2=>by rw[←e2,s1 _ _ e] at hp;cases hp
      exact s7 _ _ (s6 _ _ (s5 _ _ (f1 b o hbp (s3 _ _ (s2 _ _ (s1 _ _ e))))))
def dQ (Ad:Ads):Sp:=fun vs H Q _=>∃ (a:Addr) (al:List Nat) (ws:List Int) (r:Int) (x:V) (t:Tg),vs=[.ref a,x]/\cx Ad H a al ws r/\bD al ws r/\eG H x=some t/\(∀ z,x=.str z->z.length<=100000)/\∀ H',aw H H'->Q (.bl (hX (tx al) ws r x)) H'
theorem qQ:aG ["self","thing"] ["self","thing"] (ar iJ):=by subst_eqs
theorem qD (F:Fun K "has_good" "Code.has_good" iJ f fd) (T:Bl mg) (AF:AdF K mg Ad) (C_is_good:Fnc P w K mg base (CX1 P w) 2 "is_good" ["alphabet","weights","rest","word"] tV):bJ P w K mg base (CX1 P w) 3 f fd ["self","thing"] (dQ Ad):=by
 refine F.okX (k:=2) qQ ?_ ?_
 ·bv_decide
 ·bv_normalize
  obtain⟨a,al,ws,r,x,t,rfl,⟨dx,q,h1,h2⟩,ok,ht,hz,k⟩:=h
  refine⟨_,ai (aF (ay C_is_good av (hr.mono (by decide)) (ag (cj (K:=K) rfl (pvL 0)) (ag (cj (K:=K) rfl (pvL 0)) (ag (cj (K:=K) rfl (pvL 0)) (ag (pvL 1) (ae))))))),?_⟩
  ac_nf
  refine⟨_,dx,_,_,h1,AF.c_Code,AF.n_Code_letters,dG al q r,?_⟩
  refine⟨_,dx,_,_,h1,AF.c_Code,AF.n_Code_factors,fG al q r,?_⟩
  refine⟨_,dx,_,_,h1,AF.c_Code,AF.n_Code_remainder,lD al q r,?_⟩
  have g3:=ok.a3
  have g26:=ok.a26
  have w8:=ok.w8
  refine⟨tx al,q,ws,r,x,t,rfl,h2,by omega,by rw[bj];omega,by rw[bj];omega,ok.sml,ht,hz,k⟩
def r0:Sp:=fun vs H Q _=>∃ (x:V) (t:Tg),vs=[x]/\eG H x=some t/\(∀ p xs,x=.ref p->H p=some (.tup xs)->xs.length<=1000/\∀ y∈xs,(∃ t,eG H y=some t)/\∀ z,y=.str z->z.length<=10000)/\∀ H',aw H H'->Q (.bl (vD H x)) H'
theorem yc:aG ["thing"] ["thing"] (ar nY):=by subst_eqs
theorem xB (F:Fun K "is_entry" "is_entry" nY f fd) (T:Bl mg) (AF:AdF K mg Ad) (C_are_letters:Fnc P w K mg base (CX1 P w) 1 "are_letters" ["thing","most"] jj) (C_are_words:Fnc P w K mg base (CX1 P w) 2 "are_words" ["thing","most"] pz):bJ P w K mg base (CX1 P w) 3 f fd ["thing"] r0:=by
 refine F.okX (k:=2) yc ?_ ?_
 ·bv_decide
 ·bv_normalize
  obtain⟨x,t,rfl,ht,hit,k⟩:=h
  refine⟨_,af (bH ((gT (cF (cq (au (eN .tup) T.isinstance bt_isinstance (ag (pvL 0) (ag (jJ T.tuple DO) (ae)))))) (gT (aN (cD (K:=K) rfl hu) (au (aH (K:=K) rfl) T.len b9 (ag (pvL 0) (ae))) (ao) (aQ _)) (fF (cF (cq (au (eN .str) T.isinstance bt_isinstance (ag (bP (cS (K:=K) rfl) (pvL 0) (ao) (fun _ _=>rfl)) (ag (jJ T.str sj) (ae))))))))).pt) (ai (aF (kh))) (aU)) (af (bH (aN (cD (K:=K) rfl hu) (au (aH (K:=K) rfl) T.len b9 (ag (pvL 0) (ae))) (ao) (aQ _)) (ai (aF (dh (cD (K:=K) rfl hu) (bP (cS (K:=K) rfl) (pvL 0) (ao) (fun _ _=>rfl)) (aM) (aQ _)))) (aU)) (af (bH (aN (fB (K:=K) rfl hu) (au (aH (K:=K) rfl) T.len b9 (ag (pvL 0) (ae))) (ao) (aQ _)) (ai (aF (kh))) (aU)) (af (bH (aN (cD (K:=K) rfl hu) (bP (cS (K:=K) rfl) (pvL 0) (ao) (fun _ _=>rfl)) (aM) (aQ _)) (ai (aF (ay C_are_words av (hr.mono (by decide)) (ag (bP (cS (K:=K) rfl) (pvL 0) (ao) (fun _ _=>rfl)) (ag (eI AF.v_MOST_PHRASE_WORDS) (ae)))))) (aU)) (ai (aF (nQ (dh (cD (K:=K) rfl hu) (bP (cS (K:=K) rfl) (pvL 0) (ao) (fun _ _=>rfl)) (aM) (aQ _)) (lU (ay C_are_letters av (hr.mono (by decide)) (ag (bP (cS (K:=K) rfl) (pvL 0) (ao) (fun _ _=>rfl)) (ag (eI AF.v_MOST_PART_LETTERS) (ae))))))))))),?_⟩
  by_cases hs:∃ p xs,x=.ref p/\H p=some (.tup xs)
  ·obtain⟨p,xs,rfl,hp⟩:=hs
   obtain⟨hl,hty⟩:=hit p xs rfl hp
   have et:t=Tg.tup:=by
    have:kj (H p)=some t:=ht
    rw[hp] at this;cases this;rfl
   subst et
   have ek:vD H (.ref p)=kL xs:=by
    show (match H p with | some (.tup xs)=>kL xs | _=>false)=_
    rw[hp]
   rw[ek] at k
   have hT:Sq K H p xs:=.t hp
   rw[dm]
   and_intros
   refine⟨trivial,Tg.tup,ht,?_⟩
   and_intros
   refine⟨_,hT,?_⟩
   match xs,hT,hty,hl,k with
   | [],hT,hty,hl,k =>
    and_intros
    exact k H (aw.refl _)
   | v::r,hT,hty,hl,k =>
    rw[decide_eq_false (show ¬ (((v::r).length:Nat):Int)=0 by rw[aO];omega)]
    bv_omega
    have a0:atI (v::r) 0=some v:=bY (xs:=v::r) (j:=0) rfl
    refine⟨_,v,hT,a0,?_⟩
    obtain⟨⟨tv,htv⟩,hzv⟩:=hty v List.mem_cons_self
    by_cases hvs:∃ z,v=.str z
    ·obtain⟨z,rfl⟩:=hvs
     refine⟨Tg.str,rfl,?_⟩
     and_intros
     rw[dm]
     and_intros
     refine⟨_,hT,?_⟩
     match r,hT,hty,hl,k with
     | [],hT,hty,hl,k =>
      and_intros
      rw[if_pos (by rfl)]
      refine⟨_,_,hT,bY (xs:=[V.str z]) (j:=0) rfl,k H (aw.refl _)⟩
     | [y],hT,hty,hl,k =>
      rw[decide_eq_false (show ¬ ((([V.str z,y]:List V).length:Nat):Int)=1 by show ¬ (2:Int)=1;decide)]
      bv_omega
      obtain⟨⟨ty,hty1⟩,hzy⟩:=hty y (List.mem_cons_of_mem _ List.mem_cons_self)
      have a0:atI [V.str z,y] 0=some (.str z):=bY (xs:=[V.str z,y]) (j:=0) rfl
      have a1:atI [V.str z,y] 1=some y:=bY (xs:=[V.str z,y]) (j:=1) rfl
      rw[dm]
      and_intros
      refine⟨_,hT,?_⟩
      rw[if_neg (show ¬ (!decide ((([V.str z,y].length:Nat):Int)=2))=true by rw[show [V.str z,y].length=2 from rfl];decide)]
      rw[dm]
      and_intros
      refine⟨_,_,hT,a0,?_⟩
      and_intros
      have ek2:kL [.str z,y]=if z=("phrase":Str) then j4 6 y else if z=("part":Str) then hV 6 y else false:=rfl
      rw[ek2] at k
      by_cases e1:z=("phrase":Str)
      ·rw[if_pos e1] at k
       rw[aq e1]
       bv_omega
       refine⟨_,_,hT,a1,?_⟩
       exact⟨y,ty,6,rfl,hty1,hzy,by decide,k⟩
      ·rw[if_neg e1] at k
       rw[decide_eq_false e1]
       bv_omega
       and_intros
       refine⟨_,_,hT,a0,?_⟩
       and_intros
       by_cases e2:z=("part":Str)
       ·rw[if_pos e2] at k
        rw[aq e2]
        bv_omega
        refine⟨_,_,hT,a1,?_⟩
        exact⟨y,ty,6,rfl,hty1,(fun w e=>by have:=hzy w e;omega),by decide,k⟩
       ·rw[if_neg e2] at k
        rw[decide_eq_false e2]
        bv_omega
        exact k H (aw.refl _)
     | y::y2::r,hT,hty,hl,k =>
      have hlen:(V.str z::y::y2::r).length=r.length+3:=rfl
      rw[hlen,decide_eq_false (show ¬ (((r.length+3:Nat)):Int)=1 by omega)]
      bv_omega
      rw[dm]
      and_intros
      refine⟨_,hT,?_⟩
      rw[hlen,decide_eq_false (show ¬ (((r.length+3:Nat)):Int)=2 by omega)]
      bv_omega
      exact k H (aw.refl _)
    ·have hv:kL (v::r)=false:=by
      cases v with
      | str z=>exact absurd ⟨z,rfl⟩ hvs
      | _=>cases r with
       | nil=>rfl
       | cons y r=>cases r<;>rfl
     have hne:=pF htv fun z e=>hvs ⟨z,e⟩
     rw[hv] at k
     refine⟨tv,htv,?_⟩
     cases tv<;>first
      | exact absurd rfl hne
      | exact k H (aw.refl _)
  ·have hv:vD H x=false:=by
    cases x with
    | ref p =>
     show (match H p with | some (.tup xs)=>kL xs | _=>false)=_
     split
     ·rename_i xs hp;exact absurd ⟨p,xs,rfl,hp⟩ hs
     ·rfl
    | _=>rfl
   have hne:t≠Tg.tup:=fun e=>by
    subst e
    cases x with
    | ref a =>
     have h':kj (H a)=some .tup:=ht
     cases e:H a with
     | none=>rw[e] at h';cases h'
     | some o=>rw[e] at h';cases o with
      | tup xs=>exact hs ⟨a,xs,rfl,e⟩
      | frz ob u=>cases u<;>cases h'
      | _=>cases h'
    | _=>cases ht
   rw[hv] at k
   rw[dm]
   and_intros
   refine⟨trivial,t,ht,?_⟩
   cases t<;>first
    | exact absurd rfl hne
    | exact k H (aw.refl _)
theorem jX {b k:Int} (h0:0<=k) (h1:k<b):cu b (.int k)=true:=by
 show (decide (0<=k)&&decide (k<b))=true
 rw[aq h0,aq h1];rfl
theorem B9 (h:cu b x=true):∃ k,x=.int k/\0<=k/\k<b:=by
 cases x with
 | int k =>
  have h':(decide (0<=k)&&decide (k<b))=true:=h
  rw[bI,bC,bC] at h'
  exact⟨k,rfl,h'⟩
 | _=>cases h
def jT (Ad:Ads):Sp:=fun vs H Q _=>∃ (b ca dn de:Addr) (es:List Ben) (al:List Nat) (ws:List Int) (r:Int) (x:V) (t:Tg),vs=[.ref b,x]/\eh Ad H b ca dn de es/\cx Ad H ca al ws r/\bD al ws r/\eG H x=some t ∧
 (cu (bL al ws) x=false->∀ H',aw H H'->Q .non H')/\(∀ n,x=.int n->0<=n->n<bL al ws->n∉es.map (·.num)->∀ H',aw H H'->Q .non H')/\(∀ n,x=.int n->0<=n->n<bL al ws->∀ e∈es,e.num=n->∀ H',aw H H'->Q (.ref e.adr) H')
theorem uu:aG ["self","number"] ["self","number"] (ar kZ):=by subst_eqs
theorem uo (F:Fun K "entry" "Book.entry" kZ f fd) (T:Bl mg) (AF:AdF K mg Ad) (C_is_below:Fnc P w K mg base (CX1 P w) 2 "is_below" ["thing","bound"] gj) (M_Code_many:Mtd P w K mg base (CX1 P w) Ad.Code "many" 1 ["self"] (fz Ad)):bJ P w K mg base (CX1 P w) 3 f fd ["self","number"] (jT Ad):=by
 refine F.okX (k:=2) uu ?_ (fun cdv A outer s H vs Q E hr h=>?_)
 ·bv_decide
 ·obtain⟨b,ca,dn,de,es,al,ws,r,x,t,rfl,B,C,ok,ht,k1,k2,k3⟩:=h
  obtain⟨dx,h1⟩:=B.bk
  have hu:=hr.m8
  have hu1:=sF hr
  refine⟨_,af (bH (cF (cq (ay C_is_below av (hr.mono (by decide)) (ag (pvL 1) (ag (cE M_Code_many av (hr.mono (by decide)) (cj (K:=K) rfl (pvL 0))) (ae)))))) (ai (aF (fD))) (aU)) (ai (aF (CT hu1 (cj (K:=K) rfl (pvL 0)) (pvL 1)))),?_⟩
  grind
  refine⟨_,dx,_,_,h1,AF.c_Book,AF.n_Book_basis,j5 ca dn de,?_⟩
  obtain⟨dc,qc,hc1,hc2⟩:=id C
  refine⟨dc,_,hc1,bQ (by decide) (by decide) (by decide) al qc r,ca,al,ws,r,rfl,C,ok.a26,by have:=ok.w3;omega,ok.w8,fun G1 t1=>?_⟩
  refine⟨x,t,_,rfl,gD t1 ht,?_⟩
  cases hb:cu ((al.length:Int)^(ws.length-1)) x with
  | false =>
   and_intros
   exact k1 hb G1 t1
  | true =>
   and_intros
   cbv
   obtain⟨n,rfl,n0,n1⟩:=B9 hb
   have B1:=B.same t1
   obtain⟨dx1,h11⟩:=B1.bk
   and_intros
   refine⟨_,dx1,_,_,h11,AF.c_Book,AF.n_Book_by_number,jY ca dn de,dn,rfl,.inl ⟨_,.inl B1.hn⟩,_,.inl ⟨_,.inl n,.inl B1.hn,rfl,rfl⟩,?_⟩
   by_cases hm:n∈es.map (·.num)
   ·obtain⟨e,he,ee⟩:=aE.mp hm
    rw[←ee,oN B.nn he]
    exact k3 n rfl n0 n1 e he ee G1 t1
   ·rw[sR hm]
    exact k2 n rfl n0 n1 hm G1 t1
def lets (b st:Int) (m:Nat):List Nat:=(List.range m).map fun k:Nat=>97+((b+st*(k:Int))%26).toNat
theorem Hh {b st:Int} (hm:m<=9) (hs:st=1∨st=25∨st=3∨st=7):(lets b st m).Nodup:=by
 unfold lets
 refine gM.mpr (kn (R:=(·<·)) (fun {i j} hi hj hij e=>?_) pT)
 have hi':=bN.mp hi
 have hj':=bN.mp hj
 rcases hs with rfl | rfl | rfl | rfl<;>omega
theorem EG {b st:Int}:∀ c∈lets b st m,97<=c/\c<123:=fun c hc=>by
 unfold lets at hc
 obtain⟨k,_,rfl⟩:=aE.mp hc
 have:=c4 (b+st*(k:Int)) (show (26:Int)≠0 by decide)
 have:=cH (b+st*(k:Int)) (show (0:Int)<26 by decide)
 omega
def jF (K:PySem.W.Frag):Sp:=fun vs H Q _=>∃ (a:Addr) (ns:List Int),vs=[.ref a]/\SqL K H a (ns.map V.int)/\∀ p q al ws r H',aw H H'->Parts H' p q al ws r->bD al ws r->al.length<=9->4<=ws.length->ws.length<=6->Q (.ref p) H'
theorem cO:aG ["_law_script","_law_cell","_law_some","_law_m","_law_step","_law_alphabet"] ["_law_script"] (ar gZ):=by subst_eqs
theorem oR (F:Fun K "_law_code_parts" "_law_code_parts" gZ f fd) (T:Bl mg) (AF:AdF K mg Ad) (C_law_weights:Fnc P w K mg base (CX1 P w) 2 "_law_weights" ["_law_cell","_law_m","_law_many_here"] m5) (C_law_mixed:Fnc P w K mg base (CX1 P w) 1 "_law_mixed" ["_law_cell"] gC) (C_law_cell_at:Fnc P w K mg base (CX1 P w) 1 "_law_cell_at" ["_law_script","_law_k"] (gB K)):bJ P w K mg base (CX1 P w) 3 f fd ["_law_script"] (jF K):=by
 refine F.okX (k:=2) cO ?_ ?_
 ·bv_decide
 ·bv_normalize
  obtain⟨a,ns,rfl,hS,k⟩:=h
  refine⟨_,af (fV (i:=1) cO.nd (ay C_law_mixed av (hr.mono (by decide)) (ag (ay C_law_cell_at av (hr.mono (by decide)) (ag (pvL 0) (ag (ao) (ae)))) (ae)))) (af (fV (i:=2) cO.nd (aM)) (af (aA (i:=3) cO.nd (bP (cS (K:=K) rfl) (bR (ag (ao) (ag (ao) (ag (ao) (ag (ao) (ae)))))) (ax bV (pvC 1) (ao)) (fun _ _=>rfl))) (af (fV (i:=4) cO.nd (bP (cS (K:=K) rfl) (bR (ag (ao) (ag (ao) (ag (ao) (ag (ao) (ae)))))) (ax bV (ax cB (pvC 1) (ao)) (ao)) (fun _ _=>rfl))) (af (aA (i:=5) cO.nd (dq (K:=K) rfl fO pX pZ (oK (K:=K) rfl) (aM) (ag (gS ["_law_k"] rfl ⟨rfl,by decide +kernel,rfl,by decide +kernel⟩ (.cons (j:=2) rfl (.inl (by kernel_rfl)) (.cons (j:=1) rfl (.inl (by kernel_rfl)) (.cons (j:=4) rfl (.inl (by kernel_rfl)) (.nil)))) (by decide +kernel) (eU T.range (ag (pvL 3) (ae))) (fun _ _ _ _=>aL (i:=0) (show (["_law_k","_law_some","_law_cell","_law_step"]:List Str).Nodup from by decide +kernel)) (fun _ _ _ _=>dI) (fun _ _ _ _=>bP (cS (K:=K) rfl) (pvC 1) (ax bV (ax aC (ax cB (pvC 2) (ao)) (ax kP (pvC 3) (pvL 0))) (ao)) (fun _ _=>rfl))) (ae)))) (ai (aF (bR (ag (pvL 5) (ag (ay C_law_weights av (hr.mono (by decide)) (ag (ax cB (pvC 1) (ao)) (ag (pvL 3) (ag (ax aC (ao) (ax bV (ax cB (pvC 1) (ao)) (ao))) (ae))))) (ag (ax bV (ax cB (pvC 1) (ao)) (pvL 3)) (ae))))))))))),?_⟩
  have big:∀ {u:Nat},u<=1000->u<=sizeLine:=fun hu=>aP (aj (by omega))
  grind
  refine⟨a,ns,0,rfl,hS,by decide,?_⟩
  generalize ns.getD (0:Int).toNat 0=c0
  refine⟨c0,rfl,?_⟩
  have y0:=rV c0
  generalize CH c0=y at y0
  cbv
  grind
  cbv
  grind
  obtain⟨m,hm,hb⟩:∃ m:Nat,(m=3∨m=5∨m=7∨m=9)/\atI [V.int 3,V.int 5,V.int 7,V.int 9] (y%4)=some (V.int m):=by
   have hy:y%4=0∨y%4=1∨y%4=2∨y%4=3:=by omega
   rcases hy with e | e | e | e<;>rw[e]
   ·exact⟨3,.inl rfl,rfl⟩
   ·exact⟨5,.inr (.inl rfl),rfl⟩
   ·exact⟨7,.inr (.inr (.inl rfl)),rfl⟩
   ·exact⟨9,.inr (.inr (.inr rfl)),rfl⟩
  refine⟨big (by decide),fun p1 H1 hp1 s1 h1=>⟨by decide,_,_,.l h1,hb,?_⟩⟩
  rw[hN]
  clear hN nn hb
  grind
  obtain⟨st,hst,hb⟩:∃ st:Int,(st=1∨st=25∨st=3∨st=7)/\atI [V.int 1,V.int 25,V.int 3,V.int 7] (y/4%4)=some (V.int st):=by
   have hy:y/4%4=0∨y/4%4=1∨y/4%4=2∨y/4%4=3:=by omega
   rcases hy with e | e | e | e<;>rw[e]
   ·exact⟨1,.inl rfl,rfl⟩
   ·exact⟨25,.inr (.inl rfl),rfl⟩
   ·exact⟨3,.inr (.inr (.inl rfl)),rfl⟩
   ·exact⟨7,.inr (.inr (.inr rfl)),rfl⟩
  refine⟨big (by decide),fun p2 H2 hp2 s2 h2=>⟨⟨by decide,by decide⟩,by decide,_,_,.l h2,hb,?_⟩⟩
  rw[hN]
  clear hN nn hb
  grind
  have m9:m<=9:=by omega
  have m3:3<=m:=by omega
  refine⟨by rfl,by omega,by omega,um V.int iO (wj m) (by rw[Mk.oO];exact aj (by omega)) (fun x=>.str (tx [97+((y/16+st*x)%26).toNat])) ?_ ?_⟩
  ·intro x hx G t R hR
   obtain⟨x0,x1⟩:=Mk.gu.mp hx
   have f0:=c4 (y/16+st*x) (show (26:Int)≠0 by decide)
   have f1:=cH (y/16+st*x) (show (0:Int)<26 by decide)
   and_intros
   refine⟨⟨by decide,by decide⟩,⟨cI (show st.natAbs<=1000 by omega) (by decide),cI (show x.natAbs<=1000 by omega) (by decide)⟩,by decide,big (by decide),97+((y/16+st*x)%26).toNat,cC f0 (Dz _ (by omega)),hR G (aw.refl _)⟩
  intro D H3 hD s3 h3
  have el:H3 D=some (.lst ((lets (y/16) st m).map fun c=>V.str (tx [c]))):=by
   rw[h3]
   unfold lets Mk.ofN
   rw[List.map_map,List.map_map];rfl
  and_intros
  refine⟨(lets (y/16) st m).map fun c=>tx [c],E8 el,E7 (by unfold lets;rw[List.length_map,List.length_range];omega),?_⟩
  rw[AO]
  cbv
  have ll:(lets (y/16) st m).length=m:=by unfold lets;rw[List.length_map,List.length_range]
  have lnd:=Hh (b:=y/16) m9 hst
  have labc:=EG (b:=y/16) (st:=st) (m:=m)
  generalize lets (y/16) st m=al at ll lnd labc
  and_intros
  have w0:0<=y/64%3/\y/64%3<3:=by omega
  refine⟨⟨by decide,by decide⟩,⟨by decide,by decide⟩,by decide,y/1000,m,_,rfl,by omega,by omega,by omega,by omega,fun q H4 hq s4 h4=>?_⟩
  refine⟨⟨by decide,by decide⟩,by omega,big (by decide),fun p H5 hp s5 h5=>?_⟩
  have wl:=Mk.Ij (y/1000) (m:Int) (4+y/64%3).toNat
  have wm:=Mk.Ik (m:=(m:Int)) (by omega) (y/1000) (4+y/64%3).toNat
  have wsf:=Mk.FY (m:=(m:Int)) (by omega) (by omega) (by omega) (y/1000) (4+y/64%3).toNat
  refine k p q al _ _ H5 (s1.trans (s2.trans (s3.trans (s4.trans s5)))) ⟨h5,s5 _ _ h4⟩ ⟨⟨by omega,by omega,lnd,labc,by omega,by omega,?_,?_,?_⟩,by omega,by omega⟩ (by omega) (by omega) (by omega)
  ·rw[ll];exact wm
  ·rw[ll];exact wsf
  ·rw[ll]
   exact⟨c4 _ (by omega),cH _ (by omega)⟩
theorem uy {b:Int}:∀ {xs:List V},xs.all (cu b)=true->∃ ws:List Int,xs=ws.map V.int/\∀ x∈ws,0<=x/\x<b
 | [],_=>⟨[],rfl,fun _ h=>nomatch h⟩
 | y::ys,h=>by
  rw[iz,bI] at h
  obtain⟨ws,e,hw⟩:=uy h.2
  cases y with
  | int i =>
   have h1:(decide (0<=i)&&decide (i<b))=true:=h.1
   rw[bI,bC,bC] at h1
   refine⟨i::ws,by rw[e];rfl,fun x hx=>?_⟩
   cases hx with
   | head=>exact h1
   | tail _ hx=>exact hw x hx
  | _=>cases h.1
theorem GF (h:dW H b x=true):∃ (p:Addr) (ws:List Int),x=.ref p/\H p=some (.lst (ws.map V.int))/\3<=ws.length/\ws.length<=8/\∀ y∈ws,0<=y/\y<b:=by
 cases x with
 | ref p =>
  have h1:(match H p with | some (.lst xs)=>decide (3<=xs.length)&&decide (xs.length<=8)&&xs.all (cu b) | _=>false)=true:=h
  split at h1
  ·rename_i xs e
   simp only[bI,bC] at h1
   obtain⟨ws,e1,hw⟩:=uy h1.2
   subst e1
   rw[List.length_map] at h1
   exact⟨p,ws,rfl,e,h1.1.1,h1.1.2,hw⟩
  ·cases h1
 | _=>cases h
def iT (Ad:Ads):Sp:=fun vs H Q E=>∃ (a dx:Addr) (xa xw xr:V) (ta tw tr:Tg),vs=[.ref a,xa,xw,xr]/\H a=some (.ins Ad.Code dx [])/\eG H xa=some ta/\eG H xw=some tw/\eG H xr=some tr ∧
 (∀ z,xa=.str z->z.length<=4000)/\(∀ p o u,xw=.ref p->H p≠some (.frz o u))/\(∀ p xs,xw=.ref p->H p=some (.lst xs)->xs.length<=1000/\∀ y∈xs,∃ t,eG H y=some t) ∧
 (GI H xa xw xr->∀ H',aw H H'->E (.ref Ad.NoCode) none H') ∧
 (∀ al p ws r,sq H xa xw xr al p ws r->∀ q H',H q=none->(∀ b o,b≠a->H b=some o->H' b=some o)->H' a=some (.ins Ad.Code dx (qT al q r))->H' q=some (.lst (ws.map V.int))->Q .non H')
theorem Cv {Ad:Ads}{ca cd qn:Addr}{Q:VK}{E:XK} (ha:H ca=some (.ins Ad.Code cd [])) (hq:H qn=some (.lst (ws.map V.int))) (ok:bD al ws r)
  (k:∀ H',(∀ b o,b≠ca->H b=some o->H' b=some o)->cx Ad H' ca al ws r->Q .non H'):iT Ad [.ref ca,.str (tx al),.ref qn,.int r] H Q E:=by
 have g26:=ok.a26
 have w8:=ok.w8
 refine⟨ca,cd,.str (tx al),.ref qn,.int r,Tg.str,Tg.lst,Tg.int,rfl,ha,rfl,?_,rfl,?_,?_,?_,?_,?_⟩
 ·show kj (H qn)=_
  rw[hq];rfl
 ·intro z e
  cases e
  rw[bj];omega
 ·intro p o u e e2
  cases e
  rw[hq] at e2;cases e2
 ·intro p xs e e2
  cases e
  rw[hq] at e2
  cases e2
  refine⟨by rw[List.length_map];omega,fun y hy=>?_⟩
  obtain⟨x,_,rfl⟩:=aE.mp hy
  exact⟨Tg.int,rfl⟩
 ·intro hb
  exact absurd ⟨rfl,rfl,hq,rfl,ok.toCoB⟩ (hb al qn ws r)
 ·intro al' p ws' r' hm q H' hq' hs h1 h2
  obtain⟨e1,e2,e3,e4,_⟩:=hm
  have ea:al=al':=by injection e1 with e1;exact hO e1
  have er:r=r':=by injection e4
  have ep:qn=p:=by injection e2
  subst ea er ep
  rw[hq] at e3
  have e6:ws.map V.int=ws'.map V.int:=by injection e3 with e3;injection e3
  have ew:ws=ws':=(pR (fun x y h=>by injection h)).mp e6
  subst ew
  exact k H' hs ⟨cd,q,h1,h2⟩
theorem oY:aG ["self","alphabet","weights","rest","m"] ["self","alphabet","weights","rest"] (ar gi):=by subst_eqs
theorem vK (F:Fun K "__init__" "Code.__init__" gi f fd) (T:Bl mg) (AF:AdF K mg Ad) (C_are_safe:Fnc P w K mg base (CX1 P w) 2 "are_safe" ["weights","m"] rq) (C_is_below:Fnc P w K mg base (CX1 P w) 2 "is_below" ["thing","bound"] gj) (C_are_weights:Fnc P w K mg base (CX1 P w) 3 "are_weights" ["thing","m"] mw) (C_is_alphabet:Fnc P w K mg base (CX1 P w) 1 "is_alphabet" ["thing"] my):bJ P w K mg base (CX1 P w) 4 f fd ["self","alphabet","weights","rest"] (iT Ad):=by
 refine F.okX (k:=3) oY ?_ ?_
 ·bv_decide
 ·bv_normalize
  obtain⟨a,dx,xa,xw,xr,ta,tw,tr,rfl,ha,hta,htw,htr,hza,hfz,hit,kE,kQ⟩:=h
  refine⟨_,af (bH (cF (cq (ay C_is_alphabet av (hr.mono (by decide)) (ag (pvL 1) (ae))))) (ai (du cT AF.q_NoCode AF.g_NoCode cL rfl (ag (aM) (ae)))) (aU)) (af (aA (i:=4) oY.nd (au (aH (K:=K) rfl) T.len b9 (ag (pvL 1) (ae)))) (af (bH (cF (cq (ay C_are_weights av (hr.mono (by decide)) (ag (pvL 2) (ag (pvL 4) (ae)))))) (ai (du cT AF.q_NoCode AF.g_NoCode cL rfl (ag (aM) (ae)))) (aU)) (af (bH (cF (cq (ay C_is_below av (hr.mono (by decide)) (ag (pvL 3) (ag (pvL 4) (ae)))))) (ai (du cT AF.q_NoCode AF.g_NoCode cL rfl (ag (aM) (ae)))) (aU)) (af (bH (cF (cq (ay C_are_safe av (hr.mono (by decide)) (ag (pvL 2) (ag (pvL 4) (ae)))))) (ai (du cT AF.q_NoCode AF.g_NoCode cL rfl (ag (aM) (ae)))) (aU)) (af (nv (K:=K) rfl (pvL 0) (pvL 1)) (af (nv (K:=K) rfl (pvL 0) (ei (gW (K:=K) rfl rfl) T.list j6 (ag (pvL 2) (ae)))) (ai (nv (K:=K) rfl (pvL 0) (pvL 3))))))))),?_⟩
  rw[dm]
  and_intros
  refine⟨xa,ta,rfl,hta,hza,fun H1 s1=>?_⟩
  and_intros
  cases hA:ik xa with
  | false =>
   bv_omega
   refine⟨by decide,kE (fun al p ws r ⟨e1,_,_,_,e5⟩=>?_) H1 s1⟩
   have:ik xa=true:=by
    rw[e1]
    show gq (tx al).cps.toList=true
    rw[bo]
    unfold gq
    rw[aq e5.a3,aq e5.a26,aq e5.nd,cw.mpr fun c hc=>aq (e5.abc c hc)];rfl
   rw[hA] at this;cases this
  | true =>
   bv_omega
   obtain⟨z,rfl⟩:∃ z,xa=.str z:=by
    cases xa with
    | str z=>exact⟨z,rfl⟩
    | _=>cases hA
   have hA':gq z.cps.toList=true:=hA
   have hz:=dg z
   unfold gq at hA'
   simp only[bI,bC,cw] at hA'
   obtain⟨⟨⟨g3,g26⟩,gnd⟩,gabc⟩:=hA'
   rw[dm]
   and_intros
   refine⟨aP (aj (by omega)),?_⟩
   and_intros
   rw[dm]
   and_intros
   refine⟨xw,tw,_,rfl,gD s1 htw,fun p o u e e2=>?_,fun p xs e e2=>?_,fun H2 s2=>?_⟩
   ·subst e
    have:kj (H p)=some tw:=htw
    cases e3:H p with
    | none=>rw[e3] at this;cases this
    | some ob =>
     have e4:=s1 p ob e3
     rw[e2] at e4
     cases e4
     exact hfz p o u rfl e3
   ·subst e
    have:kj (H p)=some tw:=htw
    cases e3:H p with
    | none=>rw[e3] at this;cases this
    | some ob =>
     have e4:=s1 p ob e3
     rw[e2] at e4
     cases e4
     obtain⟨i1,i2⟩:=hit p xs rfl e3
     exact⟨i1,fun y hy=>by obtain⟨ty,hty⟩:=i2 y hy;exact⟨ty,gD s1 hty⟩⟩
   and_intros
   have eW:dW H1 (z.length:Int) xw=dW H (z.length:Int) xw:=by
    cases xw with
    | ref p =>
     have:kj (H p)=some tw:=htw
     cases e3:H p with
     | none=>rw[e3] at this;cases this
     | some ob =>
      show (match H1 p with | some (.lst xs)=>_ | _=>false)=(match H p with | some (.lst xs)=>_ | _=>false)
      rw[s1 p ob e3,e3]
    | _=>rfl
   rw[eW]
   cases hW:dW H (z.length:Int) xw with
   | false =>
    bv_omega
    refine⟨by decide,kE (fun al p ws r ⟨e1,e2,e3,_,e5⟩=>?_) H2 (s1.trans s2)⟩
    have hal:z=tx al:=by cases e1;rfl
    have:dW H (z.length:Int) xw=true:=by
     rw[e2,hal,bj]
     show (match H p with | some (.lst xs)=>decide (3<=xs.length)&&decide (xs.length<=8)&&xs.all (cu (al.length:Int)) | _=>false)=true
     rw[e3]
     simp only[List.length_map]
     rw[aq e5.w3,aq e5.w8,List.all_map,cw.mpr];rfl
     intro x hx
     have:=e5.wm x hx
     show (decide (0<=x)&&decide (x<(al.length:Int)))=true
     rw[aq this.1,aq this.2];rfl
    rw[hW] at this;cases this
   | true =>
    bv_omega
    rw[dm]
    and_intros
    refine⟨xr,tr,_,rfl,gD (s1.trans s2) htr,?_⟩
    and_intros
    cases hB:cu (z.length:Int) xr with
    | false =>
     bv_omega
     refine⟨by decide,kE (fun al p ws r ⟨e1,e2,e3,e4,e5⟩=>?_) H2 (s1.trans s2)⟩
     have hal:z=tx al:=by cases e1;rfl
     have:cu (z.length:Int) xr=true:=by
      rw[e4,hal,bj]
      show (decide (0<=r)&&decide (r<(al.length:Int)))=true
      rw[aq e5.rm.1,aq e5.rm.2];rfl
     rw[hB] at this;cases this
    | true =>
     bv_omega
     obtain⟨r,rfl⟩:∃ r,xr=.int r:=by
      cases xr with
      | int r=>exact⟨r,rfl⟩
      | _=>cases hB
     have hB':(decide (0<=r)&&decide (r<(z.length:Int)))=true:=hB
     rw[bI,bC,bC] at hB'
     obtain⟨p,ws,rfl,hp,w3,w8,wm⟩:=GF hW
     have hp2:H2 p=some (.lst (ws.map V.int)):=s2 _ _ (s1 _ _ hp)
     rw[dm]
     and_intros
     refine⟨p,ws,_,rfl,hp2,by omega,fun H3 s3=>?_⟩
     and_intros
     have s03:aw H H3:=(s1.trans s2).trans s3
     have el:(z.length:Int)=(z.cps.toList.length:Int):=by rw[hz]
     cases hS:Mk.safe (z.length:Int) ws with
     | false =>
      bv_omega
      refine⟨by decide,kE (fun al p' ws' r' ⟨e1,e2,e3,e4,e5⟩=>?_) H3 s03⟩
      have hal:z=tx al:=by cases e1;rfl
      have hpp:p'=p:=by cases e2;rfl
      subst hpp
      have hww:ws'=ws:=by
       rw[hp] at e3
       have e6:ws.map V.int=ws'.map V.int:=by injection e3 with e3;injection e3
       exact (pR (fun x y h=>by injection h)).mp e6.symm
      subst hww
      have:=e5.safe
      rw[hal,bj] at hS
      rw[hS] at this;cases this
     | true =>
      bv_omega
      have ha3:=s03 _ _ ha
      have hp3:H3 p=some (.lst (ws.map V.int)):=s03 _ _ hp
      have hne:p≠a:=fun e=>by rw[e,ha] at hp;cases hp
      have hM:sq H (.str z) (.ref p) (.int r) z.cps.toList p ws r:=⟨by rw[m7],rfl,hp,rfl,⟨g3,g26,gnd,gabc,w3,w8,by rw[←el];exact wm,by rw[←el];exact hS,by rw[←el];exact hB'⟩⟩
      ac_nf
      refine⟨_,_,_,ha3,AF.c_Code,AF.n_Code_letters,by decide,ws.map V.int,.inl (.inl (.of (by rw[aD hne];exact hp3))),fun q H4 hq s4 h4=>?_⟩
      have ha4:=s4 a _ a8
      refine⟨_,_,_,ha4,AF.c_Code,AF.n_Code_factors,cI (ak 1) (by decide),_,_,_,a8,AF.c_Code,AF.n_Code_remainder,cI (ak 2) (by decide),?_⟩
      have hqa:q≠a:=fun e=>by rw[e,a8] at hq;cases hq
      rw[aD hqa] at hq
      have hq0:H q=none:=by
       cases e:H q with
       | none=>rfl
       | some o=>rw[s03 q o e] at hq;cases hq
      refine kQ z.cps.toList p ws r hM q _ hq0 (fun b o hb e=>?_) ?_ ?_
      ·rw[aD hb,aD hb]
       exact s4 b o (by rw[aD hb];exact s03 b o e)
      ·rw[a8]
       unfold qT
       rw[m7]
       rfl
      ·rw[aD hqa,aD hqa];exact h4
def gA (Ad:Ads):Sp:=fun vs H Q E=>∃ (a:Addr) (al:List Nat) (ws:List Int) (r:Int) (x:V) (t:Tg),vs=[.ref a,x]/\cx Ad H a al ws r/\bD al ws r/\eG H x=some t/\(∀ z,x=.str z->z.length<=100000) ∧
 (hX (tx al) ws r x=false->∀ H',aw H H'->E (.ref Ad.NoWord) none H') ∧
 (∀ z,x=.str z->Mk.bU al ws r z.cps.toList=true->∀ H',aw H H'->Q (.int (Mk.numOf al.length (Mk.plc al z.cps.toList.dropLast))) H')
theorem gy:aG ["self","word","k","place"] ["self","word"] (ar jL):=by subst_eqs
theorem sT (F:Fun K "number" "Code.number" jL f fd) (T:Bl mg) (AF:AdF K mg Ad) (C_places_of:Fnc P w K mg base (CX1 P w) 1 "places_of" ["alphabet","word"] iU) (M_Code_has_good:Mtd P w K mg base (CX1 P w) Ad.Code "has_good" 3 ["self","thing"] (dQ Ad)):bJ P w K mg base (CX1 P w) 4 f fd ["self","word"] (gA Ad):=by
 refine F.okX (k:=3) gy ?_ ?_
 ·bv_decide
 ·bv_normalize
  obtain⟨a,al,ws,r,x,t,rfl,⟨dx,q,h1,h2⟩,ok,ht,hz,kE,kQ⟩:=h
  refine⟨_,af (bH (cF (cq (dr M_Code_has_good av (hr.mono (by decide)) (pvL 0) (ag (pvL 1) (ae))))) (ai (du cT AF.q_NoWord AF.g_NoWord cL rfl (ag (aM) (ae)))) (aU)) (af (aA (i:=2) gy.nd (ao)) (af (eQ cf rfl (ck (K:=K) rfl (ay C_places_of av (hr.mono (by decide)) (ag (cj (K:=K) rfl (pvL 0)) (ag (cG (iu (K:=K) rfl) (pvL 1) (dJ) (di (Fl Ai (ao)))) (ae))))) (aL (i:=3) gy.nd) (ai (aA (i:=2) gy.nd (ax aC (ax kP (pvL 2) (au (aH (K:=K) rfl) T.len b9 (ag (cj (K:=K) rfl (pvL 0)) (ae)))) (pvL 3))))) (ai (aF (pvL 2))))),?_⟩
  have g3:=ok.a3
  have g26:=ok.a26
  have w8:=ok.w8
  rw[dm]
  and_intros
  refine⟨dx,_,h1,bQ (by decide) (by decide) (by decide) al q r,a,al,ws,r,x,t,rfl,⟨dx,q,h1,h2⟩,ok,ht,hz,fun H1 s1=>?_⟩
  and_intros
  cases hG:hX (tx al) ws r x with
  | false =>
   bv_omega
   exact⟨by decide,kE hG H1 s1⟩
  | true =>
   bv_omega
   obtain⟨z,rfl⟩:∃ z,x=.str z:=by
    cases x with
    | str z=>exact⟨z,rfl⟩
    | _=>cases hG
   have hG':Mk.bU al ws r z.cps.toList=true:=by
    have:Mk.bU (tx al).cps.toList ws r z.cps.toList=true:=hG
    rw[bo] at this
    exact this
   and_intros
   rw[dm]
   and_intros
   rw[dm]
   and_intros
   refine⟨_,dx,_,_,s1 _ _ h1,AF.c_Code,AF.n_Code_letters,dG al q r,?_⟩
   and_intros
   have e0:lO z.cps.toList none (some (-1))=z.cps.toList.dropLast:=BS _
   rw[e0]
   have hzl:=hz z rfl
   have hzc:=dg z
   unfold Mk.bU Mk.b8 at hG'
   simp only[bI,bC,cw] at hG'
   obtain⟨⟨hl,hm⟩,-⟩:=hG'
   have hd:z.cps.toList.dropLast.length<=z.cps.toList.length:=by rw[i7];omega
   have hdm:∀ c∈z.cps.toList.dropLast,c∈al:=fun c hc=>hm c (gF _ hc)
   refine⟨aP (aj (by omega)),tx al,tx z.cps.toList.dropLast,rfl,by rw[bj];omega,by rw[bo,bo];exact hdm,fun p H2 hp s2 h3=>.inl ⟨⟨_,.of h3⟩,?_⟩⟩
   rw[bo,bo] at h3
   have hpm:=Mk.kU hdm
   have hpl:(Mk.plc al z.cps.toList.dropLast).length<=8:=by rw[Mk.nu];omega
   have kQ':=kQ z rfl (by
    have:Mk.bU (tx al).cps.toList ws r z.cps.toList=true:=hG
    rw[bo] at this
    exact this)
   generalize Mk.plc al z.cps.toList.dropLast=ps at h3 hpm hpl kQ'
   refine rS (xs:=ps.map V.int) (fun i σ H'=>H'=H2/\∃ o,σ=[some (.ref a),some (.str z),some (.int (Mk.numOf al.length (ps.take i))),o]) ?_ ?_ ?_ ?_
   ·exact⟨rfl,none,rfl⟩
   ·rintro i σ H' _ ⟨rfl,_⟩
    exact .of h3
   ·rintro i x σ H' hx ⟨rfl,o,rfl⟩
    rw[aJ] at hx
    obtain⟨x,hy,rfl⟩:=dB.mp hx
    have hi:=(bf.mp hy).1
    have hb:=Mk.iP (m:=al.length) (by omega) (ps.take i) fun p hp=>hpm p (List.mem_of_mem_take hp)
    have hxm:=hpm x (bG hy)
    ac_nf
    refine⟨_,dx,_,_,s2 _ _ (s1 _ _ h1),AF.c_Code,AF.n_Code_letters,dG al q r,?_⟩
    ac_nf
    rw[bj]
    refine⟨aP (aj (by omega)),⟨?_,bB (show ((al.length:Int)).natAbs<1000 by omega) (by decide)⟩,?_⟩
    ·refine bB (show (Mk.numOf (al.length:Int) (ps.take i)).natAbs<26^8 from ?_) (by decide)
     have e1:((al.length:Int))^(ps.take i).length<=((26^8:Nat):Int):=by
      rw[←Int.natCast_pow]
      exact Int.ofNat_le.mpr (aK (pV g26 _) (jr (by decide) (by rw[bw];omega)))
     omega
    ·refine⟨trivial,some (.int x),?_⟩
     have e:ps.take (i+1)=ps.take i++[x]:=by rw[iC,hy];rfl
     rw[e,Mk.kO]
   ·rintro σ H' ⟨rfl,o,rfl⟩
    rw[List.length_map,mU]
    ac_nf
    exact kQ' _ (s1.trans s2)
def tW (Ad:Ads):Sp:=fun vs H Q E=>∃ (a:Addr) (al:List Nat) (ws:List Int) (r:Int) (x:V) (t:Tg),vs=[.ref a,x]/\cx Ad H a al ws r/\bD al ws r/\eG H x=some t/\(∀ z,x=.str z->z.length<=100000) ∧
 (cV (tx al) ws.length x=false->∀ H',aw H H'->E (.ref Ad.NoWord) none H') ∧
 ∀ z,x=.str (tx z)->Mk.b8 al ws.length z=true->∀ fs:List (List Int),fs.Perm (jy al.length (Mk.plc al z))->∀ D H',H D=none->aw H H'->H' D=some (.lst ((fs.filter fun ps=>Mk.good al.length ws r ps).map fun ps=>V.str (tx (Mk.bA al ps))))->Q (.ref D) H'
theorem zT:aG ["code","word"] ["code","word"] (ar qM):=by subst_eqs
theorem z7 (F:Fun K "nearest" "nearest" qM f fd) (T:Bl mg) (AF:AdF K mg Ad) (C_faulty:Fnc P w K mg base (CX1 P w) 2 "faulty" ["code","word"] (va Ad)) (M_Code_has_good:Mtd P w K mg base (CX1 P w) Ad.Code "has_good" 3 ["self","thing"] (dQ Ad)):bJ P w K mg base (CX1 P w) 4 f fd ["code","word"] (tW Ad):=by
 refine F.okX (k:=3) zT ?_ ?_
 ·bv_decide
 ·bv_normalize
  obtain⟨a,al,ws,r,x,t,rfl,hat,ok,ht,hz,hE,k⟩:=h
  refine⟨_,ai (aF (gS ["made"] rfl ⟨rfl,by decide +kernel,rfl,by decide +kernel⟩ (.cons (j:=0) rfl (.inl (by kernel_rfl)) (.nil)) (by decide +kernel) (ck (K:=K) rfl (ay C_faulty av (hr.mono (by decide)) (ag (pvC 0) (ag (pvL 1) (ae))))) (fun _ _ _ _=>aL (i:=0) (show (["made","code"]:List Str).Nodup from by decide +kernel)) (fun _ _ _ _=>kT (cq (dr M_Code_has_good eT (hr.mono (by decide)) (pvC 1) (ag (pvL 0) (ae))))) (fun _ _ _ _=>pvL 0))),?_⟩
  and_intros
  refine⟨a,al,ws,r,x,t,rfl,hat,ok,ht,hz,hE,fun z hx hw fs fp D H1 hD s1 h1=>?_⟩
  have k':=k z hx hw fs fp
  obtain⟨zl,zm⟩:=Mk.cQ.mp hw
  have pm:=Mk.kU zm
  have pl:(Mk.plc al z).length=ws.length:=by rw[Mk.nu];omega
  have a26:=ok.a26
  have w8:=ok.w8
  have fo:∀ q∈fs,q.length=ws.length/\∀ x∈q,0<=x/\x<(al.length:Int):=fun q hq=>by
   have:=lQ pm q (fp.mem_iff.mp hq)
   exact⟨by rw[this.1,pl],this.2⟩
  have fl:fs.length<=208:=by
   rw[fp.length_eq]
   unfold jy
   rw[List.length_append,sy pm]
   have:=sd (ps:=Mk.plc al z)
   have:(Mk.plc al z).length*(al.length-1)<=200:=aK (Nat.mul_le_mul (show _<=8 by omega) (show al.length-1<=25 by omega)) (by decide)
   omega
  have h1':H1 D=some (.lst ((fs.map (Mk.bA al)).map fun l=>V.str (tx l))):=by rw[h1,List.map_map];rfl
  refine .inl ⟨⟨_,.of h1⟩,ED (fun l:List Nat=>V.str (tx l)) (fun x y e=>hO (V.str.inj e)) (eJ (.of h1')) (by rw[List.length_map];exact aj (by omega)) (fun l=>Mk.bU al ws r l) (fun l=>V.str (tx l)) ?_ ?_ ?_⟩
  ·intro l hl H5 t5 R hR
   obtain⟨y,hy,rfl⟩:=aE.mp hl
   and_intros
   obtain⟨dx,q,c1,c2⟩:=hat
   have S5:=s1.trans t5
   refine⟨dx,_,S5 _ _ c1,bQ (by decide) (by decide) (by decide) al q r,a,al,ws,r,.str (tx (Mk.bA al y)),.str,rfl,⟨dx,q,S5 _ _ c1,S5 _ _ c2⟩,ok,rfl,(fun z ez=>by cases ez;rw[bj,Mk.gk,(fo y hy).1];omega),fun H6 s6=>?_⟩
   have eg:hX (tx al) ws r (.str (tx (Mk.bA al y)))=Mk.bU al ws r (Mk.bA al y):=by show Mk.bU (tx al).cps.toList ws r (tx (Mk.bA al y)).cps.toList=_;rw[bo,bo]
   rw[eg]
   exact⟨_,rfl,hR H6 s6⟩
  ·intro l hl hp H5 t5 R hR
   and_intros
   exact hR H5 (aw.refl _)
  intro D2 H2 hD2 s2 h2
  refine k' D2 H2 (s1.free hD2) (s1.trans s2) ?_
  rw[h2,mI,List.map_map]
  congr 2
  rw[show (fs.filter ((fun l=>Mk.bU al ws r l) ∘ Mk.bA al))=fs.filter fun ps=>Mk.good al.length ws r ps from List.filter_congr fun y hy=>Mk.kK ok.nd (fo y hy).1 (fo y hy).2]
  rfl
def wt (Ad:Ads):Sp:=fun vs H Q E=>∃ (b ca dn de g:Addr) (es:List Ben) (xs:List V) (al:List Nat) (ws:List Int) (r:Int),vs=[.ref b,.ref g]/\eh Ad H b ca dn de es/\cx Ad H ca al ws r/\bD al ws r/\(∀ e∈es,jI e.key/\0<=e.num/\e.num<bL al ws)/\H g=some (.lst xs)/\xs.length<=1000/\(∀ x∈xs,∃ t,eG H x=some t) ∧
 (∀ wd,lj (xs.map (kOf es))=.inr wd->∀ H',aw H H'->Q (.str (tx (Mk.dY 32 wd))) H')/\∀ n,lj (xs.map (kOf es))=.inl n->∀ dx H',aw H H'->H' dx=some (.xd [("at",.int n)])->E (.ref Ad.NoReading) (some dx) H'
theorem jB:aG ["book","groups","words","spelling","at","group","entry"] ["book","groups"] (ar zQ):=by subst_eqs
theorem Hl (F:Fun K "said" "said" zQ f fd) (T:Bl mg) (AF:AdF K mg Ad) (C_can_stand:Fnc P w K mg base (CX1 P w) 1 "can_stand" ["entry","many","spelling"] p9) (M_Book_entry:Mtd P w K mg base (CX1 P w) Ad.Book "entry" 3 ["self","number"] (jT Ad)) (K_NoReading:Dw P w K mg base (CX1 P w) Ad.NoReading "NoReading" 1 ["self","at"] (eS Ad)):bJ P w K mg base (CX1 P w) 4 f fd ["book","groups"] (wt Ad):=by
 refine F.okX (k:=3) jB ?_ ?_
 ·bv_decide
 ·bv_normalize
  obtain⟨b,ca,dn,de,g,es,xs,al,ws,r,rfl,B,C,ok,hes,hg,gl,htg,k1,k2⟩:=h
  refine⟨_,af (aA (i:=2) jB.nd (bR (ae))) (af (aA (i:=3) jB.nd (aM)) (af (eQ cf rfl (tE (K:=K) rfl T.enumerate (ag (pvL 1) (ae))) (oS (K:=K) (n:=2) rfl rfl (fH (aL (i:=4) jB.nd) (fH (aL (i:=5) jB.nd) (oT)))) (af (aA (i:=6) jB.nd (dr M_Book_entry av (hr.mono (by decide)) (pvL 0) (ag (pvL 5) (ae)))) (af (bH ((gT (aN zC (pvL 6) (fD) (aQ _)) (fF (cF (cq (ay C_can_stand av (hr.mono (by decide)) (ag (pvL 6) (ag (au (aH (K:=K) rfl) T.len b9 (ag (pvL 2) (ae))) (ag (pvL 3) (ae))))))))).pt) (ai (qI K_NoReading nS rfl (hr.mono (by decide)) (ag (pvL 4) (ae)))) (aU)) (ai (bH (aN (cD (K:=K) rfl hu) (bP (cS (K:=K) rfl) (pvL 6) (ao) (fun _ _=>rfl)) (aM) (aQ _)) (ai (dM (dq (K:=K) rfl eM PySem.F.slot_list_extend PySem.F.type_list_extend CJ (pvL 2) (ag (dq (K:=K) rfl fO pY qa oM (bP (cS (K:=K) rfl) (pvL 6) (ao) (fun _ _=>rfl)) (ag (aM) (ae))) (ae))))) (ai (bH (aN (cD (K:=K) rfl hu) (bP (cS (K:=K) rfl) (pvL 6) (ao) (fun _ _=>rfl)) (aM) (aQ _)) (ai (aA (i:=3) jB.nd (ax aC (pvL 3) (bP (cS (K:=K) rfl) (pvL 6) (ao) (fun _ _=>rfl))))) (af (dM (dq (K:=K) rfl eM fP fQ dO (pvL 2) (ag (pvL 3) (ae)))) (ai (aA (i:=3) jB.nd (aM))))))))))) (af (bH ((gT (aN (fB (K:=K) rfl hu) (pvL 3) (aM) (aQ _)) (fF (aN (cD (K:=K) rfl hu) (au (aH (K:=K) rfl) T.len b9 (ag (pvL 2) (ae))) (ao) (aQ _)))).pt) (ai (qI K_NoReading nS rfl (hr.mono (by decide)) (ag (au (aH (K:=K) rfl) T.len b9 (ag (pvL 1) (ae))) (ae)))) (aU)) (ai (aF (dq (K:=K) rfl fO pX pZ (oK (K:=K) rfl) (aM) (ag (pvL 2) (ae)))))))),?_⟩
  have big:∀ {u:Nat},u<=10000->u<=sizeLine:=fun hu=>aP (aj (by omega))
  generalize hks:xs.map (kOf es)=ks at k1 k2
  have kl:ks.length=xs.length:=by rw[←hks,List.length_map]
  grind
  refine⟨aT _,fun D H1 hD s1 h1=>?_⟩
  cbv
  grind
  cbv
  grind
  refine⟨g,rfl,⟨_,.of (s1 _ _ hg)⟩,?_⟩
  refine uJ (xs:=xs) (fun i σ H'=>∃ (s:SSt) (o4 o5 o6:Option V),σ=[some (V.ref b),some (V.ref g),some (V.ref D),some (V.str (tx s.2)),o4,o5,o6]/\aw H H'/\H' D=some (.lst (s.1.map fun w=>V.str (tx w)))/\sh s/\iQ ks ([],[]) 0=iQ (ks.drop i) s i) ?_ ?_ ?_ ?_
  ·exact⟨([],[]),_,_,_,rfl,s1,h1,Ls,rfl⟩
  ·rintro i σ H' _ ⟨s,o4,o5,o6,_,sH,_⟩
   exact .of (sH _ _ hg)
  ·rintro i x σ A1 hx ⟨s,o4,o5,o6,rfl,sA,hDA,say,hrs⟩ N hNx p A2 zp t2 h2
   clear hN
   refine⟨p,_,rfl,.of h2,rfl,?_⟩
   have S2:=sA.trans t2
   have hD2:=t2 _ _ hDA
   clear zp h2
   have hi:i<xs.length:=(bf.mp hx).1
   obtain⟨tx1,htx⟩:=htg x (bG hx)
   have hk:ks[i]?=some (kOf es x):=by rw[←hks,aJ,hx];rfl
   have hcut:iQ ks ([],[]) 0=iQ (kOf es x::ks.drop (i+1)) s i:=by
    rw[hrs,List.drop_eq_getElem_cons (by rw[kl];exact hi),(bf.mp hk).2]
   have raised:∀ G,aw H G->iQ ks ([],[]) 0=.inl i->∀ dx H',aw G H'->H' dx=some (.xd [("at",.int (i:Int))])->E (.ref Ad.NoReading) (some dx) H':=fun G sG hr dx H' sH hd=>k2 i (by unfold lj;rw[hr]) dx H' (sG.trans sH) hd
   have few:=say.few
   have len:=say.len
   have B2:=B.same S2
   obtain⟨dx2,h12⟩:=B2.bk
   and_intros
   refine fY fun n2 hM=>?_
   and_intros
   have none1:kOf es x=none->∀ D' G,aw A2 G->n2 D' [some (V.ref b),some (V.ref g),some (V.ref D),some (V.str (tx s.2)),some (V.int (i:Int)),some x,some V.non] G:=fun hno D' G tG=>by
    rw[hM]
    clear hM n2
    refine fY fun n2 hM=>?_
    and_intros
    exact⟨big (by decide),kW (by omega) (by omega) (raised G (S2.trans tG) (by rw[hcut,hno];rfl))⟩
   refine⟨dx2,_,h12,cZ (by decide) (by decide) (by decide) ca dn de,b,ca,dn,de,es,al,ws,r,x,tx1,rfl,B2,C.same S2,ok,gD S2 htx,fun hb G tG=>none1 ?_ _ G tG,fun n' en _ _ hno G tG=>?_,fun n' en _ _ u hu eu G tG=>?_⟩
   ·cases x with
    | int n =>
     refine vF fun hm=>?_
     obtain⟨u,hu,eu⟩:=aE.mp hm
     obtain⟨_,u0,u1⟩:=hes u hu
     rw[←eu,jX u0 u1] at hb
     cases hb
    | _=>rfl
   ·subst en
    exact none1 (vF hno) _ G tG
   subst en
   have hem:=hu
   obtain⟨eo,en0,en1⟩:=hes u hu
   have hkk:kOf es (.int n')=some u.key:=by rw[←eu];exact zq B.nn hu
   rw[hkk] at hcut
   clear none1
   rw[hM]
   clear hM n2
   have hG:=S2.trans tG
   have htG:=(B.same hG).en u hem
   have hDG:=tG _ _ hD2
   refine fY fun n2 hM=>?_
   and_intros
   refine⟨_,.inl (.of hDG),?_⟩
   rw[List.length_map]
   refine⟨u.adr,u.key,s,rfl,htG,eo,say,fun G3 t3=>⟨_,rfl,?_⟩⟩
   cases hst:stepK u.key s with
   | none =>
    and_intros
    rw[if_pos (by rfl)]
    and_intros
    exact⟨big (by decide),kW (by omega) (by omega) (raised G3 (hG.trans t3) (by rw[hcut];show (match stepK u.key s with | none=>_ | some s'=>_)=_;rw[hst]))⟩
   | some s' =>
   have hrs':iQ ks ([],[]) 0=iQ (ks.drop (i+1)) s' (i+1):=by
    rw[hcut]
    show (match stepK u.key s with | none=>_ | some s'=>_)=_
    rw[hst]
   have say':=say.step eo hst
   rw[if_neg (by show ¬ (!true)=true;decide)]
   show n2 _ _ _
   rw[hM]
   clear hM n2
   have SG:=hG.trans t3
   have htG3:=t3 _ _ htG
   have hDG3:=t3 _ _ hDG
   have hNN:∀ G,aw H G->G D=some (.lst (s'.1.map fun w=>V.str (tx w)))->N [some (V.ref b),some (V.ref g),some (V.ref D),some (V.str (tx s'.2)),some (V.int (i:Int)),some (V.int n'),some (V.ref u.adr)] G:=fun G sG hDG'=>hNx _ _ ⟨s',_,_,_,rfl,sG,hDG',say',hrs'⟩
   rcases ig eo with ⟨l,ek,hl⟩ | ⟨l,ek,hl⟩ | ek
   ·rw[ek] at htG3 hst eo
    have ht':G3 u.adr=some (.tup [.str ("phrase":Str),.str (tx l)]):=htG3
    have hs:l.length<=10000:=by
     have:=eo.short (tx l) (by simp [kV])
     rwa [bj] at this
    rw[eY] at hst
    split at hst
    ·rename_i hc
     cases hst
     and_intros
     refine⟨_,_,.inr (.of ht'),cC (by decide) rfl,?_⟩
     and_intros
     rw[if_pos (by rfl)]
     refine⟨.inl ⟨rfl,_,.of hDG3⟩,_,_,.inr (.of ht'),cC (by decide) rfl,rfl,?_⟩
     and_intros
     refine⟨by rw[bj];omega,32,rfl,fun p4 G4 hp4 t4 g4=>?_⟩
     rw[bo] at g4
     refine⟨D,p4,_,_,rfl,rfl,t4 _ _ hDG3,g4,by rw[List.length_map,List.length_map];exact big (by omega),?_⟩
     rw[←List.map_append]
     have e2:s.2=[]:=hc.1
     rw[e2]
     exact hNN _ ((SG.trans t4).bZ hD) a8
    ·cases hst
   ·rw[ek] at htG3 hst eo
    have ht':G3 u.adr=some (.tup [.str ("part":Str),.str (tx l)]):=htG3
    rw[iX] at hst
    split at hst
    ·rename_i hc
     cases hst
     and_intros
     refine⟨_,_,.inr (.of ht'),cC (by decide) rfl,?_⟩
     and_intros
     rw[if_neg (by decide)]
     refine⟨_,_,.inr (.of ht'),cC (by decide) rfl,?_⟩
     and_intros
     rw[if_pos (by rfl)]
     refine⟨_,_,.inr (.of ht'),cC (by decide) rfl,?_⟩
     and_intros
     simp only[bj,qS]
     exact⟨big (by omega),hNN _ SG hDG3⟩
    ·cases hst
   ·rw[ek] at htG3 hst eo
    have ht':G3 u.adr=some (.tup [.str ("end":Str)]):=htG3
    rw[ki] at hst
    split at hst
    ·cases hst
    ·rename_i hc
     cases hst
     and_intros
     refine⟨_,_,.inr (.of ht'),cC (by decide) rfl,?_⟩
     and_intros
     rw[if_neg (by decide)]
     refine⟨_,_,.inr (.of ht'),cC (by decide) rfl,?_⟩
     and_intros
     rw[if_neg (by decide)]
     refine fY fun n2 hM=>?_
     and_intros
     refine⟨.inl ⟨rfl,_,.of hDG3⟩,D,_,_,rfl,rfl,hDG3,by rw[List.length_map];exact aj (by omega),?_⟩
     rw[hM]
     clear hM n2
     and_intros
     rw[show (s.1.map fun w=>V.str (tx w))++[V.str (tx s.2)]=(s.1++[s.2]).map fun w=>V.str (tx w) by rw[List.map_append];rfl]
     exact hNN _ (SG.bZ hD) a8
  rintro σ H2 ⟨s,o4,o5,o6,rfl,s2,h2,say,hrs⟩
  show nn _ _ _
  cbv
  have hfin:iQ ks ([],[]) 0=.inr s:=by
   rw[hrs,List.drop_eq_nil_of_le (by omega)];rfl
  clear hrs
  obtain⟨wd,sp⟩:=s
  have few:wd.length<=60:=say.few
  have ended:¬ (sp=[]/\wd≠[])->∀ dx H',aw H2 H'->H' dx=some (.xd [("at",.int (xs.length:Int))])->E (.ref Ad.NoReading) (some dx) H':=fun hno dx H' sH hd=>k2 xs.length (by unfold lj;rw[hfin];show (if _ then _ else _)=_;rw[if_neg hno,kl]) dx H' (s2.trans sH) hd
  grind
  have e0:Str.ofString ""=tx []:=rfl
  rw[e0,ub]
  by_cases hsp:sp=[]
  ·subst hsp
   rw[if_neg (by decide)]
   refine⟨_,.inl (.of h2),?_⟩
   rw[List.length_map]
   show (if decide ((wd.length:Int)=0)=true then _ else _)
   by_cases hwne:wd=[]
   ·subst hwne
    rw[if_pos (by decide)]
    and_intros
    refine⟨_,.inl (.of (s2 _ _ hg)),big (by decide),kW (by omega) (by omega) (ended (fun z=>z.2 rfl))⟩
   have hl0:wd.length≠0:=fun z=>hwne (mQ.mp z)
   obtain⟨j1,j2⟩:=AN (ws:=wd) few say.wds
   rw[if_neg (by rw[decide_eq_false (by omega)];decide)]
   show nn _ _ _
   cbv
   and_intros
   have ejs:(wd.map fun w=>V.str (tx w))=(wd.map tx).map V.str:=by rw[List.map_map];rfl
   refine⟨rfl,wd.map tx,.of (by rw[h2,ejs]),?_,?_⟩
   ·rw[List.map_map,List.length_map]
    have:(wd.map ((fun z:Str=>z.length) ∘ tx)).sum<=(wd.map fun w=>w.length+1).sum:=by
     have e:wd.map ((fun z:Str=>z.length) ∘ tx)=wd.map fun w=>w.length:=i8 fun w _=>bj w
     rw[e]
     clear e j1 j2 ejs h2 say hfin hwne few hl0 ended
     induction wd with
     | nil=>simp
     | cons w r ih=>simp only[aR,jq];omega
    have e1:(Str.ofString " ").length=1:=rfl
    rw[e1]
    omega
   ·rw[show (Str.ofString " ")=tx [32] from rfl,vf]
    exact k1 wd (by unfold lj;rw[hfin];exact if_pos ⟨rfl,hwne⟩) H2 s2
  ·rw[if_pos (by rw[decide_eq_false hsp];rfl)]
   and_intros
   refine⟨_,.inl (.of (s2 _ _ hg)),big (by decide),kW (by omega) (by omega) (ended (fun z=>hsp z.1))⟩
def rz (Ad:Ads):Sp:=fun vs H Q _=>∃ (ca q:Addr) (al:List Nat) (ws:List Int) (r:Int) (gs:List Int),vs=[.ref ca,.ref q]/\cx Ad H ca al ws r/\bD al ws r/\H q=some (.lst (gs.map V.int))/\∀ H',aw H H'->Q (wdV (yq al ws r ((gs.sum+(gs.length:Int))%bL al ws))) H'
theorem ya:aG ["code","groups"] ["code","groups"] (ar nV):=by subst_eqs
theorem xx (F:Fun K "check_of" "check_of" nV f fd) (T:Bl mg) (AF:AdF K mg Ad) (C_check_number:Fnc P w K mg base (CX1 P w) 2 "check_number" ["code","groups"] (iL Ad)) (M_Code_word:Mtd P w K mg base (CX1 P w) Ad.Code "word" 3 ["self","k"] (lr Ad)):bJ P w K mg base (CX1 P w) 4 f fd ["code","groups"] (rz Ad):=by
 refine F.okX (k:=3) ya ?_ ?_
 ·bv_decide
 ·bv_normalize
  obtain⟨ca,q,al,ws,r,gs,rfl,C,ok,hq,k⟩:=h
  refine⟨_,ai (aF (dr M_Code_word av (hr.mono (by decide)) (pvL 0) (ag (ay C_check_number av (hr.mono (by decide)) (ag (pvL 0) (ag (pvL 1) (ae)))) (ae)))),?_⟩
  obtain⟨dc,qc,hc1,hc2⟩:=id C
  have a3:=ok.a3
  have hmany:0<bL al ws:=Int.pow_pos (by omega)
  have c0:=c4 (gs.sum+(gs.length:Int)) (b:=bL al ws) (by omega)
  have c1:=cH (gs.sum+(gs.length:Int)) hmany
  and_intros
  refine⟨dc,_,hc1,bQ (by decide) (by decide) (by decide) al qc r,ca,q,al,ws,r,gs,rfl,C,ok,hq,fun G1 t1=>?_⟩
  refine⟨ca,al,ws,r,.int _,.int,rfl,C.same t1,ok,rfl,(fun h=>?_),fun k' e _ _ G3 t3=>?_⟩
  ·rw[jX (b:=(al.length:Int)^(ws.length-1)) c0 c1] at h;cases h
  cases e
  exact k G3 (t1.trans t3)
def mn (Ad:Ads):Sp:=fun vs H Q _=>∃ (b ca dn de f t:Addr) (es:List Ben) (al:List Nat) (ws:List Int) (r n:Int) (key:List Key) (y:V),vs=[.ref b,.ref t,y,.ref f]/\eh Ad H b ca dn de es/\cx Ad H ca al ws r/\bD al ws r/\qj uk Ad.tb H f/\H t=some (.tup (key.map kV))/\jI key/\key∉es.map (·.key)/\es.length<300 ∧
 0<=n/\n<bL al ws/\n∉es.map (·.num)/\(y=.int n∨(y=.non/\yx (es.map (·.num)) n))/\∀ H',aw H H'->Q (.int n) H'
theorem tM:aG ["self","entry","number","is_barred"] ["self","entry","number","is_barred"] (ar jK):=by subst_eqs
theorem sS (F:Fun K "choose" "Book.choose" jK f fd) (T:Bl mg) (AF:AdF K mg Ad) (C_is_below:Fnc P w K mg base (CX1 P w) 2 "is_below" ["thing","bound"] gj) (C_is_entry:Fnc P w K mg base (CX1 P w) 3 "is_entry" ["thing"] r0) (M_Book_least_free:Mtd P w K mg base (CX1 P w) Ad.Book "least_free" 2 ["self","is_barred"] (fZ Ad)) (M_Code_many:Mtd P w K mg base (CX1 P w) Ad.Code "many" 1 ["self"] (fz Ad)):bJ P w K mg base (CX1 P w) 4 f fd ["self","entry","number","is_barred"] (mn Ad):=by
 refine F.okX (k:=3) tM ?_ (fun cdv A outer s H vs Q E hr h=>?_)
 ·bv_decide
 ·obtain⟨b,ca,dn,de,f,t,es,al,ws,r,n,key,y,rfl,B,C,ok,Fb,ht,eo,hk,h300,n0,n1,hnn,hy,k⟩:=h
  obtain⟨dx,h1⟩:=B.bk
  have hu:=hr.m8
  have hu1:=sF hr
  refine⟨_,af (bH (cF (cq (ay C_is_entry av (hr.mono (by decide)) (ag (pvL 1) (ae))))) (ai (du cT AF.q_NoEntry AF.g_NoEntry cL rfl (ag (aM) (ae)))) (aU)) (af (bH (aN (qF (K:=K) rfl hu1) (pvL 1) (cj (K:=K) rfl (pvL 0)) (by kernel_rfl)) (ai (du cT AF.q_Twice AF.g_Twice cL rfl (ag (aM) (ae)))) (aU)) (af (bH (aN qG (pvL 2) (fD) (aQ _)) (af (bH (cF (cq (ay C_is_below av (hr.mono (by decide)) (ag (pvL 2) (ag (cE M_Code_many av (hr.mono (by decide)) (cj (K:=K) rfl (pvL 0))) (ae)))))) (ai (du cT AF.q_NoNumber AF.g_NoNumber cL rfl (ag (aM) (ae)))) (aU)) (ai (bH ((gT (aN (qF (K:=K) rfl hu1) (pvL 2) (cj (K:=K) rfl (pvL 0)) (by kernel_rfl)) (fF (cq (tp (q:=uk) (Pt:=Ad.tb) (pvL 3) hr (ag (pvL 2) (ae)))))).pt) (ai (du cT AF.q_NoNumber AF.g_NoNumber cL rfl (ag (aM) (ae)))) (aU)))) (aU)) (af (bH (aN EX (au BD T.len b9 (ag (cj (K:=K) rfl (pvL 0)) (ae))) (eI AF.v_MOST_ENTRIES) (aQ _)) (ai (du cT AF.q_TooMany AF.g_TooMany cL rfl (ag (aM) (ae)))) (aU)) (ai (aF (xM (aN zC (pvL 2) (fD) (aQ _)) (dr M_Book_least_free av (hr.mono (by decide)) (pvL 0) (ag (pvL 3) (ae))) (pvL 2))))))),?_⟩
  grind
  refine⟨_,.tup,rfl,(show kj (H t)=_ by rw[ht];rfl),(fun p xs ep hp=>?_),fun G1 t1=>?_⟩
  ·cases ep
   rw[ht] at hp
   cases hp
   refine⟨by rw[List.length_map];have:=eo.few;omega,fun v hv=>?_⟩
   obtain⟨z,hz,rfl⟩:=aE.mp hv
   exact⟨J9 H z,fun s es=>eo.short s (by rw[←es];exact hv)⟩
  rw[GO ht eo]
  and_intros
  cbv
  have B1:=B.same t1
  obtain⟨dx1,h11⟩:=B1.bk
  grind
  refine⟨_,dx1,_,_,h11,AF.c_Book,AF.n_Book_by_entry,u7 ca dn de,?_⟩
  refine .inr ⟨_,.inr ⟨_,key,t,.inl B1.he,rfl,t1 _ _ ht,rfl⟩,?_⟩
  rw[DY hk]
  bv_omega
  show nn _ _ _
  cbv
  have rest:∀ (G2:Hp),aw H G2->(FR
       (Ku
        (ym
         (tOp (Lm K) (tCB Fw (vd (FO K (wB 0) (Str.ofString "by_number")) Ae)) (tC (V.int 300))))
        (zP Ad.TooMany (fun x=>E) (vd (tC (V.str (Str.ofString "a book has at most 300 entries"))) Ae))
        FQ)
       (Kv
        (tIf (ym (tOp (Dc false) (wB 2) (tC V.non)))
         (wA Ad.Book (Str.ofString "least_free") (fZ Ad) (fun x=>E) (wB 0)
          (vd (wB 3) Ae))
         (wB 2)))) { nx:=fun x H'=>Q V.non H',rt:=Q } [some (V.ref b),some (V.ref t),some y,some (V.ref f)] G2:=by
   intro G2 t2
   have B2:=B.same t2
   obtain⟨dx2,h12⟩:=B2.bk
   grind
   refine⟨_,dx2,_,_,h12,AF.c_Book,AF.n_Book_by_number,jY ca dn de,?_⟩
   and_intros
   refine⟨_,.inl B2.hn,?_⟩
   rw[kg,decide_eq_false (show ¬ (300:Int)<=(es.length:Int) by omega)]
   bv_omega
   show nn _ _ _
   cbv
   rcases hy with rfl | ⟨rfl,Lf⟩
   ·and_intros
    exact k G2 t2
   ·and_intros
    exact⟨dx2,_,h12,cZ (by decide) (by decide) (by decide) ca dn de,b,ca,dn,de,f,es,al,ws,r,n,rfl,B2,C.same t2,ok,Fb.same t2,Lf,n1,fun G3 t3=>k G3 (t2.trans t3)⟩
  grind
  rcases id hy with rfl | ⟨rfl,Lf⟩
  ·and_intros
   have C1:=C.same t1
   obtain⟨dc,qc,hc1,hc2⟩:=id C1
   refine fY fun n2 hM=>?_
   and_intros
   refine⟨_,dx1,_,_,h11,AF.c_Book,AF.n_Book_basis,j5 ca dn de,?_⟩
   refine⟨dc,_,hc1,bQ (by decide) (by decide) (by decide) al qc r,ca,al,ws,r,rfl,C1,ok.a26,by have:=ok.w3;omega,ok.w8,fun G2 t2=>?_⟩
   refine⟨_,.int,_,rfl,rfl,?_⟩
   rw[jX (b:=(al.length:Int)^(ws.length-1)) n0 n1]
   and_intros
   rw[hM]
   clear hM n2
   have t02:=t1.trans t2
   have B2:=B.same t02
   obtain⟨dx2,h12⟩:=B2.bk
   and_intros
   refine⟨_,dx2,_,_,h12,AF.c_Book,AF.n_Book_by_number,jY ca dn de,?_⟩
   refine .inr ⟨_,.inl ⟨_,.inl n,.inl B2.hn,rfl,rfl⟩,?_⟩
   rw[sR hnn]
   bv_omega
   refine⟨Fb.same t02,Fb.same t02,?_⟩
   show nn _ _ _
   rw[hN]
   exact rest G2 t02
  ·and_intros
   show nn _ _ _
   rw[hN]
   exact rest G1 t1
def rD (Ad:Ads):Sp:=fun vs H Q E=>∃ (b ca dn de g:Addr) (es:List Ben) (xs:List V) (al:List Nat) (ws:List Int) (r:Int),vs=[.ref b,.ref g]/\eh Ad H b ca dn de es/\cx Ad H ca al ws r/\bD al ws r/\(∀ e∈es,jI e.key/\0<=e.num/\e.num<bL al ws)/\H g=some (.lst xs)/\xs.length<=1000/\(∀ x∈xs,∃ t,eG H x=some t) ∧
 (∀ wd,lj (xs.map (kOf es))=.inr wd->∀ gs:List Int,xs=gs.map V.int->(∀ x∈gs,x∈es.map (·.num))->∀ D H',H D=none->aw H H'->H' D=some (.lst ((cy al ws r gs).map wdV))->Q (.ref D) H')/\∀ n,lj (xs.map (kOf es))=.inl n->∀ dx H',aw H H'->H' dx=some (.xd [("at",.int n)])->E (.ref Ad.NoReading) (some dx) H'
theorem xW {es:List Ben}:∀ {xs:List V}{s s':SSt}{i:Nat},iQ (xs.map (kOf es)) s i=.inr s'->∃ gs:List Int,xs=gs.map V.int/\∀ x∈gs,x∈es.map (·.num)
 | [],_,_,_,_=>⟨[],rfl,fun x h=>by cases h⟩
 | x::xs,s,s',i,h=>by
  rw[aR] at h
  cases hk:kOf es x with
  | none=>rw[hk] at h;cases h
  | some k =>
   rw[hk] at h
   have h':(match stepK k s with | none=>Sum.inl i | some t=>iQ (xs.map (kOf es)) t (i+1))=.inr s':=h
   cases hs:stepK k s with
   | none=>rw[hs] at h';cases h'
   | some t =>
    rw[hs] at h'
    obtain⟨gs,rfl,hg⟩:=xW h'
    cases x with
    | int n =>
     refine⟨n::gs,rfl,fun y hy=>?_⟩
     rcases aI.mp hy with rfl | hy
     ·refine Classical.byContradiction fun hno=>?_
      rw[vF hno] at hk
      cases hk
     ·exact hg y hy
    | _=>cases hk
theorem HP {es:List Ben}{wd:List (List Nat)} (h:lj (xs.map (kOf es))=.inr wd):∃ gs:List Int,xs=gs.map V.int/\∀ x∈gs,x∈es.map (·.num):=by
 unfold lj at h
 cases hr:iQ (xs.map (kOf es)) ([],[]) 0 with
 | inl n=>rw[hr] at h;cases h
 | inr s=>exact xW hr
theorem rn:aG ["book","groups","code"] ["book","groups"] (ar om):=by subst_eqs
theorem xI (F:Fun K "telegram" "telegram" om f fd) (T:Bl mg) (AF:AdF K mg Ad) (C_check_of:Fnc P w K mg base (CX1 P w) 4 "check_of" ["code","groups"] (rz Ad)) (C_said:Fnc P w K mg base (CX1 P w) 4 "said" ["book","groups"] (wt Ad)) (M_Code_word:Mtd P w K mg base (CX1 P w) Ad.Code "word" 3 ["self","k"] (lr Ad)) (M_Book_code:Mtd P w K mg base (CX1 P w) Ad.Book "code" 1 ["self"] (eE Ad)):bJ P w K mg base (CX1 P w) 5 f fd ["book","groups"] (rD Ad):=by
 refine F.okX (k:=4) rn ?_ ?_
 ·bv_decide
 ·bv_normalize
  obtain⟨b,ca,dn,de,g,es,xs,al,ws,r,rfl,B,C,ok,hes,hg,gl,htg,k1,k2⟩:=h
  refine⟨_,af (dM (ay C_said av (hr.mono (by decide)) (ag (pvL 0) (ag (pvL 1) (ae))))) (af (fV (i:=2) rn.nd (cE M_Book_code av (hr.mono (by decide)) (pvL 0))) (ai (aF (ax aC (gS ["group"] rfl ⟨rfl,by decide +kernel,rfl,by decide +kernel⟩ (.cons (j:=2) rfl (.inl (by kernel_rfl)) (.nil)) (by decide +kernel) (ck (K:=K) rfl (pvL 1)) (fun _ _ _ _=>aL (i:=0) (show (["group","code"]:List Str).Nodup from by decide +kernel)) (fun _ _ _ _=>dI) (fun _ _ _ _=>dr M_Code_word eT (hr.mono (by decide)) (pvC 1) (ag (pvL 0) (ae)))) (bR (ag (ay C_check_of av (hr.mono (by decide)) (ag (pvC 2) (ag (pvL 1) (ae)))) (ae))))))),?_⟩
  grind
  refine⟨b,ca,dn,de,g,es,xs,al,ws,r,rfl,B,C,ok,hes,hg,gl,htg,fun wd hwd H1 s1=>?_,k2⟩
  obtain⟨gs,rfl,hgs⟩:=HP hwd
  have k1':=k1 wd hwd gs rfl hgs
  have hgb:∀ x∈gs,0<=x/\x<bL al ws:=fun x hx=>by
   obtain⟨e,he,rfl⟩:=aE.mp (hgs x hx)
   exact (hes e he).2
  rw[List.length_map] at gl
  rw[hN]
  clear hN nn k1 k2
  grind
  have B1:=B.same s1
  have C1:=C.same s1
  have hg1:=s1 _ _ hg
  obtain⟨dx,h1⟩:=B1.bk
  refine⟨dx,_,h1,cZ (by decide) (by decide) (by decide) ca dn de,b,ca,dn,de,es,rfl,B1,?_⟩
  cbv
  and_intros
  refine .inl ⟨⟨_,.of hg1⟩,um V.int iO (eJ (.of hg1)) (aj (by omega)) (fun g=>wdV (yq al ws r g)) ?_ ?_⟩
  ·intro x hx G2 t2 R hR
   have C2:=C1.same t2
   obtain⟨dc2,qc2,hc21,hc22⟩:=id C2
   obtain⟨g0,g1⟩:=hgb x hx
   and_intros
   refine⟨dc2,_,hc21,bQ (by decide) (by decide) (by decide) al qc2 r,ca,al,ws,r,.int x,.int,rfl,C2,ok,rfl,(fun h=>?_),fun k e _ _ G3 t3=>?_⟩
   ·rw[jX (b:=(al.length:Int)^(ws.length-1)) g0 g1] at h;cases h
   ·cases e
    exact hR G3 t3
  intro D G2 hD t2 g2
  and_intros
  refine⟨ca,g,al,ws,r,gs,rfl,C1.same t2,ok,t2 _ _ hg1,fun G3 t3=>?_⟩
  refine⟨aP (aj (by decide)),fun p G4 hp t4 g4=>⟨_,_,(t3.trans t4) _ _ g2,g4,by rw[List.length_map];exact aP (aj (by simp;omega)),fun p5 G5 hp5 t5 g5=>?_⟩⟩
  refine k1' p5 G5 ((s1.trans (t2.trans (t3.trans t4))).free hp5) (s1.trans (t2.trans (t3.trans (t4.trans t5)))) ?_
  rw[g5]
  unfold cy
  rw[List.map_append,List.map_map];rfl
def mz (Ad:Ads):Sp:=fun vs H Q _=>∃ (b ca dn de:Addr) (es:List Ben) (al:List Nat) (ws:List Int) (r:Int) (z:List Nat) (c:Bool),vs=[.ref b,.str (tx z),.bl c]/\eh Ad H b ca dn de es/\cx Ad H ca al ws r/\bD al ws r/\z.length<=100 ∧
 ∀ H',aw H H'->Q (.bl (Mk.bU al ws r z&&(c||decide (il al z∈es.map (·.num))))) H'
theorem rl:aG ["book","word","is_check","code"] ["book","word","is_check"] (ar nZ):=by subst_eqs
theorem xC (F:Fun K "is_sound" "is_sound" nZ f fd) (T:Bl mg) (AF:AdF K mg Ad) (M_Book_entry:Mtd P w K mg base (CX1 P w) Ad.Book "entry" 3 ["self","number"] (jT Ad)) (M_Code_number:Mtd P w K mg base (CX1 P w) Ad.Code "number" 4 ["self","word"] (gA Ad)) (M_Code_has_good:Mtd P w K mg base (CX1 P w) Ad.Code "has_good" 3 ["self","thing"] (dQ Ad)) (M_Book_code:Mtd P w K mg base (CX1 P w) Ad.Book "code" 1 ["self"] (eE Ad)):bJ P w K mg base (CX1 P w) 5 f fd ["book","word","is_check"] (mz Ad):=by
 refine F.okX (k:=4) rl ?_ (fun cdv A outer s H vs Q E hr h=>?_)
 ·bv_decide
 ·obtain⟨b,ca,dn,de,es,al,ws,r,z,c,rfl,B,C,ok,zl,k⟩:=h
  obtain⟨dx,h1⟩:=B.bk
  have hu:=hr.m8
  have hu1:=sF hr
  refine⟨_,af (aA (i:=3) rl.nd (cE M_Book_code av (hr.mono (by decide)) (pvL 0))) (af (bH (cF (cq (dr M_Code_has_good av (hr.mono (by decide)) (pvL 3) (ag (pvL 1) (ae))))) (ai (aF (kh))) (aU)) (ai (aF (Lh (pvL 2) (lU (dh qG (dr M_Book_entry av (hr.mono (by decide)) (pvL 0) (ag (dr M_Code_number av (hr.mono (by decide)) (pvL 3) (ag (pvL 1) (ae))) (ae))) (fD) (aQ _))))))),?_⟩
  grind
  refine⟨dx,_,h1,cZ (by decide) (by decide) (by decide) ca dn de,b,ca,dn,de,es,rfl,B,?_⟩
  cbv
  obtain⟨dc,qc,hc1,hc2⟩:=id C
  grind
  refine⟨dc,_,hc1,bQ (by decide) (by decide) (by decide) al qc r,ca,al,ws,r,.str (tx z),.str,rfl,C,ok,rfl,(fun y ey=>by rw[←V.str.inj ey,bj];omega),fun G1 t1=>?_⟩
  have eg:hX (tx al) ws r (.str (tx z))=Mk.bU al ws r z:=by
   show Mk.bU (tx al).cps.toList ws r (tx z).cps.toList=_
   rw[bo,bo]
  rw[eg]
  cases hg:Mk.bU al ws r z with
  | false =>
   rw[hg] at k
   and_intros
   exact k G1 t1
  | true =>
   rw[hg,dA] at k
   and_intros
   cbv
   cases c with
   | true =>
    and_intros
    exact k G1 t1
   | false =>
    and_intros
    have B1:=B.same t1
    have C1:=C.same t1
    obtain⟨dx1,h11⟩:=B1.bk
    obtain⟨dc1,qc1,hc11,hc12⟩:=id C1
    obtain⟨n0,n1⟩:=uT ok hg
    refine⟨dx1,_,h11,cZ (by decide) (by decide) (by decide) ca dn de,dc1,_,hc11,bQ (by decide) (by decide) (by decide) al qc1 r,ca,al,ws,r,.str (tx z),.str,rfl,C1,ok,rfl,(fun y ey=>by rw[←V.str.inj ey,bj];omega),(fun h=>by rw[eg,hg] at h;cases h),fun y ey hy G2 t2=>?_⟩
    have ey':y=tx z:=(V.str.inj ey).symm
    subst ey'
    rw[bo]
    have en:Mk.numOf (al.length:Int) (Mk.plc al z.dropLast)=il al z:=rfl
    rw[en] at n0 n1 ⊢
    refine⟨b,ca,dn,de,es,al,ws,r,.int (il al z),.int,rfl,B1.same t2,C1.same t2,ok,rfl,(fun h=>?_),(fun n e _ _ hn G3 t3=>?_),fun n e _ _ x hx ex G3 t3=>?_⟩
    ·rw[jX (b:=bL al ws) n0 n1] at h;cases h
    ·cases e
     have:=k G3 (t1.trans (t2.trans t3))
     rw[decide_eq_false hn] at this
     exact this
    ·cases e
     have:=k G3 (t1.trans (t2.trans t3))
     rw[aq (show il al z∈es.map (·.num) by rw[←ex];exact iB hx)] at this
     exact this
def tX (Ad:Ads):Sp:=fun vs H Q _=>∃ (b ca dn de q:Addr) (es:List Ben) (al:List Nat) (ws:List Int) (r:Int) (ns:List Int),vs=[.ref b,.ref q]/\eh Ad H b ca dn de es/\cx Ad H ca al ws r/\bD al ws r/\(∀ e∈es,jI e.key/\0<=e.num/\e.num<bL al ws)/\H q=some (.lst (ns.map V.int))/\1<=ns.length/\ns.length<=1000 ∧
 (∀ t,lC es (bL al ws) ns=some t->∀ H',aw H H'->Q (.str (tx t)) H')/\(lC es (bL al ws) ns=none->∀ H',aw H H'->Q .non H')
theorem tR:aG ["book","numbers","groups"] ["book","numbers"] (ar qO):=by subst_eqs
theorem zA (F:Fun K "text_of" "text_of" qO f fd) (T:Bl mg) (AF:AdF K mg Ad) (C_said:Fnc P w K mg base (CX1 P w) 4 "said" ["book","groups"] (wt Ad)) (C_check_number:Fnc P w K mg base (CX1 P w) 2 "check_number" ["code","groups"] (iL Ad)) (M_Book_code:Mtd P w K mg base (CX1 P w) Ad.Book "code" 1 ["self"] (eE Ad)):bJ P w K mg base (CX1 P w) 5 f fd ["book","numbers"] (tX Ad):=by
 refine F.okX (k:=4) tR ?_ ?_
 ·bv_decide
 ·bv_normalize
  obtain⟨b,ca,dn,de,q,es,al,ws,r,ns,rfl,B,C,ok,hes,hq,n1,n1000,k1,k2⟩:=h
  refine⟨_,af (aA (i:=2) tR.nd (cG (iu (K:=K) rfl) (pvL 1) (dJ) (di (Fl Ai (ao))))) (af (bH (aN (fB (K:=K) rfl hu) (bP (cS (K:=K) rfl) (pvL 1) (Fl Ai (ao)) (fun _ _=>rfl)) (ay C_check_number av (hr.mono (by decide)) (ag (cE M_Book_code av (hr.mono (by decide)) (pvL 0)) (ag (pvL 2) (ae)))) (aQ _)) (ai (aF (fD))) (aU)) (ai (HC rfl rfl rfl (fun pn xe E1 po px=>ai (aF (ay C_said px (hr.mono (by decide)) (ag (pvL 0) (ag (pvL 2) (ae)))))) (Lj AF.g_NoReading (fun _=>ai (aF (fD))) (Kh))))),?_⟩
  grind
  refine⟨_,.of hq,fun p H1 hp s1 h1=>?_⟩
  rw[BU,←List.map_dropLast] at h1
  cbv
  grind
  obtain⟨m,hm⟩:∃ m,ns.getLast?=some m:=by
   cases h:ns.getLast? with
   | none=>rw[List.getLast?_eq_none_iff] at h;subst h;simp at n1
   | some m=>exact⟨m,rfl⟩
  have B1:=B.same s1
  have C1:=C.same s1
  obtain⟨dx,hb1⟩:=B1.bk
  have eD:ns.getLastD 0=m:=by rw[jo,hm];rfl
  refine⟨_,_,.l (s1 _ _ hq),B8 (v:=.int m) (by rw[List.getLast?_map,hm];rfl),dx,_,hb1,cZ (by decide) (by decide) (by decide) ca dn de,b,ca,dn,de,es,rfl,B1,?_⟩
  refine⟨ca,p,al,ws,r,ns.dropLast,rfl,C1,ok,h1,fun G1 t1=>?_⟩
  and_intros
  by_cases hc:m=(ns.dropLast.sum+(ns.dropLast.length:Int))%bL al ws
  ·rw[aq hc]
   bv_omega
   show nn _ _ _
   cbv
   and_intros
   refine⟨b,ca,dn,de,p,es,ns.dropLast.map V.int,al,ws,r,rfl,B1.same t1,C1.same t1,ok,hes,t1 _ _ h1,by rw[List.length_map,i7];omega,(fun x hx=>by obtain⟨n,_,rfl⟩:=aE.mp hx;exact⟨.int,rfl⟩),fun wd hwd G2 t2=>k1 _ (by unfold lC;rw[eD,if_pos hc,hwd]) G2 (s1.trans (t1.trans t2)),fun n hn dx2 G2 t2 hdx ea G3 hea t3 h3 hxd=>⟨true,AF.x_NoReading,?_⟩⟩
   rw[if_pos rfl]
   exact k2 (by unfold lC;rw[eD,if_pos hc,hn]) G3 (s1.trans (t1.trans (t2.trans t3)))
  ·rw[decide_eq_false hc]
   bv_omega
   exact k2 (by unfold lC;rw[eD,if_neg hc]) G1 (s1.trans t1)
def jC (Ad:Ads):Sp:=fun vs H Q _=>∃ (b ca dn de t:Addr) (es:List Ben) (al:List Nat) (ws:List Int) (r n:Int) (key:List Key) (y:V),vs=[.ref b,.ref t,y]/\eh Ad H b ca dn de es/\cx Ad H ca al ws r/\bD al ws r/\H Ad.tb=some (nA uk)/\H t=some (.tup (key.map kV))/\jI key/\key∉es.map (·.key)/\es.length<300 ∧
 0<=n/\n<bL al ws/\n∉es.map (·.num)/\(y=.int n∨(y=.non/\yx (es.map (·.num)) n))/\∀ H',(∀ c o,c≠dn->c≠de->H c=some o->H' c=some o)->eh Ad H' b ca dn de (es++[⟨n,key,t⟩])->Q (.int n) H'
theorem rf:aG ["self","entry","number","given"] ["self","entry","number"] (ar cR):=by subst_eqs
theorem ra (F:Ga K "put" "Book.put" cR f fd) (T:Bl mg) (AF:AdF K mg Ad) (CD:fd.code=.ref Ad.cd) (M_Book_choose:Mtd P w K mg base (CX1 P w) Ad.Book "choose" 4 ["self","entry","number","is_barred"] (mn Ad)):bJ P w K mg base (CX1 P w) 5 f fd ["self","entry","number"] (jC Ad):=by
 refine F.okT (k:=4) CD rf ?_ (fun A outer s H vs Q E hr h=>?_)
 ·bv_decide
 ·obtain⟨b,ca,dn,de,t,es,al,ws,r,n,key,y,rfl,B,C,ok,Tb,ht,eo,hk,h300,n0,n1,hnn,hy,k⟩:=h
  obtain⟨dx,h1⟩:=B.bk
  have hu:=hr.m8
  have hu1:=sF hr
  refine⟨_,af (aA (i:=3) rf.nd (dr M_Book_choose av (hr.mono (by decide)) (pvL 0) (ag (pvL 1) (ag (pvL 2) (ag (Hw (q:=uk) (x:="k") rfl AF.t_tab (by kernel_rfl) rfl rfl (fun _ _ _ _=>rfl)) (ae)))))) (af (tI hu1 (cj (K:=K) rfl (pvL 0)) (pvL 3) (pvL 1)) (af (tI hu1 (cj (K:=K) rfl (pvL 0)) (pvL 1) (pvL 3)) (ai (aF (pvL 3))))),?_⟩
  grind
  refine⟨dx,_,h1,cZ (by decide) (by decide) (by decide) ca dn de,Tb,fun f G1 z1 t1 Fb=>?_⟩
  refine⟨b,ca,dn,de,f,t,es,al,ws,r,n,key,y,rfl,B.same t1,C.same t1,ok,Fb,t1 _ _ ht,eo,hk,h300,n0,n1,hnn,hy,fun G2 t2=>?_⟩
  have t02:=t1.trans t2
  have B2:=B.same t02
  obtain⟨dx2,h12⟩:=B2.bk
  cbv
  grind
  refine⟨_,dx2,_,_,h12,AF.c_Book,AF.n_Book_by_number,jY ca dn de,dn,_,rfl,.inl ⟨_,.inl n,B2.hn,rfl,by rw[kg];exact aj (by omega),rfl⟩,?_⟩
  rw[vZ (sR hnn),show gR es++[((.inl n:Key),V.ref t)]=gR (es++[⟨n,key,t⟩]) from (uV es ⟨n,key,t⟩).symm]
  have hnb:dn≠b:=iN B2.hn h12 (by intro z;cases z)
  have heb:de≠b:=iN B2.he h12 (by intro z;cases z)
  have hne:dn≠de:=iN B2.hn B2.he (by intro z;cases z)
  have hdt:∀ {c:Addr}{xs:List V},G2 c=some (.tup xs)->c≠dn/\c≠de:=fun h=>⟨iN h B2.hn (by intro z;cases z),iN h B2.he (by intro z;cases z)⟩
  have k3:∀ c o,c≠dn->G2 c=some o->upd G2 dn (.dK (gR (es++[⟨n,key,t⟩]))) c=some o:=fun c o hc h=>by rw[aD hc];exact h
  have g3:upd G2 dn (.dK (gR (es++[⟨n,key,t⟩]))) dn=some (.dK (gR (es++[⟨n,key,t⟩]))):=a8
  generalize upd G2 dn (.dK (gR (es++[⟨n,key,t⟩])))=G3 at k3 g3
  cbv
  have ht2:=t02 _ _ ht
  have hb3:=k3 _ _ hnb.symm h12
  grind
  refine⟨_,dx2,_,_,hb3,AF.c_Book,AF.n_Book_by_entry,u7 ca dn de,de,_,rfl,.inr ⟨_,key,t,k3 _ _ hne.symm B2.he,rfl,k3 _ _ (hdt ht2).1 ht2,by show (qp es).length<_;unfold qp;rw[List.length_map];exact aj (by omega),rfl⟩,?_⟩
  rw[vZ (DY hk),show qp es++[(key,V.int n)]=qp (es++[⟨n,key,t⟩]) from (BX es ⟨n,key,t⟩).symm]
  have k4:∀ c o,c≠de->G3 c=some o->upd G3 de (.dT (qp (es++[⟨n,key,t⟩]))) c=some o:=fun c o hc h=>by rw[aD hc];exact h
  have g4:upd G3 de (.dT (qp (es++[⟨n,key,t⟩]))) de=some (.dT (qp (es++[⟨n,key,t⟩]))):=a8
  generalize upd G3 de (.dT (qp (es++[⟨n,key,t⟩])))=G4 at k4 g4
  cbv
  and_intros
  refine k G4 (fun c o h1 h2 h=>k4 _ _ h2 (k3 _ _ h1 (t02 _ _ h))) ⟨⟨dx2,k4 _ _ heb.symm hb3⟩,k4 _ _ hne g3,g4,fun e he=>?_,?_,?_⟩
  ·rcases bz.mp he with he | he
   ·have:=B2.en e he
    exact k4 _ _ (hdt this).2 (k3 _ _ (hdt this).1 this)
   ·rw[aV.mp he]
    exact k4 _ _ (hdt ht2).2 (k3 _ _ (hdt ht2).1 ht2)
  ·rw[List.map_append];exact vH B.nn hnn
  ·rw[List.map_append];exact vH B.nk hk
theorem DH {n:Int} (h:gb al n H x=true):∃ (p:Addr) (zs:List (List Nat)),x=.ref p/\H p=some (.lst (zs.map wdV))/\2<=zs.length/\zs.length<=1400/\∀ z∈zs,Mk.b8 al n z=true:=by
 cases x with
 | ref p =>
  have h':(match H p with | some (.lst xs)=>decide (2<=xs.length)&&decide (xs.length<=1400)&&xs.all (cV (tx al) n) | _=>false)=true:=h
  split at h'
  ·rename_i xs hp
   rw[bI,bI,bC,bC] at h'
   obtain⟨zs,rfl,hz⟩:=words_of (al:=al) (n:=n) (f:=cV (tx al) n) (fun x hx=>by
    cases x with
    | str z=>exact⟨z,rfl,by have hx':Mk.b8 (tx al).cps.toList n z.cps.toList=true:=hx;rwa [bo] at hx'⟩
    | _=>cases hx) h'.2
   rw[List.length_map] at h'
   exact⟨p,zs,rfl,hp,h'.1.1,h'.1.2,hz⟩
  ·cases h'
 | _=>cases h
def jE (Ad:Ads):Sp:=fun vs H Q E=>∃ (b ca dn de:Addr) (es:List Ben) (al:List Nat) (ws:List Int) (r:Int) (x:V) (t:Tg),vs=[.ref b,x]/\eh Ad H b ca dn de es/\cx Ad H ca al ws r/\bD al ws r/\eG H x=some t/\(∀ p o u,x=.ref p->H p≠some (.frz o u))/\(∀ p xs,x=.ref p->H p=some (.lst xs)->∀ y∈xs,(∃ t,eG H y=some t)/\∀ z,y=.str z->z.length<=100000) ∧
 (gb al ws.length H x=false->∀ H',aw H H'->E (.ref Ad.NoWord) none H') ∧
 ∀ (p:Addr) (zs:List (List Nat)),x=.ref p->H p=some (.lst (zs.map wdV))->2<=zs.length->zs.length<=1400->(∀ z∈zs,Mk.b8 al ws.length z=true)->∀ D H',H D=none->aw H H'->H' D=some (.lst ((dbL al ws r es zs).map sP))->Q (.ref D) H'
theorem rk:aG ["book","words","last"] ["book","words"] (ar nW):=by subst_eqs
theorem xy (F:Fun K "doubtful" "doubtful" nW f fd) (T:Bl mg) (AF:AdF K mg Ad) (C_is_sound:Fnc P w K mg base (CX1 P w) 5 "is_sound" ["book","word","is_check"] (mz Ad)) (C_are_words_of:Fnc P w K mg base (CX1 P w) 2 "are_words_of" ["code","thing"] (lF Ad)) (M_Book_code:Mtd P w K mg base (CX1 P w) Ad.Book "code" 1 ["self"] (eE Ad)):bJ P w K mg base (CX1 P w) 6 f fd ["book","words"] (jE Ad):=by
 refine F.okX (k:=5) rk ?_ ?_
 ·bv_decide
 ·bv_normalize
  obtain⟨b,ca,dn,de,es,al,ws,r,x,t,rfl,B,C,ok,ht,hfz,hit,kE,kQ⟩:=h
  refine⟨_,af (bH (cF (cq (ay C_are_words_of av (hr.mono (by decide)) (ag (cE M_Book_code av (hr.mono (by decide)) (pvC 0)) (ag (pvL 1) (ae)))))) (ai (du cT AF.q_NoWord AF.g_NoWord cL rfl (ag (aM) (ae)))) (aU)) (af (fV (i:=2) rk.nd (ax gv (au (aH (K:=K) rfl) T.len b9 (ag (pvL 1) (ae))) (ao))) (ai (aF (gS ["at","word"] rfl ⟨rfl,by decide +kernel,rfl,by decide +kernel⟩ (.cons (j:=0) rfl (.inl (by kernel_rfl)) (.cons (j:=2) rfl (.inl (by kernel_rfl)) (.nil))) (by decide +kernel) (tE (K:=K) rfl T.enumerate (ag (pvL 1) (ae))) (fun _ _ _ _=>oS (K:=K) (n:=2) rfl rfl (fH (aL (i:=0) (show (["at","word","book","last"]:List Str).Nodup from by decide +kernel)) (fH (aL (i:=1) (show (["at","word","book","last"]:List Str).Nodup from by decide +kernel)) (oT)))) (fun _ _ _ _=>kT (cF (cq (ay C_is_sound eT (hr.mono (by decide)) (ag (pvC 2) (ag (pvL 1) (ag (dh (cD (K:=K) rfl hu) (pvL 0) (pvC 3) (aQ _)) (ae)))))))) (fun _ _ _ _=>pvL 0))))),?_⟩
  have w8:=ok.w8
  obtain⟨dx,hb1⟩:=B.bk
  grind
  refine⟨dx,_,hb1,cZ (by decide) (by decide) (by decide) ca dn de,b,ca,dn,de,es,rfl,B,?_⟩
  refine⟨ca,al,ws,r,x,t,rfl,C,ht,hfz,hit,fun H1 s1=>?_⟩
  and_intros
  cases hA:gb al ws.length H x with
  | false =>
   bv_omega
   exact⟨by decide,kE hA H1 s1⟩
  | true =>
   obtain⟨p,zs,rfl,hp,z2,z14,hz⟩:=DH hA
   have kQ':=kQ p zs rfl hp z2 z14 hz
   bv_omega
   show nn _ _ _
   rw[hN]
   clear hN nn kQ kE
   grind
   refine⟨_,.l (s1 _ _ hp),?_⟩
   rw[List.length_map,hN]
   clear hN nn
   and_intros
   have hp1:=s1 _ _ hp
   refine⟨p,rfl,⟨_,.of hp1⟩,EE (.of hp1) (by rw[List.length_map];exact aj (by omega)) (fun i=>!jz al ws r es zs.length i (zs.getD i [])) sP ?_ ?_ ?_⟩
   ·intro i v hi G2 t2 R hR
    rw[aJ] at hi
    obtain⟨z,hzi,rfl⟩:=dB.mp hi
    have hil:=(bf.mp hzi).1
    have zl:=(Mk.cQ.mp (hz z (bG hzi))).1
    rw[show zs.getD i []=z by rw[List.getD_eq_getElem?_getD,hzi];rfl] at hR
    unfold wdV
    and_intros
    refine⟨b,ca,dn,de,es,al,ws,r,z,_,rfl,B.same (s1.trans t2),C.same (s1.trans t2),ok,by omega,fun G3 t3=>?_⟩
    have e:decide ((i:Int)=(zs.length:Int)-1)=decide (i+1=zs.length):=by
     by_cases h:i+1=zs.length
     ·rw[aq h,aq (by omega)]
     ·rw[decide_eq_false h,decide_eq_false (by omega)]
    rw[e]
    have:=hR G3 t3
    unfold jz at this
    exact⟨_,rfl,this⟩
   ·intro i v hi _ G2 t2 R hR
    and_intros
    exact hR G2 (aw.refl _)
   intro D G2 hD t2 g2
   refine kQ' D G2 (s1.free hD) (s1.trans t2) ?_
   rw[g2,List.length_map];rfl
def pC (Ad:Ads):Sp:=fun vs H Q _=>∃ (b ca dn de:Addr) (es:List Ben) (al:List Nat) (ws:List Int) (r:Int) (z:List Nat) (c:Bool),vs=[.ref b,.str (tx z),.bl c]/\eh Ad H b ca dn de es/\cx Ad H ca al ws r/\bD al ws r/\Mk.b8 al ws.length z=true ∧
 ∀ D cs H',H D=none->aw H H'->H' D=some (.lst (cs.map V.int))->Dx al ws r es c z cs->Q (.ref D) H'
theorem pq:aG ["book","word","is_check","code"] ["book","word","is_check"] (ar mi):=by subst_eqs
theorem vS (F:Fun K "may_stand" "may_stand" mi f fd) (T:Bl mg) (AF:AdF K mg Ad) (C_nearest:Fnc P w K mg base (CX1 P w) 4 "nearest" ["code","word"] (tW Ad)) (C_is_sound:Fnc P w K mg base (CX1 P w) 5 "is_sound" ["book","word","is_check"] (mz Ad)) (M_Code_number:Mtd P w K mg base (CX1 P w) Ad.Code "number" 4 ["self","word"] (gA Ad)) (M_Book_code:Mtd P w K mg base (CX1 P w) Ad.Book "code" 1 ["self"] (eE Ad)):bJ P w K mg base (CX1 P w) 6 f fd ["book","word","is_check"] (pC Ad):=by
 refine F.okX (k:=5) pq ?_ ?_
 ·bv_decide
 ·bv_normalize
  obtain⟨b,ca,dn,de,es,al,ws,r,z,c,rfl,B,C,ok,hz,k⟩:=h
  refine⟨_,af (fV (i:=3) pq.nd (cE M_Book_code av (hr.mono (by decide)) (pvC 0))) (ai (aF (gS ["made"] rfl ⟨rfl,by decide +kernel,rfl,by decide +kernel⟩ (.cons (j:=3) rfl (.inl (by kernel_rfl)) (.cons (j:=0) rfl (.inl (by kernel_rfl)) (.cons (j:=2) rfl (.inl (by kernel_rfl)) (.nil)))) (by decide +kernel) (ck (K:=K) rfl (ay C_nearest av (hr.mono (by decide)) (ag (pvC 3) (ag (pvL 1) (ae))))) (fun _ _ _ _=>aL (i:=0) (show (["made","code","book","is_check"]:List Str).Nodup from by decide +kernel)) (fun _ _ _ _=>kT (cq (ay C_is_sound eT (hr.mono (by decide)) (ag (pvC 2) (ag (pvL 0) (ag (pvC 3) (ae))))))) (fun _ _ _ _=>dr M_Code_number eT (hr.mono (by decide)) (pvC 1) (ag (pvL 0) (ae)))))),?_⟩
  have w8:=ok.w8
  have a26:=ok.a26
  obtain⟨zl,zm⟩:=Mk.cQ.mp hz
  have pm:=Mk.kU zm
  have pl:(Mk.plc al z).length=ws.length:=by rw[Mk.nu];omega
  obtain⟨dx,hb1⟩:=B.bk
  grind
  refine⟨dx,_,hb1,cZ (by decide) (by decide) (by decide) ca dn de,b,ca,dn,de,es,rfl,B,?_⟩
  cbv
  and_intros
  have ew:cV (tx al) ws.length (.str (tx z))=true:=by
   show Mk.b8 (tx al).cps.toList ws.length (tx z).cps.toList=true
   rw[bo,bo];exact hz
  refine⟨ca,al,ws,r,.str (tx z),.str,rfl,C,ok,rfl,(fun y ey=>by rw[←V.str.inj ey,bj];omega),(fun h=>by rw[ew] at h;cases h),fun z' ez hw fs fp D1 H1 hD1 s1 h1=>?_⟩
  have ez':z=z':=hO (V.str.inj ez)
  subst ez'
  have fo:∀ q∈fs,q.length=ws.length/\∀ x∈q,0<=x/\x<(al.length:Int):=fun q hq=>by
   have:=lQ pm q (fp.mem_iff.mp hq)
   exact⟨by rw[this.1,pl],this.2⟩
  have fl:fs.length<=208:=by rw[fp.length_eq];exact zh a26 (by omega) pm
  have fg:=ku (fun ps=>Mk.good al.length ws r ps) fs
  have go:∀ q∈fs.filter (fun ps=>Mk.good al.length ws r ps),q.length=ws.length/\(∀ x∈q,0<=x/\x<(al.length:Int))/\Mk.good al.length ws r q=true:=fun q hq=>by
   obtain⟨h1,h2⟩:=bW.mp hq
   exact⟨(fo q h1).1,(fo q h1).2,h2⟩
  have gnd:(fs.filter fun ps=>Mk.good al.length ws r ps).Nodup:=jm _ (fp.nodup_iff.mpr uI)
  have gfew:(fs.filter fun ps=>Mk.good al.length ws r ps).length<=16:=by rw[(fp.filter _).length_eq];exact GY ok pl pm
  have gmem:∀ q,q∈fs.filter (fun ps=>Mk.good al.length ws r ps)↔q∈jy al.length (Mk.plc al z)/\Mk.good al.length ws r q=true:=fun q=>by rw[bW,fp.mem_iff]
  generalize fs.filter (fun ps=>Mk.good al.length ws r ps)=gs at h1 go gnd gfew gmem
  have h1':H1 D1=some (.lst ((gs.map (Mk.bA al)).map fun l=>V.str (tx l))):=by rw[h1,List.map_map];rfl
  have nmS:∀ q∈gs,il al (Mk.bA al q)=Mk.numOf al.length q.dropLast:=fun q hq=>by
   unfold il
   have e:(Mk.bA al q).dropLast=Mk.bA al q.dropLast:=by unfold Mk.bA;rw[List.map_dropLast]
   rw[e,Mk.iW ok.nd fun p hp=>(go q hq).2.1 p (gF _ hp)]
  have goodS:∀ q∈gs,Mk.bU al ws r (Mk.bA al q)=true:=fun q hq=>by rw[Mk.kK ok.nd (go q hq).1 (go q hq).2.1];exact (go q hq).2.2
  refine .inl ⟨⟨_,.of h1⟩,ED (fun l:List Nat=>V.str (tx l)) (fun x y e=>hO (V.str.inj e)) (eJ (.of h1')) (by rw[List.length_map];exact aj (by omega)) (fun l=>c||decide (il al l∈es.map (·.num))) (fun l=>V.int (il al l)) ?_ ?_ ?_⟩
  ·intro l hl H5 t5 R hR
   obtain⟨y,hy,rfl⟩:=aE.mp hl
   and_intros
   refine⟨b,ca,dn,de,es,al,ws,r,_,c,rfl,B.same (s1.trans t5),C.same (s1.trans t5),ok,by rw[Mk.gk,(go y hy).1];omega,fun G3 t3=>?_⟩
   rw[goodS y hy,dA]
   exact⟨_,rfl,hR G3 t3⟩
  ·intro l hl _ H5 t5 R hR
   obtain⟨y,hy,rfl⟩:=aE.mp hl
   have C5:=C.same (s1.trans t5)
   obtain⟨dc,qc,hc1,hc2⟩:=id C5
   have eg:hX (tx al) ws r (.str (tx (Mk.bA al y)))=true:=by
    show Mk.bU (tx al).cps.toList ws r (tx (Mk.bA al y)).cps.toList=true
    rw[bo,bo];exact goodS y hy
   and_intros
   refine⟨dc,_,hc1,bQ (by decide) (by decide) (by decide) al qc r,ca,al,ws,r,.str (tx (Mk.bA al y)),.str,rfl,C5,ok,rfl,(fun u eu=>by rw[←V.str.inj eu,bj,Mk.gk,(go y hy).1];omega),(fun h=>by rw[eg] at h;cases h),fun u eu hu G2 t2=>?_⟩
   have eu':u=tx (Mk.bA al y):=(V.str.inj eu).symm
   subst eu'
   rw[bo]
   exact hR G2 t2
  intro D2 H2 hD2 s2 h2
  refine k D2 ((((gs.map (Mk.bA al)).filter fun l=>c||decide (il al l∈es.map (·.num)))).map (il al)) H2 (s1.free hD2) (s1.trans s2) (by rw[h2,List.map_map];rfl) ?_
  rw[mI,List.map_map]
  have sub:=List.filter_sublist (p:=(fun l=>c||decide (il al l∈es.map (·.num))) ∘ Mk.bA al) (l:=gs)
  refine⟨?_,by rw[List.length_map];exact aK sub.length_le gfew,fun n=>?_⟩
  ·refine gM.mpr (kn (fun {x y} hx hy hxy e=>hxy ?_) (sub.nodup gnd))
   have hx':=sub.subset hx
   have hy':=sub.subset hy
   have e':il al (Mk.bA al x)=il al (Mk.bA al y):=e
   rw[nmS x hx',nmS y hy'] at e'
   exact Eu ok (go x hx').1 (go y hy').1 (go x hx').2.1 (go y hy').2.1 (go x hx').2.2 (go y hy').2.2 e'
  ·rw[aE]
   constructor
   ·rintro⟨q,hq,rfl⟩
    obtain⟨h3,h4⟩:=bW.mp hq
    have h4':(c||decide (il al (Mk.bA al q)∈es.map (·.num)))=true:=h4
    rw[Bool.or_eq_true,bC] at h4'
    obtain⟨h5,h6⟩:=(gmem q).mp h3
    exact⟨q,h5,h6,h4',nmS q h3⟩
   ·rintro⟨q,h3,h4,h5,rfl⟩
    have hq:=(gmem q).mpr ⟨h3,h4⟩
    refine⟨q,bW.mpr ⟨hq,?_⟩,nmS q hq⟩
    show (c||decide (il al (Mk.bA al q)∈es.map (·.num)))=true
    rw[Bool.or_eq_true,bC,nmS q hq];exact h5
def rA (Ad:Ads):Sp:=fun vs H Q _=>∃ (ca D:Addr) (al:List Nat) (ws:List Int) (r:Int) (es:List Ben),vs=[.ref ca,.ref D]/\cx Ad H ca al ws r/\bD al ws r/\H Ad.tb=some (nA uk)/\H D=some (.dK (gR es))/\Du al ws H es ∧
 ∀ b dn de ob H',(∀ c o,c≠D->H c=some o->H' c=some o)->H' D=some (.frz ob (.dK (gR es)))->eh Ad H' b ca dn de es->Q (.ref b) H'
theorem mm:aG ["_law_code","_law_entries_here","_law_book_here","_law_number"] ["_law_code","_law_entries_here"] (ar og):=by subst_eqs
theorem xE (F:Fun K "_law_book" "_law_book" og f fd) (T:Bl mg) (AF:AdF K mg Ad) (M_Book_put:Mtd P w K mg base (CX1 P w) Ad.Book "put" 5 ["self","entry","number"] (jC Ad)) (K_Book:Mak P w K mg base (CX1 P w) Ad.Book "Book" 1 ["self","code"] (lq Ad)):bJ P w K mg base (CX1 P w) 6 f fd ["_law_code","_law_entries_here"] (rA Ad):=by
 refine F.okX (k:=5) mm ?_ ?_
 ·bv_decide
 ·bv_normalize
  obtain⟨ca,D,al,ws,r,es,rfl,C,ok,Tb,hD,eo,k⟩:=h
  refine⟨_,af (aA (i:=2) mm.nd (xN K_Book av (hr.mono (by decide)) (ag (pvL 0) (ae)))) (af (eQ cf rfl (xO (pvL 1)) (aL (i:=3) mm.nd) (ai (dM (dr M_Book_put av (hr.mono (by decide)) (pvL 2) (ag (tD hu1 (pvL 1) (pvL 3)) (ag (pvL 3) (ae))))))) (ai (aF (pvL 2)))),?_⟩
  grind
  intro b bx G0 hb hbx hbb t0 g0 g0x
  refine⟨b,bx,ca,rfl,g0,fun dn de G1 hdn hde ne1 ne2 ne3 k1 g1 gn ge=>⟨rfl,?_⟩⟩
  have n0:aw H G1:=fun x o e=>k1 x o (fun z=>by rw[z,hb] at e;cases e) (t0 _ _ e)
  have hdn0:=t0.free hdn
  have hde0:=t0.free hde
  cbv
  grind
  have el14:=eo.few
  refine⟨D,_,rfl,.inl ⟨n0 _ _ hD,fun ob G2 kp2 hD2=>?_⟩⟩
  have nDd:dn≠D:=fun z=>by rw[z,hD] at hdn0;cases hdn0
  have nDe:de≠D:=fun z=>by rw[z,hD] at hde0;cases hde0
  have nDb:b≠D:=fun z=>by rw[z,hD] at hb;cases hb
  have sim:∀ c o,c≠D->H c=some o->G2 c=some o:=fun c o hc e=>kp2 c o hc (n0 _ _ e)
  refine El (fun i σ G=>(∃ o3,σ=[some (V.ref ca),some (V.ref D),some (V.ref b),o3])/\(∀ c o,c≠dn->c≠de->G2 c=some o->G c=some o)/\eh Ad G b ca dn de (es.take i)) ?_ ?_ ?_ ?_
  ·exact⟨⟨_,rfl⟩,(fun c o _ _ e=>e),⟨⟨_,kp2 _ _ nDb g1⟩,kp2 _ _ nDd gn,kp2 _ _ nDe ge,(fun e he=>by cases he),.nil,.nil⟩⟩
  ·rintro i σ G ⟨_,kp,_⟩
   exact kp _ _ nDd.symm nDe.symm hD2
  ·rintro i kk x σ G hi ⟨⟨o3,rfl⟩,kp,B⟩ N hNx
   clear hN
   have hil:i<es.length:=by have:=(bf.mp hi).1;rwa [kg] at this
   have hei:es[i]?=some es[i]:=List.getElem?_eq_getElem hil
   rw[rW,aJ,hei] at hi
   generalize es[i]=e at hi hei
   cases hi
   have hem:=bG hei
   obtain⟨eok,e0,e1⟩:=eo.ok e hem
   have hDG:=kp _ _ nDd.symm nDe.symm hD2
   obtain⟨dx,h1⟩:=B.bk
   have CG:cx Ad G ca al ws r:=by
    obtain⟨dc,qc,hc1,hc2⟩:=C
    have up:∀ c o,H c=some o->c≠D->G c=some o:=fun c o e hc=>kp c o (fun z=>by rw[z,hdn0] at e;cases e) (fun z=>by rw[z,hde0] at e;cases e) (sim c o hc e)
    exact⟨dc,qc,up _ _ hc1 (iN hc1 hD (by intro z;cases z)),up _ _ hc2 (iN hc2 hD (by intro z;cases z))⟩
   have up:∀ c o,H c=some o->c≠D->G c=some o:=fun c o e hc=>kp c o (fun z=>by rw[z,hdn0] at e;cases e) (fun z=>by rw[z,hde0] at e;cases e) (sim c o hc e)
   have tG:G e.adr=some (.tup (e.key.map kV)):=up _ _ (eo.en e hem) (iN (eo.en e hem) hD (by intro z;cases z))
   have TG:G Ad.tb=some (nA uk):=up _ _ Tb (iN Tb hD (by intro z;cases z))
   have tk:es.take (i+1)=es.take i++[e]:=by rw[iC,hei];rfl
   have nin:∀ {α:Type}{f:Ben->α},(es.map f).Nodup->f e∉(es.take i).map f:=fun {α f} hn hm=>by
    obtain⟨u,hu,eu⟩:=aE.mp hm
    obtain⟨j,hj⟩:=pQ hu
    rw[mO] at hj
    split at hj
    ·have h1:(es.map f)[j]?=(es.map f)[i]?:=by rw[aJ,aJ,hj,hei];exact bu some eu
     have:=(List.getElem?_inj (by rw[List.length_map];omega) hn).mp h1
     omega
    ·cases hj
   have tl:(es.take i).length<=14:=by rw[bw];omega
   and_intros
   refine⟨dx,_,h1,cZ (by decide) (by decide) (by decide) ca dn de,?_⟩
   refine⟨D,.ref e.adr,rfl,?_,b,ca,dn,de,e.adr,es.take i,al,ws,r,e.num,e.key,.int e.num,rfl,B,CG,ok,TG,tG,eok,nin eo.nk,by omega,e0,e1,nin eo.nn,.inl rfl,fun G7 hs7 B7=>hNx _ _ ⟨⟨_,rfl⟩,(fun c o h1 h2 h=>hs7 c o h1 h2 (kp c o h1 h2 h)),by rw[tk];exact B7⟩⟩
   have:=lH.kf (k:=.inl e.num) hDG
   rw[oN eo.nn hem] at this
   exact this
  ·rintro σ G ⟨⟨o3,rfl⟩,kp,B⟩
   show nn _ _ _
   cbv
   and_intros
   rw[kg,fh (ak _)] at B
   exact k b dn de ob G (fun c o hc e=>kp c o (fun z=>by rw[z,hdn0] at e;cases e) (fun z=>by rw[z,hde0] at e;cases e) (sim c o hc e)) (kp _ _ nDd.symm nDe.symm hD2) B
theorem zI (h:i<xs.length) (k:Nat):(n9 xs i c)[k]?=if k=i then some c else xs[k]?:=by
 unfold n9
 rcases Nat.lt_trichotomy k i with hk | hk | hk
 ·rw[df,i4 (by rw[bw];omega),mO,if_pos hk,if_neg (by omega)]
 ·subst hk
  rw[df,gH (by rw[bw];omega),bw,gN (by omega),Nat.sub_self,if_pos rfl];rfl
 ·rw[gH (by rw[List.length_append,bw];show min i _+1<=k;omega),List.length_append,bw,gN (by omega),i5,if_neg (by omega)]
  congr 1
  show i+1+(k-(i+1))=k
  omega
theorem vY (h:i<xs.length):(n9 xs i c).length=xs.length:=by
 unfold n9
 rw[List.length_append,List.length_append,bw,bK,c8]
 omega
def jd (L:List (List V)) (pcs:List (Nat×List Int)):List (List V):=pcs.foldl (fun L p=>L.flatMap fun xs=>p.2.map fun c=>n9 xs p.1 (.int c)) L
theorem uX (L:List (List V)) (pcs:List (Nat×List Int)) (p:Nat×List Int):jd L (pcs++[p])=(jd L pcs).flatMap fun xs=>p.2.map fun c=>n9 xs p.1 (.int c):=by
 unfold jd;rw[List.foldl_append];rfl
structure Pk (y:List V) (pcs:List (Nat×List Int)) (xs:List V):Prop where
 len:xs.length=y.length
 on:∀ p∈pcs,∃ c∈p.2,xs[p.1]?=some (.int c)
 off:∀ i,i∉pcs.map (·.1)->xs[i]?=y[i]?
theorem zH:∀ {pcs:List (Nat×List Int)}{L:List (List V)}{xs:List V},(pcs.map (·.1)).Nodup->(∀ y∈L,∀ p∈pcs,p.1<y.length)->(xs∈jd L pcs↔∃ y∈L,Pk y pcs xs)
 | [],L,xs,_,_=>by
  constructor
  ·exact fun h=>⟨xs,h,rfl,(fun p hp=>by cases hp),fun _ _=>rfl⟩
  ·rintro⟨y,hy,P⟩
   have:xs=y:=gG fun i=>P.off i (by simp)
   rw[this];exact hy
 | (i,cs)::rest,L,xs,hn,hl=>by
  rw[aR,dS] at hn
  have hL:∀ y∈L,i<y.length:=fun y hy=>hl y hy _ List.mem_cons_self
  show xs∈jd (L.flatMap fun xs=>cs.map fun c=>n9 xs i (.int c)) rest↔_
  rw[zH hn.2 fun y hy p hp=>?_]
  ·constructor
   ·rintro⟨y',hy',P⟩
    obtain⟨y,hy,h2⟩:=List.mem_flatMap.mp hy'
    obtain⟨c,hc,rfl⟩:=aE.mp h2
    have hi:=hL y hy
    refine⟨y,hy,by rw[P.len,vY hi],fun p hp=>?_,fun k hk=>?_⟩
    ·rcases aI.mp hp with rfl | hp
     ·exact⟨c,hc,by rw[P.off i hn.1,zI hi,if_pos rfl]⟩
     ·exact P.on p hp
    ·rw[aR,aI,not_or] at hk
     rw[P.off k hk.2,zI hi,if_neg hk.1]
   ·rintro⟨y,hy,P⟩
    have hi:=hL y hy
    obtain⟨c,hc,hx⟩:=P.on _ List.mem_cons_self
    refine⟨n9 y i (.int c),List.mem_flatMap.mpr ⟨y,hy,aE.mpr ⟨c,hc,rfl⟩⟩,by rw[P.len,vY hi],fun p hp=>P.on p (List.mem_cons_of_mem _ hp),fun k hk=>?_⟩
    rw[zI hi]
    by_cases e:k=i
    ·subst e;rw[if_pos rfl];exact hx
    ·rw[if_neg e]
     exact P.off k (by rw[aR,aI,not_or];exact⟨e,hk⟩)
  ·obtain⟨y0,hy0,h2⟩:=List.mem_flatMap.mp hy
   obtain⟨c,hc,rfl⟩:=aE.mp h2
   rw[vY (hL y0 hy0)]
   exact hl y0 hy0 p (List.mem_cons_of_mem _ hp)
theorem AH {α β:Type}{f:α->List β}{m:Nat}:∀ {l:List α},(∀ x∈l,(f x).length<=m)->(l.flatMap f).length<=l.length*m
 | [],_=>aT _
 | x::r,h=>by
  rw[mJ,List.length_append,aO,Nat.add_mul,Nat.one_mul]
  have:=h x List.mem_cons_self
  have:=AH (f:=f) (m:=m) (l:=r) fun y hy=>h y (List.mem_cons_of_mem _ hy)
  omega
theorem lV {L:List (List V)}:∀ {pcs:List (Nat×List Int)},(∀ p∈pcs,p.2.length<=16)->∀ {M:Nat},L.length<=M->(jd L pcs).length<=M*16^pcs.length:=by
 intro pcs
 induction pcs generalizing L with
 | nil=>intro _ M hL;show L.length<=_;simpa using hL
 | cons p r ih =>
  intro h M hL
  show (jd (L.flatMap fun xs=>p.2.map fun c=>n9 xs p.1 (.int c)) r).length<=_
  have h1:(L.flatMap fun xs=>p.2.map fun c=>n9 xs p.1 (.int c)).length<=M*16:=aK (AH (m:=16) fun x _=>by rw[List.length_map];exact h p List.mem_cons_self) (Nat.mul_le_mul_right _ hL)
  have:=ih (fun q hq=>h q (List.mem_cons_of_mem _ hq)) h1
  rw[aO,Nat.pow_succ,Nat.mul_comm (16^_) 16,←Nat.mul_assoc]
  exact this
def j7 (xs:List V):List Int:=xs.map fun v=>match v with
 | .int n=>n
 | _=>0
theorem qt (ns:List Int):j7 (ns.map V.int)=ns:=by
 unfold j7
 rw[List.map_map]
 exact List.map_id _
theorem Iv {α:Type} [DecidableEq α]:∀ {l m:List α},l.Nodup->(∀ x∈l,x∈m)->l.length<=m.length
 | [],_,_,_=>aT _
 | x::l,m,hn,h=>by
  rw[dS] at hn
  have hx:=h x List.mem_cons_self
  have:=Iv (l:=l) (m:=m.erase x) hn.2 fun y hy=>(List.mem_erase_of_ne (fun e=>hn.1 (by rw[←e];exact hy))).mpr (h y (List.mem_cons_of_mem _ hy))
  rw[List.length_erase_of_mem hx] at this
  have:=List.length_pos_of_mem hx
  rw[aO];omega
def RdN (al:List Nat) (ws:List Int) (r:Int) (es:List Ben) (zs:List (List Nat)) (ns:List Int):Prop:=ns.length=zs.length/\∀ (i:Nat) z,zs[i]?=some z →
 (jz al ws r es zs.length i z=true->ns[i]?=some (il al z))/\(jz al ws r es zs.length i z=false->∃ ps∈jy al.length (Mk.plc al z),Mk.good al.length ws r ps=true/\(i+1=zs.length∨Mk.numOf al.length ps.dropLast∈es.map (·.num))/\ns[i]?=some (Mk.numOf al.length ps.dropLast))
def RdS (al:List Nat) (ws:List Int) (r:Int) (es:List Ben) (zs:List (List Nat)) (t:List Nat):Prop:=∃ ns,RdN al ws r es zs ns/\lC es (bL al ws) ns=some t
def gX (al:List Nat) (ws:List Int) (r:Int) (z:List Nat):V:=if Mk.bU al ws r z=true then .int (il al z) else .non
theorem sM {es:List Ben}:i∈dbL al ws r es zs↔∃ z,zs[i]?=some z/\jz al ws r es zs.length i z=false:=by
 unfold dbL
 rw[bW,bN]
 constructor
 ·rintro⟨h1,h2⟩
  refine⟨zs[i],List.getElem?_eq_getElem h1,?_⟩
  rw[List.getD_eq_getElem?_getD,List.getElem?_eq_getElem h1] at h2
  simpa using h2
 ·rintro⟨z,h1,h2⟩
  refine⟨(bf.mp h1).1,?_⟩
  rw[List.getD_eq_getElem?_getD,h1]
  show (!jz al ws r es zs.length i z)=true
  rw[h2];rfl
theorem Fp {es:List Ben} (hp:pcs.map (·.1)=dbL al ws r es zs) (hc:∀ p∈pcs,∃ z,zs[p.1]?=some z/\Dx al ws r es (decide (p.1+1=zs.length)) z p.2) {xs:List V} :
  xs∈jd [zs.map (gX al ws r)] pcs↔∃ ns,xs=ns.map V.int/\RdN al ws r es zs ns:=by
 have hnd:(pcs.map (·.1)).Nodup:=by rw[hp];exact jm _ List.nodup_range
 rw[zH hnd fun y hy p hp'=>by rw[aV.mp hy,List.length_map];obtain⟨z,hz,_⟩:=hc p hp';exact (bf.mp hz).1]
 have at0:∀ {i:Nat}{z:List Nat},zs[i]?=some z->(zs.map (gX al ws r))[i]?=some (gX al ws r z):=fun h=>by rw[aJ,h];rfl
 have snd0:∀ {i:Nat}{z:List Nat},jz al ws r es zs.length i z=true->gX al ws r z=.int (il al z):=fun h=>by
  unfold jz at h
  rw[bI] at h
  unfold gX
  rw[if_pos h.1]
 have inP:∀ {i:Nat}{z:List Nat},zs[i]?=some z->jz al ws r es zs.length i z=false->∃ p∈pcs,p.1=i:=fun h1 h2=>by
  have:=sM.mpr ⟨_,h1,h2⟩
  rw[←hp] at this
  obtain⟨p,h,e⟩:=aE.mp this
  exact⟨p,h,e⟩
 have outP:∀ {i:Nat}{z:List Nat},zs[i]?=some z->jz al ws r es zs.length i z=true->i∉pcs.map (·.1):=fun h1 h2 h=>by
  rw[hp] at h
  obtain⟨z',h3,h4⟩:=sM.mp h
  rw[h1] at h3;cases h3
  rw[h2] at h4;cases h4
 constructor
 ·rintro⟨y,hy,P⟩
  rw[aV.mp hy] at P
  have pl:=P.len
  rw[List.length_map] at pl
  have hent:∀ (i:Nat) z,zs[i]?=some z->(jz al ws r es zs.length i z=true->xs[i]?=some (.int (il al z)))/\(jz al ws r es zs.length i z=false->∃ ps∈jy al.length (Mk.plc al z),Mk.good al.length ws r ps=true/\(i+1=zs.length∨Mk.numOf al.length ps.dropLast∈es.map (·.num))/\xs[i]?=some (.int (Mk.numOf al.length ps.dropLast))):=fun i z hz=>by
   refine⟨fun hs=>by rw[P.off i (outP hz hs),at0 hz,snd0 hs],fun hs=>?_⟩
   obtain⟨p,hp1,rfl⟩:=inP hz hs
   obtain⟨c,hc1,hc2⟩:=P.on p hp1
   obtain⟨z',hz',M⟩:=hc p hp1
   rw[hz] at hz';cases hz'
   obtain⟨ps,h1,h2,h3,rfl⟩:=(M.mem c).mp hc1
   exact⟨ps,h1,h2,h3.imp iD id,hc2⟩
  have hall:∀ v∈xs,∃ n,v=V.int n/\True:=fun v hv=>by
   obtain⟨i,hi⟩:=pQ hv
   have hil:=(bf.mp hi).1
   have hz:zs[i]?=some (zs[i]'(by omega)):=List.getElem?_eq_getElem _
   obtain⟨h1,h2⟩:=hent i _ hz
   cases hs:jz al ws r es zs.length i (zs[i]'(by omega)) with
   | true=>have:=h1 hs;rw[hi] at this;cases this;exact⟨_,rfl,trivial⟩
   | false=>obtain⟨ps,_,_,_,this⟩:=h2 hs;rw[hi] at this;cases this;exact⟨_,rfl,trivial⟩
  obtain⟨ns,rfl,_⟩:=AL hall
  rw[List.length_map] at pl
  refine⟨ns,rfl,pl,fun i z hz=>?_⟩
  obtain⟨h1,h2⟩:=hent i z hz
  have bk:∀ {n:Int},(ns.map V.int)[i]?=some (.int n)->ns[i]?=some n:=fun h=>by
   rw[aJ] at h
   obtain⟨m,hm,e⟩:=dB.mp h
   cases e;exact hm
  exact⟨fun hs=>bk (h1 hs),fun hs=>by obtain⟨ps,a1,a2,a3,a4⟩:=h2 hs;exact⟨ps,a1,a2,a3,bk a4⟩⟩
 ·rintro⟨ns,rfl,nl,hR⟩
  refine⟨_,aV.mpr rfl,by rw[List.length_map,List.length_map,nl],fun p hp1=>?_,fun i hi=>?_⟩
  ·obtain⟨z,hz,M⟩:=hc p hp1
   have hs:jz al ws r es zs.length p.1 z=false:=by
    have:p.1∈dbL al ws r es zs:=by rw[←hp];exact iB hp1
    obtain⟨z',h3,h4⟩:=sM.mp this
    rw[hz] at h3;cases h3
    exact h4
   obtain⟨ps,a1,a2,a3,a4⟩:=(hR p.1 z hz).2 hs
   exact⟨_,(M.mem _).mpr ⟨ps,a1,a2,a3.imp aq id,rfl⟩,by rw[aJ,a4];rfl⟩
  ·by_cases hil:i<zs.length
   ·have hz:zs[i]?=some zs[i]:=List.getElem?_eq_getElem hil
    rw[at0 hz]
    cases hs:jz al ws r es zs.length i zs[i] with
    | true=>rw[aJ,(hR i _ hz).1 hs,snd0 hs];rfl
    | false =>
     obtain⟨p,h1,rfl⟩:=inP hz hs
     exact absurd (iB h1) hi
   ·rw[gJ (by rw[List.length_map];omega),gJ (by rw[List.length_map];omega)]
def BO (M:Int) (ns:List Int):Prop:=ns.getLastD 0=(ns.dropLast.sum+(ns.dropLast.length:Int))%M
theorem se {es:List Ben}{t:List Nat} (h:lC es M ns=some t):BO M ns:=by
 unfold lC at h
 split at h
 ·assumption
 ·cases h
theorem Av {A B:List Int}{d e M:Int} (hd:0<=d/\d<M) (he:0<=e/\e<M) (h1:BO M (A++[d]++B)) (h2:BO M (A++[e]++B)):d=e:=by
 unfold BO at h1 h2
 by_cases hB:B=[]
 ·subst hB
  simp only[fb,pN] at h1 h2
  rw[jo,List.getLast?_concat] at h1 h2
  have e1:d=(A.sum+(A.length:Int))%M:=h1
  have e2:e=(A.sum+(A.length:Int))%M:=h2
  rw[e1,e2]
 ·obtain⟨C,y,rfl⟩:∃ C y,B=C++[y]:=⟨B.dropLast,B.getLast hB,(pP hB).symm⟩
  rw[←df] at h1 h2
  simp only[pN,List.sum_append,List.length_append,jq,List.sum_nil,c8] at h1 h2
  rw[jo,List.getLast?_concat] at h1 h2
  have e1:y=(A.sum+(d+0)+C.sum+((A.length+1+C.length:Nat):Int))%M:=h1
  have e2:y=(A.sum+(e+0)+C.sum+((A.length+1+C.length:Nat):Int))%M:=h2
  have e3:=e1.symm.trans e2
  have e4:(A.sum+(d+0)+C.sum+((A.length+1+C.length:Nat):Int)-(A.sum+(e+0)+C.sum+((A.length+1+C.length:Nat):Int)))%M=0:=uh.mp e3
  have e5:A.sum+(d+0)+C.sum+((A.length+1+C.length:Nat):Int)-(A.sum+(e+0)+C.sum+((A.length+1+C.length:Nat):Int))=d-e:=by omega
  rw[e5] at e4
  obtain⟨q,hq⟩:=jk e4
  have:q=0:=by
   rcases Int.lt_trichotomy q 0 with h | h | h
   ·have:M*q<=M*(-1):=pL (by omega) (by omega)
    omega
   ·exact h
   ·have:M*1<=M*q:=pL (by omega) (by omega)
    omega
  subst this
  omega
theorem AG {α β γ:Type}{f:α->List β}{g:β->Option γ}{m:Nat}:∀ {l:List α},(∀ x∈l,((f x).filterMap g).length<=m)->((l.flatMap f).filterMap g).length<=l.length*m
 | [],_=>aT _
 | x::r,h=>by
  rw[mJ,List.filterMap_append,List.length_append,aO,Nat.add_mul,Nat.one_mul]
  have:=h x List.mem_cons_self
  have:=AG (f:=f) (g:=g) (m:=m) (l:=r) fun y hy=>h y (List.mem_cons_of_mem _ hy)
  omega
theorem Ek {β γ:Type}{g:β->Option γ}:∀ {l:List β},l.Nodup->(∀ x∈l,∀ y∈l,(g x).isSome=true->(g y).isSome=true->x=y)->(l.filterMap g).length<=1
 | [],_,_=>aT _
 | x::r,hn,h=>by
  rw[dS] at hn
  have ih:=Ek (g:=g) hn.2 fun y hy z hz=>h y (List.mem_cons_of_mem _ hy) z (List.mem_cons_of_mem _ hz)
  cases hx:g x with
  | none=>rw[List.filterMap_cons_none hx];exact ih
  | some u =>
   rw[List.filterMap_cons_some hx]
   have:r.filterMap g=[]:=by
    rw[List.filterMap_eq_nil_iff]
    intro y hy
    cases hy':g y with
    | none=>rfl
    | some w =>
     have:=h x List.mem_cons_self y (List.mem_cons_of_mem _ hy) (by rw[hx];rfl) (by rw[hy'];rfl)
     rw[this] at hn
     exact absurd hy hn.1
   rw[this];exact ak _
theorem Cw :j7 (n9 xs j (.int d))=(j7 xs).take j++[d]++(j7 xs).drop (j+1):=by
 unfold j7 n9
 rw[List.map_append,List.map_append,iA,fM];rfl
theorem JL {es:List Ben}{c:Bool}{z:List Nat}{cs:List Int} (ok:bD al ws r) (hz:Mk.b8 al ws.length z=true) (M:Dx al ws r es c z cs):∀ n∈cs,0<=n/\n<bL al ws:=fun n hn=>by
 obtain⟨zl,zm⟩:=Mk.cQ.mp hz
 have a3:=ok.a3
 obtain⟨ps,h1,_,_,rfl⟩:=(M.mem n).mp hn
 obtain⟨pl,pm⟩:=lQ (Mk.kU zm) ps h1
 have hb:=Mk.iP (m:=(al.length:Int)) (by omega) ps.dropLast fun p hp=>pm p (gF _ hp)
 have e:ps.dropLast.length=ws.length-1:=by rw[i7,pl,Mk.nu];omega
 rw[e] at hb
 exact hb
theorem Fq {es:List Ben} (ok:bD al ws r) (hz:∀ z∈zs,Mk.b8 al ws.length z=true) (h2:pcs.length<=2) (hc:∀ p∈pcs,∃ z,zs[p.1]?=some z/\Dx al ws r es (decide (p.1+1=zs.length)) z p.2) (x0:List V) :
  ((jd [x0] pcs).filterMap fun xs=>lC es (bL al ws) (j7 xs)).length<=16:=by
 have few:∀ p∈pcs,p.2.length<=16:=fun p hp=>by obtain⟨_,_,M⟩:=hc p hp;exact M.few
 match pcs,h2,hc,few with
 | [],_,_,few =>
  refine aK (List.length_filterMap_le _ _) ?_
  exact aK (lV few (M:=1) (ak _)) (by show 1*16^0<=16;decide)
 | [p],_,_,few =>
  refine aK (List.length_filterMap_le _ _) ?_
  exact aK (lV few (M:=1) (ak _)) (by show 1*16^1<=16;decide)
 | [p,q],_,hc,few =>
  rw[show [p,q]=[p]++[q] from rfl,uX]
  have l1:=lV (L:=[x0]) (pcs:=[p]) (fun y hy=>few y (by rw[aV.mp hy];exact List.mem_cons_self)) (M:=1) (ak _)
  have l2:(jd [x0] [p]).length<=16:=aK l1 (by show 1*16^1<=16;decide)
  refine aK (AG (m:=1) fun xs _=>?_) (by omega)
  obtain⟨z,hzq,M⟩:=hc q (by simp)
  have bd:=JL ok (hz z (bG hzq)) M
  rw[List.filterMap_map]
  refine Ek M.nd fun d hd e he h3 h4=>?_
  obtain⟨t1,h3'⟩:=Option.isSome_iff_exists.mp h3
  obtain⟨t2,h4'⟩:=Option.isSome_iff_exists.mp h4
  have c1:=se h3'
  have c2:=se h4'
  rw[Cw] at c1 c2
  exact Av (bd d hd) (bd e he) c1 c2
 | _::_::_::_,h2,_,_=>exact absurd h2 (by simp)
def zD:Option (List Nat)->V
 | some t=>.str (tx t)
 | none=>.non
theorem Fc (a b:Option (List Nat)) (h:zD a=zD b):a=b:=by
 cases a with
 | none=>cases b with
  | none=>rfl
  | some _=>cases h
 | some x=>cases b with
  | none=>cases h
  | some y=>rw[hO (V.str.inj h)]
theorem Bv (a b:List Nat) (h:wdV a=wdV b):a=b:=hO (V.str.inj h)
theorem tj:∀ l:List (Option (List Nat)),(l.filter fun o=>o.isSome).map zD=((l.filterMap id).map tx).map V.str
 | []=>rfl
 | none::l=>by
  rw[mG (by decide),tj l];rfl
 | some x::l=>by
  rw[mH rfl,aR,tj l];rfl
def jG (Ad:Ads):Sp:=fun vs H Q E=>∃ (b ca dn de:Addr) (es:List Ben) (al:List Nat) (ws:List Int) (r:Int) (x:V) (t:Tg),vs=[.ref b,x]/\eh Ad H b ca dn de es/\cx Ad H ca al ws r/\bD al ws r/\(∀ e∈es,jI e.key/\0<=e.num/\e.num<bL al ws)/\eG H x=some t/\(∀ p o u,x=.ref p->H p≠some (.frz o u))/\(∀ p xs,x=.ref p->H p=some (.lst xs)->∀ y∈xs,(∃ t,eG H y=some t)/\∀ z,y=.str z->z.length<=100000) ∧
 (gb al ws.length H x=false->∀ H',aw H H'->E (.ref Ad.NoWord) none H') ∧
 ∀ (p:Addr) (zs:List (List Nat)),x=.ref p->H p=some (.lst (zs.map wdV))->2<=zs.length->zs.length<=1400->(∀ z∈zs,Mk.b8 al ws.length z=true)->zs.length<=1000 ∧
  (2<(dbL al ws r es zs).length->∀ dx pp H',aw H H'->H' dx=some (.xd [("places",.ref pp)])->H' pp=some (.lst ((dbL al ws r es zs).map sP))->E (.ref Ad.TooGarbled) (some dx) H') ∧
  ((dbL al ws r es zs).length<=2->∀ D (ts:List (List Nat)) H',H D=none->aw H H'->H' D=some (.lst (ts.map wdV))->ts.Nodup/\ts.length<=16->PyProof.Rows.sortedS (ts.map tx)=true->(∀ t,t∈ts↔RdS al ws r es zs t)->Q (.ref D) H')
theorem Bw:∀ {a b:List (List Nat)},a.map wdV=b.map wdV->a=b
 | [],[],_=>rfl
 | [],_::_,h=>by cases h
 | _::_,[],h=>by cases h
 | x::a,y::b,h=>by
  rw[aR,aR] at h
  injection h with h1 h2
  rw[Bv x y h1,Bw h2]
theorem wF {n:Int}{q:Addr} (hq:H q=some (.lst (zs.map wdV))) (z2:2<=zs.length) (z14:zs.length<=1400) (hz:∀ z∈zs,Mk.b8 al n z=true):gb al n H (.ref q)=true:=by
 show (match H q with | some (.lst xs)=>decide (2<=xs.length)&&decide (xs.length<=1400)&&xs.all (cV (tx al) n) | _=>false)=true
 rw[hq]
 show (decide (2<=(zs.map wdV).length)&&decide ((zs.map wdV).length<=1400)&&(zs.map wdV).all (cV (tx al) n))=true
 rw[List.length_map,aq z2,aq z14,dA,dA,cw]
 intro v hv
 obtain⟨z,hzm,rfl⟩:=aE.mp hv
 show Mk.b8 (tx al).cps.toList n (tx z).cps.toList=true
 rw[bo,bo];exact hz z hzm
theorem HI {Ad:Ads}{Q:VK}{E:XK}{b ca dn de q:Addr}{es:List Ben}{zs:List (List Nat)} (B:eh Ad H b ca dn de es) (C:cx Ad H ca al ws r) (ok:bD al ws r) (hes:∀ e∈es,jI e.key/\0<=e.num/\e.num<bL al ws)
  (hq:H q=some (.lst (zs.map wdV))) (z2:2<=zs.length) (z1000:zs.length<=1000) (hz:∀ z∈zs,Mk.b8 al ws.length z=true)
  (k1:2<(dbL al ws r es zs).length->∀ dx pp H',aw H H'->H' dx=some (.xd [("places",.ref pp)])->H' pp=some (.lst ((dbL al ws r es zs).map sP))->E (.ref Ad.TooGarbled) (some dx) H')
  (k2:(dbL al ws r es zs).length<=2->∀ D (ts:List (List Nat)) H',H D=none->aw H H'->H' D=some (.lst (ts.map wdV))->ts.Nodup/\ts.length<=16->PyProof.Rows.sortedS (ts.map tx)=true->(∀ t,t∈ts↔RdS al ws r es zs t)->Q (.ref D) H'):jG Ad [.ref b,.ref q] H Q E:=by
 have w8:=ok.w8
 refine⟨b,ca,dn,de,es,al,ws,r,.ref q,.lst,rfl,B,C,ok,hes,by show kj (H q)=_;rw[hq];rfl,(fun p o u e h=>by cases e;rw[hq] at h;cases h),(fun p xs e h y hy=>?_),(fun h=>by rw[wF hq z2 (by omega) hz] at h;cases h),fun p zs' e h _ _ _=>?_⟩
 ·cases e
  rw[hq] at h;cases h
  obtain⟨z,hzm,rfl⟩:=aE.mp hy
  exact⟨⟨.str,rfl⟩,fun u eu=>by
   have:u=tx z:=(V.str.inj eu).symm
   rw[this,bj]
   have:=(Mk.cQ.mp (hz z hzm)).1
   omega⟩
 ·cases e
  rw[hq] at h
  injection h with h
  injection h with h
  obtain rfl:=Bw h
  exact⟨z1000,k1,k2⟩
theorem xU {es:List Ben} (ok:bD al ws r) (hz:∀ z∈zs,Mk.b8 al ws.length z=true)  (h:RdN al ws r es zs ns)  (hd:ns[i]?=some d):0<=d/\d<bL al ws:=by
 have a3:=ok.a3
 have hi:i<zs.length:=by rw[←h.1];exact (bf.mp hd).1
 have hzi:zs[i]?=some zs[i]:=List.getElem?_eq_getElem hi
 obtain⟨h1,h2⟩:=h.2 i _ hzi
 cases hs:jz al ws r es zs.length i zs[i] with
 | true =>
  have e:=h1 hs
  rw[hd] at e;cases e
  unfold jz at hs
  rw[bI] at hs
  exact uT ok hs.1
 | false =>
  obtain⟨ps,a1,_,_,e⟩:=h2 hs
  rw[hd] at e;cases e
  obtain⟨zl,zm⟩:=Mk.cQ.mp (hz _ (bG hzi))
  obtain⟨pl,pm⟩:=lQ (Mk.kU zm) ps a1
  have hb:=Mk.iP (m:=(al.length:Int)) (by omega) ps.dropLast fun p hp=>pm p (gF _ hp)
  have e:ps.dropLast.length=ws.length-1:=by rw[i7,pl,Mk.nu];omega
  rw[e] at hb
  exact hb
theorem HK {es:List Ben} (ok:bD al ws r) (hz:∀ z∈zs,Mk.b8 al ws.length z=true) (h1:(dbL al ws r es zs).length<=1) {ns ms:List Int} (hn:RdN al ws r es zs ns) (hm:RdN al ws r es zs ms) (cn:BO (bL al ws) ns) (cm:BO (bL al ws) ms):ns=ms:=by
 have same:∀ i,i∉dbL al ws r es zs->ns[i]?=ms[i]?:=fun i hi=>by
  by_cases hl:i<zs.length
  ·have hzi:zs[i]?=some zs[i]:=List.getElem?_eq_getElem hl
   have hs:jz al ws r es zs.length i zs[i]=true:=by
    cases h:jz al ws r es zs.length i zs[i] with
    | true=>rfl
    | false=>exact absurd (sM.mpr ⟨_,hzi,h⟩) hi
   rw[(hn.2 i _ hzi).1 hs,(hm.2 i _ hzi).1 hs]
  ·rw[gJ (by rw[hn.1];omega),gJ (by rw[hm.1];omega)]
 match hd:dbL al ws r es zs,h1 with
 | [],_=>exact gG fun i=>same i (by rw[hd];simp)
 | [j],_ =>
  rw[hd] at same
  have hj:j<zs.length:=by
   have:j∈dbL al ws r es zs:=by rw[hd];exact aV.mpr rfl
   obtain⟨z,hzj,_⟩:=sM.mp this
   exact (bf.mp hzj).1
  have hjn:j<ns.length:=by rw[hn.1];exact hj
  have hjm:j<ms.length:=by rw[hm.1];exact hj
  have off:∀ i,i≠j->ns[i]?=ms[i]?:=fun i hi=>same i (by simpa using hi)
  have cut:∀ (l:List Int) (hl:j<l.length),l=l.take j++[l[j]]++l.drop (j+1):=fun l hl=>by
   rw[df]
   have e:[l[j]]++l.drop (j+1)=l.drop j:=(List.drop_eq_getElem_cons hl).symm
   rw[e,List.take_append_drop]
  have eA:ns.take j=ms.take j:=gG fun i=>by
   rw[mO,mO]
   split
   ·exact off i (by omega)
   ·rfl
  have eB:ns.drop (j+1)=ms.drop (j+1):=gG fun i=>by
   rw[i5,i5]
   exact off _ (by omega)
  rw[cut ns hjn] at cn ⊢
  rw[cut ms hjm] at cm ⊢
  rw[eA,eB] at cn ⊢
  rw[Av (xU ok hz hn (List.getElem?_eq_getElem hjn)) (xU ok hz hm (List.getElem?_eq_getElem hjm)) cn cm]
 | _::_::_,h1=>exact absurd h1 (by simp)
theorem xm {ts:List α}{t:α} (hn:ts.Nodup) (h1:t∈ts) (h2:∀ u∈ts,u=t):ts=[t]:=by
 have:=AU hn fun x hx y hy=>by rw[h2 x hx,h2 y hy]
 match ts,h1,this with
 | [u],h1,_=>rw[h2 u List.mem_cons_self]
 | _::_::_,_,h=>exact absurd h (by simp)
theorem FV {es:List Ben}{gs:List Int}{wd:List (List Nat)} (h:lj ((gs.map V.int).map (kOf es))=.inr wd):lC es M (gs++[(gs.sum+(gs.length:Int))%M])=some (Mk.dY 32 wd):=by
 unfold lC
 rw[jo,List.getLast?_concat,pN,h]
 show (if (gs.sum+(gs.length:Int))%M=(gs.sum+(gs.length:Int))%M then some (Mk.dY 32 wd) else none)=_
 rw[if_pos rfl]
theorem HJ {es:List Ben} (ok:bD al ws r) (hz:∀ z∈zs,Mk.b8 al ws.length z=true) (h1:(dbL al ws r es zs).length<=1) {t:List Nat} (hn:RdN al ws r es zs ns) (ht:lC es (bL al ws) ns=some t) {ts:List (List Nat)} (hnd:ts.Nodup) (hmem:∀ t,t∈ts↔RdS al ws r es zs t):ts=[t] :=
 xm hnd ((hmem t).mpr ⟨ns,hn,ht⟩) fun u hu=>by
  obtain⟨ms,hm,hu'⟩:=(hmem u).mp hu
  rw[HK ok hz h1 hm hn (se hu') (se ht),ht] at hu'
  exact (Option.some.inj hu').symm
theorem ef:aG ["book","words","places","code","last","lists","at","texts"] ["book","words"] (ar oj):=by subst_eqs
theorem xH (F:Fun K "readings" "readings" oj f fd) (T:Bl mg) (AF:AdF K mg Ad) (C_text_of:Fnc P w K mg base (CX1 P w) 5 "text_of" ["book","numbers"] (tX Ad)) (C_with_each:Fnc P w K mg base (CX1 P w) 1 "with_each" ["lists","at","choices"] pD) (C_may_stand:Fnc P w K mg base (CX1 P w) 6 "may_stand" ["book","word","is_check"] (pC Ad)) (C_doubtful:Fnc P w K mg base (CX1 P w) 6 "doubtful" ["book","words"] (jE Ad)) (M_Code_has_good:Mtd P w K mg base (CX1 P w) Ad.Code "has_good" 3 ["self","thing"] (dQ Ad)) (M_Code_number:Mtd P w K mg base (CX1 P w) Ad.Code "number" 4 ["self","word"] (gA Ad)) (M_Book_code:Mtd P w K mg base (CX1 P w) Ad.Book "code" 1 ["self"] (eE Ad)) (K_TooGarbled:Dw P w K mg base (CX1 P w) Ad.TooGarbled "TooGarbled" 1 ["self","places"] (eF Ad)):bJ P w K mg base (CX1 P w) 7 f fd ["book","words"] (jG Ad):=by
 refine F.okX (k:=6) ef ?_ ?_
 ·bv_decide
 ·bv_normalize
  obtain⟨b,ca,dn,de,es,al,ws,r,x,t,rfl,B,C,ok,hes,ht,hfz,hit,kE,kQ⟩:=h
  refine⟨_,af (aA (i:=2) ef.nd (ay C_doubtful av (hr.mono (by decide)) (ag (pvC 0) (ag (pvL 1) (ae))))) (af (bH (aN qE (au (aH (K:=K) rfl) T.len b9 (ag (pvL 2) (ae))) (eI AF.v_MOST_DOUBTFUL) (aQ _)) (ai (qI K_TooGarbled nS rfl (hr.mono (by decide)) (ag (pvL 2) (ae)))) (aU)) (af (fV (i:=3) ef.nd (cE M_Book_code av (hr.mono (by decide)) (pvC 0))) (af (aA (i:=4) ef.nd (ax gv (au (aH (K:=K) rfl) T.len b9 (ag (pvL 1) (ae))) (ao))) (af (aA (i:=5) ef.nd (bR (ag (gS ["word"] rfl ⟨rfl,by decide +kernel,rfl,by decide +kernel⟩ (.cons (j:=3) rfl (.inl (by kernel_rfl)) (.nil)) (by decide +kernel) (ck (K:=K) rfl (pvL 1)) (fun _ _ _ _=>aL (i:=0) (show (["word","code"]:List Str).Nodup from by decide +kernel)) (fun _ _ _ _=>dI) (fun _ _ _ _=>xM (cq (dr M_Code_has_good eT (hr.mono (by decide)) (pvC 1) (ag (pvL 0) (ae)))) (dr M_Code_number eT (hr.mono (by decide)) (pvC 1) (ag (pvL 0) (ae))) (fD))) (ae)))) (af (eQ cf rfl (ck (K:=K) rfl (pvL 2)) (aL (i:=6) ef.nd) (ai (aA (i:=5) ef.nd (ay C_with_each av (hr.mono (by decide)) (ag (pvL 5) (ag (pvL 6) (ag (ay C_may_stand av (hr.mono (by decide)) (ag (pvC 0) (ag (bP (cS (K:=K) rfl) (pvL 1) (pvL 6) (fun _ _=>rfl)) (ag (dh (cD (K:=K) rfl hu) (pvL 6) (pvL 4) (aQ _)) (ae))))) (ae)))))))) (af (lW (i:=7) ["numbers"] ef.nd rfl (Or.inl rfl) rfl ⟨rfl,by decide +kernel,rfl,by decide +kernel⟩ (.cons (j:=0) rfl (.inl (by kernel_rfl)) (.nil)) (by decide +kernel) (ck (K:=K) rfl (pvL 5)) (fun _ _ _ _=>aL (i:=0) (show (["numbers","book"]:List Str).Nodup from by decide +kernel)) (fun _ _ _ _=>dI) (fun _ _ _ _=>ay C_text_of eT (hr.mono (by decide)) (ag (pvC 1) (ag (pvL 0) (ae))))) (ai (aF (au (yI (P:=P) (w:=w) rfl rfl rfl) T.sorted u9 (ag (ei (yG (K:=K) (P:=P) (w:=w) rfl rfl rfl rfl) T.set DM (ag (gS ["text"] rfl ⟨rfl,by decide +kernel,rfl,by decide +kernel⟩ (.nil) (by decide +kernel) (ck (K:=K) rfl (pvL 7)) (fun _ _ _ _=>aL (i:=0) (show (["text"]:List Str).Nodup from by decide +kernel)) (fun _ _ _ _=>kT (aN qG (pvL 0) (fD) (aQ _))) (fun _ _ _ _=>pvL 0)) (ae))) (ae))))))))))),?_⟩
  have big:∀ {u:Nat},u<=10000->u<=sizeLine:=fun hu=>aP (aj (by omega))
  have w8:=ok.w8
  grind
  refine⟨b,ca,dn,de,es,al,ws,r,x,t,rfl,B,C,ok,ht,hfz,hit,kE,fun p zs ex hp z2 z14 hz D1 H1 hD1 s1 h1=>?_⟩
  subst ex
  obtain⟨z1000,kG,kR⟩:=kQ p zs rfl hp z2 z14 hz
  clear kQ kE hit hfz
  cbv
  have dnd:(dbL al ws r es zs).Nodup:=jm _ List.nodup_range
  have dlt:∀ i∈dbL al ws r es zs,i<zs.length:=fun i hi=>bN.mp (bW.mp hi).1
  grind
  refine⟨_,.l h1,?_⟩
  rw[List.length_map]
  by_cases h3:2<(dbL al ws r es zs).length
  ·rw[aq (show (2:Int)<((dbL al ws r es zs).length:Int) by omega)]
   and_intros
   exact⟨big (by decide),zN h1 fun dx pp H' sH hd hpp=>kG h3 dx pp H' (s1.trans sH) hd hpp⟩
  have d2:(dbL al ws r es zs).length<=2:=by omega
  rw[decide_eq_false (show ¬ (2:Int)<((dbL al ws r es zs).length:Int) by omega)]
  bv_omega
  show nn _ _ _
  rw[hN]
  clear hN nn kG h3
  have kR':=kR d2
  clear kR
  have B1:=B.same s1
  have C1:=C.same s1
  have hp1:=s1 _ _ hp
  obtain⟨dx,hb1⟩:=B1.bk
  grind
  refine⟨dx,_,hb1,cZ (by decide) (by decide) (by decide) ca dn de,b,ca,dn,de,es,rfl,B1,?_⟩
  cbv
  grind
  refine⟨_,.l hp1,?_⟩
  rw[List.length_map,hN]
  clear hN nn
  grind
  refine .inl ⟨⟨_,.of hp1⟩,um wdV Bv (eJ (.of hp1)) (aj (by omega)) (gX al ws r) ?_ ?_⟩
  ·intro z hzm G2 t2 R hR
   have C2:=C1.same t2
   obtain⟨dc,qc,hc1,hc2⟩:=id C2
   have zl:=(Mk.cQ.mp (hz z hzm)).1
   have eg:hX (tx al) ws r (.str (tx z))=Mk.bU al ws r z:=by
    show Mk.bU (tx al).cps.toList ws r (tx z).cps.toList=_
    rw[bo,bo]
   unfold wdV
   and_intros
   refine⟨dc,_,hc1,bQ (by decide) (by decide) (by decide) al qc r,ca,al,ws,r,.str (tx z),.str,rfl,C2,ok,rfl,(fun y ey=>by rw[←V.str.inj ey,bj];omega),fun G3 t3=>?_⟩
   rw[eg]
   unfold gX at hR
   cases hg:Mk.bU al ws r z with
   | false =>
    rw[hg] at hR
    and_intros
    exact hR G3 t3
   | true =>
    rw[hg] at hR
    have C3:=C2.same t3
    obtain⟨dc3,qc3,hc31,hc32⟩:=id C3
    and_intros
    refine⟨dc3,_,hc31,bQ (by decide) (by decide) (by decide) al qc3 r,ca,al,ws,r,.str (tx z),.str,rfl,C3,ok,rfl,(fun y ey=>by rw[←V.str.inj ey,bj];omega),(fun h=>by rw[eg,hg] at h;cases h),fun u eu hu G4 t4=>?_⟩
    have eu':u=tx z:=(V.str.inj eu).symm
    subst eu'
    rw[bo]
    exact hR G4 (t3.trans t4)
  intro D2 G2 hD2 t2 g2
  and_intros
  refine⟨big (by decide),fun pl0 G3 hpl0 t3 g3=>?_⟩
  have s3:=s1.trans (t2.trans t3)
  have h13:=(t2.trans t3) _ _ h1
  have hp3:=s3 _ _ hp
  have B3:=B.same s3
  have C3:=C.same s3
  cbv
  grind
  refine .inl ⟨⟨_,.of h13⟩,ka (xs:=(dbL al ws r es zs).map sP) (fun i σ G=>∃ (pl:Addr) (vs:List V) (pcs:List (Nat×List Int)) (o6 o7:Option V),σ=[some (V.ref b),some (V.ref p),some (V.ref D1),some (V.ref ca),some (V.int ((zs.length:Int)-1)),some (V.ref pl),o6,o7]/\aw G3 G/\G pl=some (.lst vs)/\jW G vs (jd [zs.map (gX al ws r)] pcs)/\pcs.map (·.1)=(dbL al ws r es zs).take i/\(∀ q∈pcs,∃ z,zs[q.1]?=some z/\Dx al ws r es (decide (q.1+1=zs.length)) z q.2)) ?_ ?_ ?_ ?_⟩
  ·exact⟨pl0,_,[],_,_,rfl,aw.refl _,g3,.cons ⟨D2,rfl,t3 _ _ g2⟩ .nil,rfl,fun q hq=>by cases hq⟩
  ·rintro i σ G _ ⟨_,_,_,_,_,_,t,_⟩
   exact .of (t _ _ h13)
  ·rintro i v σ G hi ⟨pl,vs,pcs,o6,o7,rfl,t4,hpl,hvs,hpc,hpm⟩ N hNx
   clear hN
   rw[aJ] at hi
   obtain⟨a,ha,rfl⟩:=dB.mp hi
   have hil:=(bf.mp ha).1
   have alt:=dlt a (bG ha)
   have hza:zs[a]?=some zs[a]:=List.getElem?_eq_getElem alt
   have hwa:=hz _ (bG hza)
   have pcl:pcs.length<=1:=by
    have:=bu List.length hpc
    rw[List.length_map,bw] at this
    omega
   have few:∀ q∈pcs,q.2.length<=16:=fun q hq=>by obtain⟨_,_,M⟩:=hpm q hq;exact M.few
   have l16:(jd [zs.map (gX al ws r)] pcs).length<=1000:=by
    refine aK (lV few (M:=1) (ak _)) (aK (Nat.mul_le_mul_left 1 (jr (by decide) pcl)) (by decide))
   have pnd:(pcs.map (·.1)).Nodup:=by rw[hpc];exact dnd.sublist (List.take_sublist _ _)
   have plen:∀ xs∈jd [zs.map (gX al ws r)] pcs,xs.length=zs.length:=fun xs hxs=>by
    obtain⟨y,hy,P⟩:=(zH pnd fun y hy q hq=>by rw[aV.mp hy,List.length_map];obtain⟨z,hz',_⟩:=hpm q hq;exact (bf.mp hz').1).mp hxs
    rw[P.len,aV.mp hy,List.length_map]
   unfold sP
   and_intros
   refine⟨_,_,.l (t4 _ _ hp3),bY (j:=a) (by rw[aJ,hza];rfl),?_⟩
   unfold wdV
   and_intros
   refine⟨b,ca,dn,de,es,al,ws,r,zs[a],_,rfl,B3.same t4,C3.same t4,ok,hwa,fun D5 cs G5 hD5 t5 g5 M=>?_⟩
   have e:decide ((a:Int)=(zs.length:Int)-1)=decide (a+1=zs.length):=by
    by_cases h:a+1=zs.length
    ·rw[aq h,aq (by omega)]
    ·rw[decide_eq_false h,decide_eq_false (by omega)]
   rw[e] at M
   refine⟨pl,D5,vs,_,a,cs,rfl,t5 _ _ hpl,hvs.keep fun b xs h=>t5 _ _ h,g5,by have:=M.few;omega,l16,(fun xs hxs=>by rw[plen xs hxs];exact z14),by omega,fun D6 vs6 G6 hD6 t6 g6 hv6=>?_⟩
   refine hNx _ _ ⟨D6,vs6,pcs++[(a,cs)],_,_,rfl,t4.trans (t5.trans t6),g6,by rw[uX];exact hv6,?_,fun q hq=>?_⟩
   ·rw[List.map_append,hpc,iC,ha];rfl
   ·rcases bz.mp hq with hq | hq
    ·exact hpm q hq
    ·rw[aV.mp hq]
     exact⟨_,hza,M⟩
  rintro σ G ⟨pl,vs,pcs,o6,o7,rfl,t4,hpl,hvs,hpc,hpm⟩
  show nn _ _ _
  cbv
  rw[List.length_map,fh (ak _)] at hpc
  have few:∀ q∈pcs,q.2.length<=16:=fun q hq=>by obtain⟨_,_,M⟩:=hpm q hq;exact M.few
  have pcl:pcs.length<=2:=by
   have:=bu List.length hpc
   rw[List.length_map] at this
   omega
  have l256:(jd [zs.map (gX al ws r)] pcs).length<=256:=aK (lV few (M:=1) (ak _)) (aK (Nat.mul_le_mul_left 1 (jr (by decide) pcl)) (by decide))
  have pin:=fun xs=>Fp (r:=r) hpc hpm (xs:=xs)
  have ptx:=Fq ok hz pcl hpm (zs.map (gX al ws r))
  generalize jd [zs.map (gX al ws r)] pcs=LL at hvs l256 pin ptx
  have lvs:vs.length=LL.length:=kS hvs
  have B4:=B3.same t4
  have C4:=C3.same t4
  grind
  refine .inl ⟨⟨_,.of hpl⟩,Ir (eJ (.of hpl)) (aj (by omega)) ((LL.map fun xs=>lC es (bL al ws) (j7 xs)).map zD) (by rw[List.length_map,List.length_map,lvs]) ?_ ?_⟩
  ·intro i v u hv hu G5 t5 R hR
   obtain⟨xs,hxs,q,rfl,hq⟩:=nt hvs hv
   rw[aJ,aJ,hxs] at hu
   obtain⟨ns,rfl,hns⟩:=(pin xs).mp (bG hxs)
   have hu':zD (lC es (bL al ws) (j7 (ns.map V.int)))=u:=Option.some.inj hu
   rw[qt] at hu'
   subst hu'
   have nl:=hns.1
   and_intros
   refine⟨b,ca,dn,de,q,es,al,ws,r,ns,rfl,B4.same t5,C4.same t5,ok,hes,t5 _ _ hq,by omega,by omega,fun tt htt G6 t6=>?_,fun htt G6 t6=>?_⟩
   ·rw[htt] at hR;exact hR G6 t6
   ·rw[htt] at hR;exact hR G6 t6
  intro D5 G5 hD5 t5 g5
  cbv
  and_intros
  refine .inl ⟨⟨_,.of g5⟩,ED zD Fc (eJ (.of g5)) (by rw[List.length_map];exact aj (by omega)) (fun o=>o.isSome) zD ?_ ?_ ?_⟩
  ·intro o ho G6 t6 R hR
   cases o with
   | none =>
    and_intros
    exact hR G6 (aw.refl _)
   | some tt =>
    and_intros
    exact hR G6 (aw.refl _)
  ·intro o ho _ G6 t6 R hR
   and_intros
   exact hR G6 (aw.refl _)
  intro D6 G6 hD6 t6 g6
  rw[tj,List.filterMap_map] at g6
  have ptx':(LL.filterMap (id ∘ fun xs=>lC es (bL al ws) (j7 xs))).length<=16:=ptx
  have pmem:∀ tt,tt∈LL.filterMap (id ∘ fun xs=>lC es (bL al ws) (j7 xs))↔RdS al ws r es zs tt:=fun tt=>by
   rw[mR]
   constructor
   ·rintro⟨xs,hxs,e⟩
    obtain⟨ns,rfl,hns⟩:=(pin xs).mp hxs
    have e':lC es (bL al ws) (j7 (ns.map V.int))=some tt:=e
    rw[qt] at e'
    exact⟨ns,hns,e'⟩
   ·rintro⟨ns,hns,e⟩
    refine⟨ns.map V.int,(pin _).mpr ⟨ns,rfl,hns⟩,?_⟩
    show lC es (bL al ws) (j7 (ns.map V.int))=some tt
    rw[qt];exact e
  generalize LL.filterMap (id ∘ fun xs=>lC es (bL al ws) (j7 xs))=TT at g6 ptx' pmem
  and_intros
  refine⟨TT.map tx,.of g6,by rw[List.length_map];omega,fun pS G7 hpS t7 g7=>?_⟩
  and_intros
  refine⟨TT.map tx,g7,by have:=lT (mB (TT.map tx)) (TT.map tx).length;rw[List.length_map] at this ⊢;omega,fun us hnd hmem hsrt pO G8 hpO t8 g8=>?_⟩
  have eus:us=(us.map fun z=>z.cps.toList).map tx:=by
   rw[List.map_map]
   exact (List.map_id' us).symm.trans (i8 fun z _=>(m7 z).symm)
  refine kR' pO (us.map fun z=>z.cps.toList) G8 ((s3.trans (t4.trans (t5.trans (t6.trans t7)))).free hpO) (s3.trans (t4.trans (t5.trans (t6.trans (t7.trans t8))))) ?_ ?_ ?_ fun tt=>?_
  ·rw[g8]
   congr 2
   rw[List.map_map]
   exact i8 fun z _=>by show V.str z=V.str (tx z.cps.toList);rw[m7]
  ·refine⟨gM.mpr (mD (fun {x y} hxy e=>hxy ?_) hnd),?_⟩
   ·rw[List.length_map]
    have:=Iv hnd fun z hz=>(hmem z).mp hz
    rw[List.length_map] at this
    omega
   ·rw[←m7 x,←m7 y,e]
  ·rw[←eus];exact hsrt
  ·rw[←pmem,aE]
   constructor
   ·rintro⟨z,hz',rfl⟩
    obtain⟨y,hy,e⟩:=aE.mp ((hmem z).mp hz')
    rw[←e,bo];exact hy
   ·exact fun h=>⟨tx tt,(hmem _).mpr (iB h),bo tt⟩
theorem zi {z c:List Nat} (ok:bD al ws r) (g:GoodW al ws r z) (f:nE al z c):∃ ps q,z=Mk.bA al ps/\ps.length=ws.length/\(∀ x∈ps,0<=x/\x<(al.length:Int))/\Mk.good al.length ws r ps=true/\c=Mk.bA al q/\q∈jy al.length ps:=by
 obtain⟨ps,rfl,hl,hm,hg⟩:=g
 have sl:=Mk.gk al ps
 have gc:∀ j (hj:j<ps.length),(Mk.bA al ps).getD j 0=al.getD ps[j].toNat 0:=fun j hj=>by
  rw[List.getD_eq_getElem?_getD]
  unfold Mk.bA
  rw[aJ,List.getElem?_eq_getElem hj];rfl
 have gp:∀ j (hj:j<ps.length),ps.getD j 0=ps[j]:=fun j hj=>by rw[List.getD_eq_getElem?_getD,List.getElem?_eq_getElem hj];rfl
 rcases f with ⟨i,d,hi,hd,hne,rfl⟩ | ⟨i,hi,hne,rfl⟩
 ·rw[sl] at hi
  have hj:=mP hd
  have ed:al.getD ((al.idxOf d:Nat):Int).toNat 0=d:=by
   rw[da,List.getD_eq_getElem?_getD,List.getElem?_eq_getElem hj]
   exact List.getElem_idxOf hj
  refine⟨ps,ps.set i ((al.idxOf d:Nat):Int),rfl,hl,hm,hg,?_,bz.mpr (.inl (kc.mpr ⟨i,_,hi,Int.natCast_nonneg _,by omega,fun e=>hne ?_,rfl⟩))⟩
  ·have:=Mk.Dk (al:=al) (x:=((al.idxOf d:Nat):Int)) hi
   rw[ed] at this
   exact this
  ·rw[gc i hi,←gp i hi,←e,ed]
 ·rw[sl] at hi
  have hi0:i<ps.length:=by omega
  refine⟨ps,_,rfl,hl,hm,hg,?_,bz.mpr (.inr (ke.mpr ⟨i,hi,fun e=>hne ?_,rfl⟩))⟩
  ·rw[gc i hi0,gc (i+1) hi,gp i hi0,gp (i+1) hi]
   exact Mk.zZ hi
  ·rw[gc i hi0,gc (i+1) hi,←gp i hi0,←gp (i+1) hi,e]
def vm (al:List Nat) (zs cs:List (List Nat)):Prop:=cs.length=zs.length/\∀ (i:Nat) z c,zs[i]?=some z->cs[i]?=some c->c=z∨nE al z c
structure Tel (al:List Nat) (ws:List Int) (r:Int) (es:List Ben) (gs:List Int):Prop where
 ok:bD al ws r
 mem:∀ g∈gs,g∈es.map (·.num)
 bd:∀ e∈es,0<=e.num/\e.num<bL al ws
def uW (al:List Nat) (ws:List Int) (gs:List Int):List Int:=gs++[(gs.sum+(gs.length:Int))%bL al ws]
theorem wC (al:List Nat) (ws:List Int) (r:Int) (gs:List Int):cy al ws r gs=(uW al ws gs).map (yq al ws r):=by unfold cy uW;rw[List.map_append];rfl
section
variable {al:List Nat}{ws:List Int}{r:Int}{es:List Ben}{gs:List Int}{cs:List (List Nat)}
theorem Br:(cy al ws r gs).length=gs.length+1:=by rw[wC,List.length_map];unfold uW;rw[List.length_append];rfl
theorem Tel.at (T:Tel al ws r es gs) {i:Nat}{z:List Nat} (h:(cy al ws r gs)[i]?=some z):GoodW al ws r z/\(uW al ws gs)[i]?=some (il al z)/\(i+1=(cy al ws r gs).length∨il al z∈es.map (·.num)):=by
 have hil:=(bf.mp h).1
 rw[Br] at hil ⊢
 rw[wC,aJ] at h
 obtain⟨n,hn,rfl⟩:=dB.mp h
 have a3:=T.ok.a3
 have hmany:0<bL al ws:=Int.pow_pos (by omega)
 have hg:∀ g∈gs,0<=g/\g<bL al ws:=fun g hg=>by
  obtain⟨e,he,rfl⟩:=aE.mp (T.mem g hg)
  exact T.bd e he
 have nb:0<=n/\n<bL al ws:=by
  rcases bz.mp (show n∈gs++[_] from bG hn) with h | h
  ·exact hg n h
  ·rw[aV.mp h]
   exact⟨c4 _ (by omega),cH _ hmany⟩
 rw[KY T.ok nb.1 nb.2]
 refine⟨KQ T.ok,hn,?_⟩
 by_cases hl:i<gs.length
 ·unfold uW at hn
  rw[i4 hl] at hn
  exact .inr (T.mem n (bG hn))
 ·exact .inl (by omega)
theorem Tel.z (C:vm al (cy al ws r gs) cs) {i:Nat}{c:List Nat} (h:cs[i]?=some c):∃ z,(cy al ws r gs)[i]?=some z:=by
 have:=(bf.mp h).1
 rw[C.1] at this
 exact⟨_,List.getElem?_eq_getElem this⟩
theorem Tel.word (T:Tel al ws r es gs) (C:vm al (cy al ws r gs) cs):∀ c∈cs,Mk.b8 al ws.length c=true:=fun c hc=>by
 obtain⟨i,hi⟩:=pQ hc
 obtain⟨z,hz⟩:=Tel.z C hi
 have g:=(T.at hz).1
 rcases C.2 i z c hz hi with rfl | f
 ·obtain⟨ps,rfl,pl,pm,_⟩:=g
  exact ly pl pm
 ·obtain⟨ps,q,rfl,pl,pm,pg,rfl,hq⟩:=zi T.ok g f
  obtain⟨ql,qm⟩:=lQ pm q hq
  exact ly (ql.trans pl) qm
theorem AI (ok:bD al ws r) {z c:List Nat} (g:GoodW al ws r z) (f:nE al z c):Mk.bU al ws r c=false:=by
 obtain⟨ps,q,rfl,pl,pm,pg,rfl,hq⟩:=zi ok g f
 obtain⟨ql,qm⟩:=lQ pm q hq
 rw[Mk.kK ok.nd (ql.trans pl) qm]
 exact GX ok pl pm pg q hq
theorem Tel.snd (T:Tel al ws r es gs) (C:vm al (cy al ws r gs) cs) {z c:List Nat} (hz:(cy al ws r gs)[i]?=some z) (hc:cs[i]?=some c):jz al ws r es cs.length i c=decide (c=z):=by
 obtain⟨g,_,h⟩:=T.at hz
 unfold jz
 rcases C.2 i z c hz hc with rfl | f
 ·rw[g.good T.ok,aq rfl,dA,Bool.or_eq_true,bC,bC,C.1];exact h
 ·have hb:=AI T.ok g f
  rw[hb,fW,decide_eq_false]
  rintro rfl
  rw[g.good T.ok] at hb;cases hb
theorem Tel.rd (T:Tel al ws r es gs) (C:vm al (cy al ws r gs) cs):RdN al ws r es cs (uW al ws gs):=by
 refine⟨by rw[C.1,wC,List.length_map],fun i c hc=>?_⟩
 obtain⟨z,hz⟩:=Tel.z C hc
 obtain⟨g,hn,hm⟩:=T.at hz
 rw[T.snd C hz hc]
 refine⟨fun h=>by rw[iD h];exact hn,fun h=>?_⟩
 rcases C.2 i z c hz hc with e | f
 ·exact absurd e (of_decide_eq_false h)
 ·obtain⟨ps,q,rfl,pl,pm,pg,rfl,hq⟩:=zi T.ok g f
  obtain⟨ql,qm⟩:=lQ pm q hq
  have enm:il al (Mk.bA al ps)=Mk.numOf al.length ps.dropLast:=by
   unfold il
   have e3:(Mk.bA al ps).dropLast=Mk.bA al ps.dropLast:=by unfold Mk.bA;rw[List.map_dropLast]
   rw[e3,Mk.iW T.ok.nd fun p hp=>pm p (gF _ hp)]
  rw[enm] at hn hm
  refine⟨ps,?_,pg,by rw[C.1];exact hm,hn⟩
  rw[Mk.iW T.ok.nd qm];exact GZ pm hq
theorem Tel.db (T:Tel al ws r es gs) (C:vm al (cy al ws r gs) cs):dbL al ws r es cs=(List.range (cy al ws r gs).length).filter fun i=>!decide (cs.getD i []=(cy al ws r gs).getD i []):=by
 unfold dbL
 rw[C.1]
 refine List.filter_congr fun i hi=>?_
 have hi':=bN.mp hi
 have hc:cs[i]?=some (cs.getD i []):=by rw[List.getD_eq_getElem?_getD,List.getElem?_eq_getElem (by rw[C.1];exact hi')];rfl
 have hz:(cy al ws r gs)[i]?=some ((cy al ws r gs).getD i []):=by rw[List.getD_eq_getElem?_getD,List.getElem?_eq_getElem hi'];rfl
 have:=T.snd C hz hc
 rw[C.1] at this
 rw[this]
theorem Jz (ok:bD al ws r) {z c:List Nat} (g:GoodW al ws r z) (f:nE al z c):c≠z:=fun e=>by
 have hb:=AI ok g f
 rw[e,g.good ok] at hb;cases hb
end
def zY (K:PySem.W.Frag) (tb:Addr):Sp:=fun vs H Q _=>∃ (a:Addr) (ns:List Int),vs=[.ref a]/\SqL K H a (ns.map V.int)/\ns.length<=63/\H tb=some (nA uk)/\∀ H',Q (.bl true) H'
theorem ji:aG ["_law_script","_law_parts","_law_entries_here","_law_book_here","_law_groups_here","_law_text","_law_words","_law_k","_law_number","_law_at","_law_came"] ["_law_script"] (ar oX):=by subst_eqs
theorem JO (F:Fun K "law" "law" oX f fd) (T:Bl mg) (AF:AdF K mg Ad) (C_readings:Fnc P w K mg base (CX1 P w) 7 "readings" ["book","words"] (jG Ad)) (C_doubtful:Fnc P w K mg base (CX1 P w) 6 "doubtful" ["book","words"] (jE Ad)) (C_law_faulty:Fnc P w K mg base (CX1 P w) 1 "_law_faulty" ["_law_alphabet","_law_word_here","_law_number"] nB) (C_law_mixed:Fnc P w K mg base (CX1 P w) 1 "_law_mixed" ["_law_cell"] gC) (C_law_cell_at:Fnc P w K mg base (CX1 P w) 1 "_law_cell_at" ["_law_script","_law_k"] (gB K)) (C_telegram:Fnc P w K mg base (CX1 P w) 5 "telegram" ["book","groups"] (rD Ad)) (C_law_said:Fnc P w K mg base (CX1 P w) 1 "_law_said" ["_law_entries_here","_law_groups_here"] (rC K)) (C_law_groups:Fnc P w K mg base (CX1 P w) 2 "_law_groups" ["_law_cells","_law_entries_here"] (nC K)) (C_law_book:Fnc P w K mg base (CX1 P w) 6 "_law_book" ["_law_code","_law_entries_here"] (rA Ad)) (C_law_entries:Fnc P w K mg base (CX1 P w) 2 "_law_entries" ["_law_script","_law_parts"] (m4 K)) (C_law_code_parts:Fnc P w K mg base (CX1 P w) 3 "_law_code_parts" ["_law_script"] (jF K)) (K_Code:Mak P w K mg base (CX1 P w) Ad.Code "Code" 4 ["self","alphabet","weights","rest"] (iT Ad)):bJ P w K mg base (CX1 P w) 8 f fd ["_law_script"] (zY K Ad.tb):=by
 refine F.okX (k:=7) ji ?_ ?_
 ·bv_decide
 ·bv_normalize
  obtain⟨a,ns,rfl,hS,hlen,hT,k⟩:=h
  refine⟨_,af (aA (i:=1) ji.nd (ay C_law_code_parts av (hr.mono (by decide)) (ag (pvL 0) (ae)))) (af (aA (i:=2) ji.nd (ay C_law_entries av (hr.mono (by decide)) (ag (pvL 0) (ag (pvL 1) (ae))))) (af (aA (i:=3) ji.nd (ay C_law_book av (hr.mono (by decide)) (ag (xN K_Code av (hr.mono (by decide)) (ag (bP (cS (K:=K) rfl) (pvL 1) (ao) (fun _ _=>rfl)) (ag (ei (gW (K:=K) rfl rfl) T.list j6 (ag (bP (cS (K:=K) rfl) (pvL 1) (ao) (fun _ _=>rfl)) (ae))) (ag (bP (cS (K:=K) rfl) (pvL 1) (ao) (fun _ _=>rfl)) (ae))))) (ag (pvL 2) (ae))))) (af (aA (i:=4) ji.nd (ay C_law_groups av (hr.mono (by decide)) (ag (cG (iu (K:=K) rfl) (pvL 0) (di (ao)) (di (ao))) (ag (pvL 2) (ae))))) (af (aA (i:=5) ji.nd (ay C_law_said av (hr.mono (by decide)) (ag (pvL 2) (ag (pvL 4) (ae))))) (af (aA (i:=6) ji.nd (ay C_telegram av (hr.mono (by decide)) (ag (pvL 3) (ag (pvL 4) (ae))))) (af (bH ((gT (aN zC (pvL 5) (fD) (aQ _)) (gT (aN (fB (K:=K) rfl hu) (ay C_doubtful av (hr.mono (by decide)) (ag (pvL 3) (ag (pvL 6) (ae)))) (bR (ae)) (aQ _)) (fF (aN (fB (K:=K) rfl hu) (ay C_readings av (hr.mono (by decide)) (ag (pvL 3) (ag (pvL 6) (ae)))) (bR (ag (pvL 5) (ae))) (aQ _))))).pt) (ai (aF (kh))) (aU)) (af (eQ cf rfl (zE T.range (ag (ao) (ag (ax aC (ao) (au (BH rfl) T.min Jt (ag (ao) (ag (au (aH (K:=K) rfl) T.len b9 (ag (pvL 0) (ae))) (ae))))) (ae)))) (aL (i:=7) ji.nd) (af (aA (i:=8) ji.nd (ay C_law_mixed av (hr.mono (by decide)) (ag (ax aC (ay C_law_cell_at av (hr.mono (by decide)) (ag (pvL 0) (ag (pvL 7) (ae)))) (ax AV (ao) (pvL 7))) (ae)))) (af (aA (i:=9) ji.nd (ax bV (pvL 8) (au (aH (K:=K) rfl) T.len b9 (ag (pvL 6) (ae))))) (af (aA (i:=10) ji.nd (ei (gW (K:=K) rfl rfl) T.list j6 (ag (pvL 6) (ae)))) (af (Kk (ay C_law_faulty av (hr.mono (by decide)) (ag (bP (cS (K:=K) rfl) (pvL 1) (ao) (fun _ _=>rfl)) (ag (bP (cS (K:=K) rfl) (pvL 6) (pvL 9) (fun _ _=>rfl)) (ag (ax cB (pvL 8) (ao)) (ae))))) (Kf (pvL 10) (pvL 9) set_list)) (ai (bH ((gT (aN (fB (K:=K) rfl hu) (ay C_doubtful av (hr.mono (by decide)) (ag (pvL 3) (ag (pvL 10) (ae)))) (bR (ag (pvL 9) (ae))) (aQ _)) (fF (aN (fB (K:=K) rfl hu) (ay C_readings av (hr.mono (by decide)) (ag (pvL 3) (ag (pvL 10) (ae)))) (bR (ag (pvL 5) (ae))) (aQ _)))).pt) (ai (aF (kh))) (aU)))))))) (ai (aF (kh)))))))))),?_⟩
  have big:∀ {u:Nat},u<=1000->u<=sizeLine:=fun hu=>aP (aj (by omega))
  grind
  refine⟨a,ns,rfl,hS,fun p q al ws r H1 s1 hP ok a9 w4 w6=>?_⟩
  cbv
  grind
  refine⟨a,p,q,ns,al,ws,r,rfl,s1.seq hS,hP,ok,w4,fun D es H2 hD s2 h2 eo=>?_⟩
  cbv
  grind
  refine⟨_,_,.l (s2 _ _ hP.1),bY (j:=0) rfl,_,_,.l (s2 _ _ hP.1),bY (j:=1) rfl,?_⟩
  and_intros
  refine⟨_,.inl (.l (s2 _ _ hP.2)),fun qn H3 hqn s3 hq3=>⟨_,_,.l ((s2.trans s3) _ _ hP.1),bY (j:=2) rfl,fun ca cd H4 hca hcd hcc s4 h4a h4d=>?_⟩⟩
  refine Cv h4a (s4 _ _ hq3) ok fun H5 s5 c5=>⟨rfl,?_⟩
  have s25:aw H2 H5:=fun b o e=>by
   have hb:b≠ca:=fun e2=>by rw[←e2,s3 _ _ e] at hca;cases hca
   exact s5 b o hb (s4 _ _ (s3 _ _ e))
  have s05:=s1.trans (s2.trans s25)
  have hD5:=s25 _ _ h2
  have eo5:Du al ws H5 es:=⟨fun e he=>s25 _ _ (eo.en e he),eo.nn,eo.nk,eo.ok,eo.few,eo.ph,eo.hE,eo.hP,eo.hF⟩
  have hP5:Parts H5 p q al ws r:=⟨(s2.trans s25) _ _ hP.1,(s2.trans s25) _ _ hP.2⟩
  have hS5:=s05.seq hS
  have hT5:=s05 _ _ hT
  have neP:∀ {c:Addr}{o:HO},H c=some o->c≠D:=fun e z=>by rw[z,s1.free hD] at e;cases e
  clear h4a h4d s4 hca hcd hcc hq3 s3 hqn s5 eo
  refine⟨ca,D,al,ws,r,es,rfl,c5,ok,hT5,hD5,eo5,fun b dn de ob H6 kp6 hD6 B6=>?_⟩
  cbv
  have eo6:Du al ws H6 es:=⟨fun e he=>kp6 _ _ (iN (eo5.en e he) hD5 (by intro z;cases z)) (eo5.en e he),eo5.nn,eo5.nk,eo5.ok,eo5.few,eo5.ph,eo5.hE,eo5.hP,eo5.hF⟩
  have hP6:Parts H6 p q al ws r:=⟨kp6 _ _ (iN hP5.1 hD5 (by intro z;cases z)) hP5.1,kp6 _ _ (iN hP5.2 hD5 (by intro z;cases z)) hP5.2⟩
  have c6:cx Ad H6 ca al ws r:=by
   obtain⟨dc,qc,hc1,hc2⟩:=c5
   exact⟨dc,qc,kp6 _ _ (iN hc1 hD5 (by intro z;cases z)) hc1,kp6 _ _ (iN hc2 hD5 (by intro z;cases z)) hc2⟩
  have s06:aw H H6:=fun c o e=>kp6 c o (neP e) (s05 _ _ e)
  have hS6:=s06.seq hS
  clear kp6 eo5 hP5 c5 hS5 hT5 hD5 s05 s25 s1 s2 h2 hP
  have hE6:Rd H6 D (.dK (gR es)):=.inr ⟨ob,hD6⟩
  have hnn:=eo6.nn
  have e1:1<=es.length:=by
   obtain⟨e,he,_⟩:=eo6.hE
   exact List.length_pos_of_mem he
  have hes:=eo6.ok
  grind
  obtain⟨l1,el1,ll1⟩:=DT ns 2 14
  refine⟨_,hS6,fun pc H7 hpc s7 h7=>?_⟩
  rw[show lP (ns.map V.int) (some 2) (some 14)=l1.map V.int from el1] at h7
  have c12:l1.length<=12:=ll1
  refine⟨pc,D,l1,es,ob,al,ws,rfl,h7,by omega,s7 _ _ hD6,⟨fun e he=>s7 _ _ (eo6.en e he),eo6.nn,eo6.nk,eo6.ok,eo6.few,eo6.ph,eo6.hE,eo6.hP,eo6.hF⟩,fun g gs wd H8 hg s8 h8 g1 g80 hgs say=>?_⟩
  cbv
  have s68:=s7.trans s8
  have hE8:yv H8 D es:=⟨.inr ⟨ob,s68 _ _ hD6⟩,(fun e he=>s68 _ _ (eo6.en e he)),hnn⟩
  have htg:∀ {G:Hp},∀ x∈gs.map V.int,∃ t,eG G x=some t:=fun {G} x hx=>by obtain⟨n,_,rfl⟩:=aE.mp hx;exact⟨.int,rfl⟩
  grind
  refine⟨D,g,es,gs,rfl,hE8,(fun e he=>(hes e he).1),h8,by omega,fun wd' hwd H9 s9=>?_,fun n hn=>by rw[say] at hn;cases hn⟩
  rw[say] at hwd
  cases hwd
  cbv
  have s69:=s68.trans s9
  grind
  refine⟨b,ca,dn,de,g,es,_,al,ws,r,rfl,B6.same s69,c6.same s69,ok,hes,s9 _ _ h8,by rw[List.length_map];omega,htg,fun wd' hw' gs' eg hg' W H10 hW s10 h10=>?_,fun n hn=>by rw[say] at hn;cases hn⟩
  have eg':gs=gs':=(pR (fun a b h=>V.int.inj h)).mp eg
  subst eg'
  clear hg' eg hw'
  cbv
  have T0:Tel al ws r es gs:=⟨ok,hgs,fun e he=>(hes e he).2⟩
  have txs:=FV (M:=bL al ws) say
  have zl:=Br (al:=al) (ws:=ws) (r:=r) (gs:=gs)
  have s610:=s69.trans s10
  have dbt:∀ (u:Addr) (cs:List (List Nat)) (G:Hp) (Q':VK) (E':XK),aw H6 G->G u=some (.lst (cs.map wdV))->vm al (cy al ws r gs) cs->(∀ D H',G D=none->aw G H'->H' D=some (.lst ((dbL al ws r es cs).map sP))->Q' (.ref D) H')->jE Ad [.ref b,.ref u] G Q' E':=fun u cs G Q' E' t hu C hq=>by
   have hw:=T0.word C
   have cl:=C.1
   have w8:=ok.w8
   refine⟨b,ca,dn,de,es,al,ws,r,.ref u,.lst,rfl,B6.same t,c6.same t,ok,by show kj (G u)=_;rw[hu];rfl,(fun p o v e h=>by cases e;rw[hu] at h;cases h),(fun p xs e h y hym=>?_),(fun hA=>?_),fun p zs' e h _ _ _=>?_⟩
   ·cases e
    rw[hu] at h
    cases h
    obtain⟨z,hzm,rfl⟩:=aE.mp hym
    refine⟨⟨.str,rfl⟩,fun z' e=>?_⟩
    cases e
    rw[bj]
    have:=(Mk.cQ.mp (hw z hzm)).1
    omega
   ·rw[wF hu (by omega) (by omega) hw] at hA;cases hA
   ·cases e
    rw[hu] at h
    have e':cs=zs':=(pR (fun a b h=>hO (V.str.inj h))).mp (HO.lst.inj (Option.some.inj h))
    subst e'
    exact hq
  have rdg:∀ (u:Addr) (cs:List (List Nat)) (G:Hp) (Q':VK) (E':XK),aw H6 G->G u=some (.lst (cs.map wdV))->vm al (cy al ws r gs) cs->(dbL al ws r es cs).length<=1->(∀ D H',G D=none->aw G H'->H' D=some (.lst [wdV (Mk.dY 32 wd)])->Q' (.ref D) H')->jG Ad [.ref b,.ref u] G Q' E':=fun u cs G Q' E' t hu C hd hq=>by
   have hw:=T0.word C
   have cl:=C.1
   refine HI (B6.same t) (c6.same t) ok hes hu (by omega) (by omega) hw (fun h=>absurd h (by omega)) fun _ D ts H21 hD s21 h21 hnd hsrt hmem=>?_
   have ets:=HJ ok hw hd (T0.rd C) txs hnd.1 hmem
   rw[ets] at h21
   exact hq D H21 hD s21 h21
  have cz:vm al (cy al ws r gs) (cy al ws r gs):=⟨rfl,fun i z c h1 h2=>by rw[h1] at h2;cases h2;exact .inl rfl⟩
  have dz:dbL al ws r es (cy al ws r gs)=[]:=by
   rw[T0.db cz]
   exact List.filter_eq_nil_iff.mpr fun i _=>by simp
  grind
  refine dbt W _ _ _ _ s610 h10 cz fun F1 G1 hF1 t1 f1=>?_
  rw[dz] at f1
  refine⟨aT _,fun p2 G2 hp2 t2 f2=>?_⟩
  and_intros
  refine⟨_,_,.of (t2 _ _ f1),.of f2,rfl,rfl,?_⟩
  rw[show lK (([]:List Nat).map sP) []=true from rfl,if_neg (by decide)]
  have s62:=s610.trans (t1.trans t2)
  refine rdg W _ _ _ _ s62 ((t1.trans t2) _ _ h10) cz (by rw[dz];decide) fun F3 G3 hF3 t3 f3=>?_
  refine⟨big (by decide),fun p4 G4 hp4 t4 f4=>?_⟩
  and_intros
  refine⟨_,_,.of (t4 _ _ f3),.of f4,rfl,rfl,?_⟩
  have eqt:lK [wdV (Mk.dY 32 wd)] [V.str (tx (Mk.dY 32 wd))]=true:=uF [wdV (Mk.dY 32 wd)] rfl
  rw[eqt,if_neg (by decide)]
  show nn _ _ _
  cbv
  have s64:=s62.trans (t3.trans t4)
  have hW4:G4 W=some (.lst ((cy al ws r gs).map wdV)):=(t1.trans (t2.trans (t3.trans t4))) _ _ h10
  clear f1 f2 f3 f4 h10
  grind
  have hS4:=s64.seq hS6
  refine⟨_,.inl hS4,⟨by decide,by decide,by omega,by rw[List.length_map];omega⟩,lR (fun i σ G=>aw G4 G/\∃ o7 o8 o9 o10,σ=[some (V.ref a),some (V.ref p),some (V.ref D),some (V.ref b),some (V.ref g),some (V.str (tx (Mk.dY 32 wd))),some (V.ref W),o7,o8,o9,o10]) ⟨aw.refl _,_,_,_,_,rfl⟩ ?_ ?_⟩
  ·rintro i σ G hi ⟨tG,o7,o8,o9,o10,rfl⟩ N hNx
   clear hN
   grind
   refine⟨a,ns,1+(i:Int),rfl,tG.seq hS4,by omega,?_⟩
   generalize ns.getD (1+(i:Int)).toNat 0=cc
   and_intros
   refine⟨.inl (by decide),_,rfl,?_⟩
   have y0:=rV (cc+17*(1+(i:Int)))
   generalize CH (cc+17*(1+(i:Int)))=y at y0
   cbv
   have hWG:=tG _ _ hW4
   grind
   refine⟨_,.l hWG,?_⟩
   rw[List.length_map]
   refine⟨by omega,?_⟩
   obtain⟨j,hj⟩:=gE (c4 y (show ((cy al ws r gs).length:Int)≠0 by omega))
   have hjl:j<(cy al ws r gs).length:=by have:=cH y (show 0<((cy al ws r gs).length:Int) by omega);omega
   rw[hj,hN]
   clear hN nn hj
   grind
   refine⟨_,.inl (.l hWG),fun pc H5 hpc t5 f5=>?_⟩
   cbv
   have hz:(cy al ws r gs)[j]?=some (cy al ws r gs)[j]:=List.getElem?_eq_getElem hjl
   have gz:=(T0.at hz).1
   have wz:=gz.wd ok
   have s65:=s64.trans (tG.trans t5)
   grind
   have hP5:Parts H5 p q al ws r:=⟨s65 _ _ hP6.1,s65 _ _ hP6.2⟩
   refine⟨_,_,.l hP5.1,bY (j:=0) rfl,_,_,.l (t5 _ _ hWG),bY (j:=j) (v:=V.str (tx (cy al ws r gs)[j])) (by rw[aJ,hz];rfl),⟨by decide,by decide⟩,al,_,_,rfl,ok.a3,ok.a26,ok.nd,wz.mem,wz.z3,wz.z8,fun c H7 t7 hF=>?_⟩
   have ij:ixN ((cy al ws r gs).map wdV).length (j:Int)=some j:=by
    unfold ixN
    rw[if_pos (by omega),if_pos (by rw[List.length_map];omega),da]
   refine⟨pc,_,_,j,rfl,rfl,t7 _ _ f5,ij,?_⟩
   cbv
   have tG8:aw G (upd H7 pc (.lst (((cy al ws r gs).map wdV).set j (V.str (tx c))))):=(t5.trans t7).bZ hpc
   have f8:(upd H7 pc (.lst (((cy al ws r gs).map wdV).set j (V.str (tx c))))) pc=some (.lst (((cy al ws r gs).set j c).map wdV)):=by rw[a8,List.map_set];rfl
   generalize upd H7 pc (.lst (((cy al ws r gs).map wdV).set j (V.str (tx c))))=H8' at tG8 f8
   have C:vm al (cy al ws r gs) ((cy al ws r gs).set j c):=by
    refine⟨eK,fun i' z c' h1 h2=>?_⟩
    by_cases e:j=i'
    ·subst e
     rw[mM hjl] at h2
     rw[hz] at h1
     cases h1;cases h2
     exact .inr hF
    ·rw[ko e,h1] at h2
     cases h2;exact .inl rfl
   have dC:dbL al ws r es ((cy al ws r gs).set j c)=[j]:=by
    rw[T0.db C]
    have gt:∀ i',((cy al ws r gs).set j c).getD i' []=if j=i' then c else (cy al ws r gs).getD i' []:=fun i'=>by
     rw[List.getD_eq_getElem?_getD,mL]
     by_cases e:j=i'
     ·rw[if_pos e,if_pos e,if_pos (by omega)];rfl
     ·rw[if_neg e,if_neg e,List.getD_eq_getElem?_getD]
    refine xm (jm _ List.nodup_range) (bW.mpr ⟨bN.mpr hjl,?_⟩) fun u hu=>?_
    ·rw[gt,if_pos rfl,List.getD_eq_getElem?_getD,hz,Option.getD_some,decide_eq_false (Jz ok gz hF)];rfl
    ·have:=(bW.mp hu).2
     rw[gt] at this
     by_cases e:j=u
     ·exact e.symm
     ·rw[if_neg e,aq rfl] at this;cases this
   have s68':=s64.trans (tG.trans tG8)
   and_intros
   refine dbt pc _ _ _ _ s68' f8 C fun F9 H9' hF9 t9 f9=>?_
   rw[dC] at f9
   refine⟨big (by decide),fun p10 H10' hp10 t10 f10=>?_⟩
   and_intros
   refine⟨_,_,.of (t10 _ _ f9),.of f10,Ej _,rfl,?_⟩
   rw[show lK ([j].map sP) [V.int j]=true from uF ([j].map sP) rfl,if_neg (by decide)]
   refine rdg pc _ _ _ _ (s68'.trans (t9.trans t10)) ((t9.trans t10) _ _ f8) C (by rw[dC];exact ak _) fun F11 H11 hF11 t11 f11=>?_
   refine⟨big (by decide),fun p12 H12 hp12 t12 f12=>?_⟩
   and_intros
   refine⟨_,_,.of (t12 _ _ f11),.of f12,rfl,rfl,?_⟩
   rw[eqt,if_neg (by decide)]
   exact hNx _ _ ⟨tG.trans (tG8.trans (t9.trans (t10.trans (t11.trans t12)))),_,_,_,_,rfl⟩
  rintro σ G ⟨tG,o7,o8,o9,o10,rfl⟩
  show nn _ _ _
  cbv
  and_intros
  exact k G
end
theorem all_mk {l:PySem.W.OpenLaw}{w:World}{K:PySem.W.Frag}{h:Heap}{mg:Str->Option Value}{fa:Addr}{k_Code k_Book k_CableError k_NoCode k_NoNumber k_NoWord k_NoEntry k_Twice k_TooMany k_NoReading k_TooGarbled k_cd k_tb:Addr}{f0 f1 f13 f39 f41 f57:Addr} (X:K.In h) (G:h.Ns mainGlobals mg) (hfa:mg "law"=some (.ref fa))
  {od0 an0 od1 an1 od13 an13 od39 an39 od41 an41 od57 an57:Option Addr}{sl0 sl1 sl13 sl39 sl41 sl57:Array (Option Value)}{oc0 kV0 dc0 pm0 cd0 ct0 oc1 kV1 dc1 pm1 cd1 ct1 oc13 kV13 dc13 pm13 cd13 ct13 oc39 kV39 dc39 pm39 cd39 ct39 oc41 kV41 dc41 pm41 ct41 oc57 kV57 dc57 pm57 cd57 ct57:Value}
  (y0:PySem.W.nsIn K mainGlobals "Code"=some (some (.ref k_Code)))
  (y1:PySem.W.nsIn K mainGlobals "Book"=some (some (.ref k_Book)))
  (y2:PySem.W.nsIn K mainGlobals "CableError"=some (some (.ref k_CableError)))
  (y3:PySem.W.nsIn K mainGlobals "NoCode"=some (some (.ref k_NoCode)))
  (y4:PySem.W.nsIn K mainGlobals "NoNumber"=some (some (.ref k_NoNumber)))
  (y5:PySem.W.nsIn K mainGlobals "NoWord"=some (some (.ref k_NoWord)))
  (y6:PySem.W.nsIn K mainGlobals "NoEntry"=some (some (.ref k_NoEntry)))
  (y7:PySem.W.nsIn K mainGlobals "Twice"=some (some (.ref k_Twice)))
  (y8:PySem.W.nsIn K mainGlobals "TooMany"=some (some (.ref k_TooMany)))
  (y9:PySem.W.nsIn K mainGlobals "NoReading"=some (some (.ref k_NoReading)))
  (y10:PySem.W.nsIn K mainGlobals "TooGarbled"=some (some (.ref k_TooGarbled)))
  (a0:PySem.W.findIn K (.ref k_NoReading) "__init__"=some (some (.ref f0)))
  (i0:PySem.W.isFn K (.ref f0)=true)
  (l0:K.lookup f0=some ⟨oc0,od0,.func (PySem.W.fnOf "__init__" "NoReading.__init__" (cK cX) (cA cX) (ar cX) .none kV0 dc0 pm0 an0 cd0 ct0),sl0⟩)
  (c0:PySem.W.codeIn K cd0 "NoReading.__init__"=true)
  (k0:PySem.W.keepIn K (.ref f0)=true)
  (a1:PySem.W.findIn K (.ref k_TooGarbled) "__init__"=some (some (.ref f1)))
  (i1:PySem.W.isFn K (.ref f1)=true)
  (l1:K.lookup f1=some ⟨oc1,od1,.func (PySem.W.fnOf "__init__" "TooGarbled.__init__" (cK cM) (cA cM) (ar cM) .none kV1 dc1 pm1 an1 cd1 ct1),sl1⟩)
  (c1:PySem.W.codeIn K cd1 "TooGarbled.__init__"=true)
  (k1:PySem.W.keepIn K (.ref f1)=true)
  (d2:dj K "is_whole" oa)
  (d3:dj K "common_divisor" gY)
  (d4:dj K "are_safe" nU)
  (d5:dj K "is_alphabet" jP)
  (d6:dj K "is_below" nX)
  (d7:dj K "are_weights" jN)
  (d8:dj K "is_word" qL)
  (d9:dj K "places_of" mj)
  (d10:dj K "spelled" qN)
  (d11:dj K "are_good" nT)
  (d12:dj K "is_good" qK)
  (a13:PySem.W.findIn K (.ref k_Code) "__init__"=some (some (.ref f13)))
  (i13:PySem.W.isFn K (.ref f13)=true)
  (l13:K.lookup f13=some ⟨oc13,od13,.func (PySem.W.fnOf "__init__" "Code.__init__" (cK gi) (cA gi) (ar gi) .none kV13 dc13 pm13 an13 cd13 ct13),sl13⟩)
  (c13:PySem.W.codeIn K cd13 "Code.__init__"=true)
  (k13:PySem.W.keepIn K (.ref f13)=true)
  (d14:oA K k_Code "alphabet" "Code.alphabet" iI)
  (d15:oA K k_Code "weights" "Code.weights" jf)
  (d16:oA K k_Code "many" "Code.many" lY)
  (d17:oA K k_Code "word" "Code.word" lZ)
  (d18:oA K k_Code "number" "Code.number" jL)
  (d19:oA K k_Code "has_good" "Code.has_good" iJ)
  (d20:dj K "by_exchange" jO)
  (d21:dj K "by_swap" qJ)
  (d22:dj K "faulty" tL)
  (d23:dj K "nearest" qM)
  (d24:dj K "with_each" ml)
  (d25:dj K "are_letters" jM)
  (d26:dj K "are_words" ma)
  (d27:dj K "can_stand" md)
  (d28:dj K "said" zQ)
  (d29:dj K "check_number" jh)
  (d30:dj K "check_of" nV)
  (d31:dj K "telegram" om)
  (d32:dj K "is_sound" nZ)
  (d33:dj K "are_words_of" jg)
  (d34:dj K "doubtful" nW)
  (d35:dj K "may_stand" mi)
  (d36:dj K "text_of" qO)
  (d37:dj K "readings" oj)
  (d38:dj K "is_entry" nY)
  (a39:PySem.W.findIn K (.ref k_Book) "__init__"=some (some (.ref f39)))
  (i39:PySem.W.isFn K (.ref f39)=true)
  (l39:K.lookup f39=some ⟨oc39,od39,.func (PySem.W.fnOf "__init__" "Book.__init__" (cK gh) (cA gh) (ar gh) .none kV39 dc39 pm39 an39 cd39 ct39),sl39⟩)
  (c39:PySem.W.codeIn K cd39 "Book.__init__"=true)
  (k39:PySem.W.keepIn K (.ref f39)=true)
  (d40:oA K k_Book "code" "Book.code" lX)
  (a41:PySem.W.findIn K (.ref k_Book) "put"=some (some (.ref f41)))
  (i41:PySem.W.isFn K (.ref f41)=true)
  {dt41:Addr}{tc41:Value}{td41:Option Addr}{tn41:Nat}{ts41:Array (Option Value)}
  (l41:K.lookup f41=some ⟨oc41,od41,.func (PySem.W.fnOf "put" "Book.put" (cK cR) (cA cR) (ar cR) (.ref dt41) kV41 dc41 pm41 an41 (.ref k_cd) ct41),sl41⟩)
  (t41:K.lookup dt41=some ⟨tc41,td41,.seq #[.none] tn41,ts41⟩)
  (c41:PySem.W.codeIn K (.ref k_cd) "Book.put"=true)
  (k41:PySem.W.keepIn K (.ref f41)=true)
  (d42:oA K k_Book "choose" "Book.choose" jK)
  (d43:oA K k_Book "least_free" "Book.least_free" gx)
  (d44:oA K k_Book "entry" "Book.entry" kZ)
  (d45:dj K "_law_cell_at" jQ)
  (d46:dj K "_law_mixed" mh)
  (d47:dj K "_law_apart" me)
  (d48:dj K "_law_weights" jS)
  (d49:dj K "_law_code_parts" gZ)
  (d50:dj K "_law_many" oh)
  (d51:dj K "_law_entries" jR)
  (d52:dj K "_law_book" og)
  (d53:dj K "_law_said" oi)
  (d54:dj K "_law_group" mf)
  (d55:dj K "_law_groups" lh)
  (d56:dj K "_law_faulty" lg)
  (a57:PySem.W.nsIn K mainGlobals "law"=some (some (.ref f57)))
  (l57:K.lookup f57=some ⟨oc57,od57,.func (PySem.W.fnOf "law" "law" (cK oX) (cA oX) (ar oX) .none kV57 dc57 pm57 an57 cd57 ct57),sl57⟩)
  (c57:PySem.W.codeIn K cd57 "law"=true)
  (k57:PySem.W.keepIn K (.ref f57)=true)
  (y93:PySem.W.plainGet K k_Code Str.empty=true)
  (y94:PySem.W.hasDictIn K k_Code=true)
  (y95:PySem.W.plainOver K k_Code=true)
  (y96:PySem.W.findIn K (.ref k_Code) "__setattr__"=some (some (.builtin "object.__setattr__")))
  (y97:PySem.W.makesIn K k_Code=true)
  (y98:PySem.W.keepIn K (.ref k_Code)=true)
  (y99:PySem.W.findIn K (.ref k_Code) "letters"=some none)
  (y100:PySem.W.findIn K (.ref k_Code) "factors"=some none)
  (y101:PySem.W.findIn K (.ref k_Code) "remainder"=some none)
  (y102:PySem.W.plainGet K k_Book Str.empty=true)
  (y103:PySem.W.hasDictIn K k_Book=true)
  (y104:PySem.W.plainOver K k_Book=true)
  (y105:PySem.W.findIn K (.ref k_Book) "__setattr__"=some (some (.builtin "object.__setattr__")))
  (y106:PySem.W.makesIn K k_Book=true)
  (y107:PySem.W.keepIn K (.ref k_Book)=true)
  (y108:PySem.W.findIn K (.ref k_Book) "basis"=some none)
  (y109:PySem.W.findIn K (.ref k_Book) "by_number"=some none)
  (y110:PySem.W.findIn K (.ref k_Book) "by_entry"=some none)
  (y111:PySem.W.excIn K k_NoCode [.type "ValueError",.type "Exception",.type "BaseException",.type "object"] "ValueError.__new__"=true)
  (y112:PySem.W.excIn K k_NoNumber [.type "ValueError",.type "Exception",.type "BaseException",.type "object"] "ValueError.__new__"=true)
  (y113:PySem.W.excIn K k_NoWord [.type "ValueError",.type "Exception",.type "BaseException",.type "object"] "ValueError.__new__"=true)
  (y114:PySem.W.excIn K k_NoEntry [.type "ValueError",.type "Exception",.type "BaseException",.type "object"] "ValueError.__new__"=true)
  (y115:PySem.W.excIn K k_Twice [.type "ValueError",.type "Exception",.type "BaseException",.type "object"] "ValueError.__new__"=true)
  (y116:PySem.W.excIn K k_TooMany [.type "ValueError",.type "Exception",.type "BaseException",.type "object"] "ValueError.__new__"=true)
  (y117:PySem.W.specialIn K (.ref k_CableError) "__getattribute__"=some (some (.builtin "type.__getattribute__")))
  (y118:PySem.W.readsIn K k_CableError (.type "type")=true)
  (y119:PySem.W.findCls K (.ref k_CableError) (.type "type") "__init__"=some (.val (.builtin "ValueError.__init__")))
  {nm_NoReading nq_NoReading:Str}{nN_NoReading:Addr}{nb_NoReading nr_NoReading nu_NoReading:List Value}{nh_NoReading na_NoReading:Bool}{ns_NoReading:List Str}{nc_NoReading:Option Bool}{nd_NoReading:Option Addr}{n0_NoReading n1_NoReading n2_NoReading n3_NoReading n5_NoReading:Option Value}
  (y120:K.lookup k_NoReading=some (excClassObj nm_NoReading nq_NoReading k_NoReading nN_NoReading nb_NoReading nr_NoReading nh_NoReading ns_NoReading nu_NoReading na_NoReading nc_NoReading nd_NoReading n0_NoReading n1_NoReading n2_NoReading n3_NoReading n5_NoReading "ValueError.__new__"))
  (y121:PySem.W.nsOkIn K nN_NoReading=true)
  (y122:PySem.W.nsIn K nN_NoReading "__init__"=some (some (.ref f0)))
  (y123:PySem.W.tailIn K GP nr_NoReading=true)
  (y124:PySem.W.keepIn K (.ref k_NoReading)=true)
  (y125:PySem.W.findIn K (.ref k_NoReading) "__setattr__"=some (some (.builtin "object.__setattr__")))
  (y126:((PySem.W.clsIn K k_NoReading).any fun cd=>nI cd.mro)=true)
  (y127:PySem.W.takerIn K k_NoReading "at"=some none)
  (y128:PySem.W.hasDictIn K k_NoReading=true)
  (y129:PySem.W.findIn K (.ref k_NoReading) "at"=some none)
  {nm_TooGarbled nq_TooGarbled:Str}{nN_TooGarbled:Addr}{nb_TooGarbled nr_TooGarbled nu_TooGarbled:List Value}{nh_TooGarbled na_TooGarbled:Bool}{ns_TooGarbled:List Str}{nc_TooGarbled:Option Bool}{nd_TooGarbled:Option Addr}{n0_TooGarbled n1_TooGarbled n2_TooGarbled n3_TooGarbled n5_TooGarbled:Option Value}
  (y130:K.lookup k_TooGarbled=some (excClassObj nm_TooGarbled nq_TooGarbled k_TooGarbled nN_TooGarbled nb_TooGarbled nr_TooGarbled nh_TooGarbled ns_TooGarbled nu_TooGarbled na_TooGarbled nc_TooGarbled nd_TooGarbled n0_TooGarbled n1_TooGarbled n2_TooGarbled n3_TooGarbled n5_TooGarbled "ValueError.__new__"))
  (y131:PySem.W.nsOkIn K nN_TooGarbled=true)
  (y132:PySem.W.nsIn K nN_TooGarbled "__init__"=some (some (.ref f1)))
  (y133:PySem.W.tailIn K GP nr_TooGarbled=true)
  (y134:PySem.W.keepIn K (.ref k_TooGarbled)=true)
  (y135:PySem.W.findIn K (.ref k_TooGarbled) "__setattr__"=some (some (.builtin "object.__setattr__")))
  (y136:((PySem.W.clsIn K k_TooGarbled).any fun cd=>nI cd.mro)=true)
  (y137:PySem.W.takerIn K k_TooGarbled "places"=some none)
  (y138:PySem.W.hasDictIn K k_TooGarbled=true)
  (y139:PySem.W.findIn K (.ref k_TooGarbled) "places"=some none)
  (y140:PySem.W.exmOne K (.ref k_NoReading) (.ref k_NoReading)=some true)
  (tab:PySem.W.codeHdIn K k_cd k_tb=true)
  (err:Ed K k_CableError [k_NoCode,k_NoNumber,k_NoWord,k_NoEntry,k_Twice,k_TooMany,k_NoReading,k_TooGarbled]=true)
  (ndx:ndB [k_NoCode,k_NoNumber,k_NoWord,k_NoEntry,k_Twice,k_TooMany,k_NoReading,k_TooGarbled]=true)
  {u_SMALL_LETTERS:Value}
  (y144:PySem.W.nsIn K mainGlobals "SMALL_LETTERS"=some (some u_SMALL_LETTERS))
  (y145:RelV (.str "abcdefghijklmnopqrstuvwxyz") u_SMALL_LETTERS)
  {u_LONGEST_WORD:Value}
  (y146:PySem.W.nsIn K mainGlobals "LONGEST_WORD"=some (some u_LONGEST_WORD))
  (y147:RelV (.int 20) u_LONGEST_WORD)
  {u_MOST_WORDS:Value}
  (y148:PySem.W.nsIn K mainGlobals "MOST_WORDS"=some (some u_MOST_WORDS))
  (y149:RelV (.int 60) u_MOST_WORDS)
  {u_FEWEST_CAME:Value}
  (y150:PySem.W.nsIn K mainGlobals "FEWEST_CAME"=some (some u_FEWEST_CAME))
  (y151:RelV (.int 2) u_FEWEST_CAME)
  {u_MOST_CAME:Value}
  (y152:PySem.W.nsIn K mainGlobals "MOST_CAME"=some (some u_MOST_CAME))
  (y153:RelV (.int 1400) u_MOST_CAME)
  {u_MOST_DOUBTFUL:Value}
  (y154:PySem.W.nsIn K mainGlobals "MOST_DOUBTFUL"=some (some u_MOST_DOUBTFUL))
  (y155:RelV (.int 2) u_MOST_DOUBTFUL)
  {u_MOST_ENTRIES:Value}
  (y156:PySem.W.nsIn K mainGlobals "MOST_ENTRIES"=some (some u_MOST_ENTRIES))
  (y157:RelV (.int 300) u_MOST_ENTRIES)
  {u_MOST_PHRASE_WORDS:Value}
  (y158:PySem.W.nsIn K mainGlobals "MOST_PHRASE_WORDS"=some (some u_MOST_PHRASE_WORDS))
  (y159:RelV (.int 6) u_MOST_PHRASE_WORDS)
  {u_MOST_PART_LETTERS:Value}
  (y160:PySem.W.nsIn K mainGlobals "MOST_PART_LETTERS"=some (some u_MOST_PART_LETTERS))
  (y161:RelV (.int 6) u_MOST_PART_LETTERS)
  (y162:PySem.W.nsIn K mainGlobals "list"=some none)
  (y163:PySem.W.nsIn K mainGlobals "isinstance"=some none)
  (y164:PySem.W.nsIn K mainGlobals "bool"=some none)
  (y165:PySem.W.nsIn K mainGlobals "int"=some none)
  (y166:PySem.W.nsIn K mainGlobals "abs"=some none)
  (y167:PySem.W.nsIn K mainGlobals "all"=some none)
  (y168:PySem.W.nsIn K mainGlobals "zip"=some none)
  (y169:PySem.W.nsIn K mainGlobals "len"=some none)
  (y170:PySem.W.nsIn K mainGlobals "set"=some none)
  (y171:PySem.W.nsIn K mainGlobals "str"=some none)
  (y172:PySem.W.nsIn K mainGlobals "sum"=some none)
  (y173:PySem.W.nsIn K mainGlobals "range"=some none)
  (y174:PySem.W.nsIn K mainGlobals "enumerate"=some none)
  (y175:PySem.W.nsIn K mainGlobals "sorted"=some none)
  (y176:PySem.W.nsIn K mainGlobals "tuple"=some none)
  (y177:PySem.W.nsIn K mainGlobals "min"=some none)
  : (∃ c,PySem.W.codeHdIn K c k_tb=true)/\∃ fd:FuncData,(∀ (s:Shared) (v:Value),BindsTo s fd ⟨[v],[]⟩ [("_law_script",v)])/\∀ base:Heap,K.In base->base.Ns mainGlobals mg->bJ l.prog w K mg base (CX1 l.prog w) 8 fa fd ["_law_script"] (zY K k_tb):=by
 have e:=hfa.symm.trans (bX X G a57)
 cases e
 have T:Bl mg:=⟨cU X G y162,cU X G y163,cU X G y164,cU X G y165,cU X G y166,cU X G y167,cU X G y168,cU X G y169,cU X G y170,cU X G y171,cU X G y172,cU X G y173,cU X G y174,cU X G y175,cU X G y176,cU X G y177⟩
 have AF:AdF K mg ⟨k_Code,k_Book,k_CableError,k_NoCode,k_NoNumber,k_NoWord,k_NoEntry,k_Twice,k_TooMany,k_NoReading,k_TooGarbled,k_cd,k_tb,()⟩:=⟨bX X G y0,bX X G y1,bX X G y2,bX X G y3,bX X G y4,bX X G y5,bX X G y6,bX X G y7,bX X G y8,bX X G y9,bX X G y10,⟨y93,y94,y95,y96⟩,y99,y100,y101,⟨y102,y103,y104,y105⟩,y108,y109,y110,y111,y112,y113,y114,y115,y116,⟨y117,y118,y119⟩,⟨_,⟨⟨_,_,_,_,_,_,_,_,_,_,_,_,_,_,_,_,y120,y121,y122,y123⟩,i0,y124⟩⟩,⟨y125,y126,y127,y128⟩,y129,⟨_,⟨⟨_,_,_,_,_,_,_,_,_,_,_,_,_,_,_,_,y130,y131,y132,y133⟩,i1,y134⟩⟩,⟨y135,y136,y137,y138⟩,y139,y140,tab,err,ndx,⟨_,bX X G y144,y145⟩,⟨_,bX X G y146,y147⟩,⟨_,bX X G y148,y149⟩,⟨_,bX X G y150,y151⟩,⟨_,bX X G y152,y153⟩,⟨_,bX X G y154,y155⟩,⟨_,bX X G y156,y157⟩,⟨_,bX X G y158,y159⟩,⟨_,bX X G y160,y161⟩⟩
 have F0:=nJ (st:=cX) l0 c0 k0
 have F1:=nJ (st:=cM) l1 c1 k1
 have F13:=nJ (st:=gi) l13 c13 k13
 have F39:=nJ (st:=gh) l39 c39 k39
 have F41:=Ha (st:=cR) l41 c41 k41
 have F57:=nJ (st:=oX) l57 c57 k57
 refine⟨⟨_,tab⟩,PySem.W.fnOf "law" "law" (cK oX) (cA oX) (ar oX) .none kV57 dc57 pm57 an57 cd57 ct57,fun s v=>.of_eq rfl,fun base _ _=>?_⟩
 have Z {k:Nat}{x:Str}{st:Stmt}{ps:List Str}{sp:Sp}:=@dj.fnc l.prog w K h base mg k x st ps sp X G
 have Y {k:Nat}{m q:Str}{st:Stmt}{C:Addr}{ps:List Str}{sp:Sp}:=@oA.mtd l.prog w K base mg k m q st C ps sp
 have b0:=F0.binds (ps:=["self","at"]) fun _ _ _ _ _ _=>L2.cJ fun _ _=>rfl
 have K_NoReading:Dw l.prog w K mg base (CX1 l.prog w) k_NoReading "NoReading" 1 ["self","at"] (eS (⟨k_Code,k_Book,k_CableError,k_NoCode,k_NoNumber,k_NoWord,k_NoEntry,k_Twice,k_TooMany,k_NoReading,k_TooGarbled,k_cd,k_tb,()⟩:Ads)):=⟨⟨f0,_,oP F0 T AF ,⟨⟨_,_,_,_,_,_,_,_,_,_,_,_,_,_,_,_,y120,y121,y122,y123⟩,i0,y124⟩,b0⟩,AF.g_NoReading⟩
 have b1:=F1.binds (ps:=["self","places"]) fun _ _ _ _ _ _=>L2.cJ fun _ _=>rfl
 have K_TooGarbled:Dw l.prog w K mg base (CX1 l.prog w) k_TooGarbled "TooGarbled" 1 ["self","places"] (eF (⟨k_Code,k_Book,k_CableError,k_NoCode,k_NoNumber,k_NoWord,k_NoEntry,k_Twice,k_TooMany,k_NoReading,k_TooGarbled,k_cd,k_tb,()⟩:Ads)):=⟨⟨f1,_,nO F1 T AF ,⟨⟨_,_,_,_,_,_,_,_,_,_,_,_,_,_,_,_,y130,y131,y132,y133⟩,i1,y134⟩,b1⟩,AF.g_TooGarbled⟩
 have C_is_whole:=Z d2 (fun _ _ F=>xD F T AF ) fun _ _ _ _ _ _=>L2.bind1 fun _=>rfl
 have C_common_divisor:=Z d3 (fun _ _ F=>oQ F T AF ) fun _ _ _ _ _ _=>L2.cJ fun _ _=>rfl
 have C_is_alphabet:=Z d5 (fun _ _ F=>sX F T AF ) fun _ _ _ _ _ _=>L2.bind1 fun _=>rfl
 have C_is_word:=Z d8 (fun _ _ F=>z6 F T AF ) fun _ _ _ _ _ _=>L2.oF fun _ _ _=>rfl
 have C_places_of:=Z d9 (fun _ _ F=>vT F T AF ) fun _ _ _ _ _ _=>L2.cJ fun _ _=>rfl
 have C_spelled:=Z d10 (fun _ _ F=>z9 F T AF ) fun _ _ _ _ _ _=>L2.cJ fun _ _=>rfl
 have C_are_good:=Z d11 (fun _ _ F=>xu F T AF ) fun _ _ _ _ _ _=>L2.Ar fun _ _ _ _=>rfl
 have M_Code_alphabet:=Y AF.c_Code d14 (fun _ _ F=>qC F T AF ) fun _ _ _ _ _ _=>L2.bind1 fun _=>rfl
 have M_Code_weights:=Y AF.c_Code d15 (fun _ _ F=>rJ F T AF ) fun _ _ _ _ _ _=>L2.bind1 fun _=>rfl
 have M_Code_many:=Y AF.c_Code d16 (fun _ _ F=>vL F T AF ) fun _ _ _ _ _ _=>L2.bind1 fun _=>rfl
 have C_by_exchange:=Z d20 (fun _ _ F=>sW F T AF ) fun _ _ _ _ _ _=>L2.cJ fun _ _=>rfl
 have C_by_swap:=Z d21 (fun _ _ F=>zz F T AF ) fun _ _ _ _ _ _=>L2.bind1 fun _=>rfl
 have C_with_each:=Z d24 (fun _ _ F=>vU F T AF ) fun _ _ _ _ _ _=>L2.oF fun _ _ _=>rfl
 have C_are_letters:=Z d25 (fun _ _ F=>sU F T AF ) fun _ _ _ _ _ _=>L2.cJ fun _ _=>rfl
 have C_can_stand:=Z d27 (fun _ _ F=>vO F T AF ) fun _ _ _ _ _ _=>L2.oF fun _ _ _=>rfl
 have b39:=F39.binds (ps:=["self","code"]) fun _ _ _ _ _ _=>L2.cJ fun _ _=>rfl
 have K_Book:Mak l.prog w K mg base (CX1 l.prog w) k_Book "Book" 1 ["self","code"] (lq (⟨k_Code,k_Book,k_CableError,k_NoCode,k_NoNumber,k_NoWord,k_NoEntry,k_Twice,k_TooMany,k_NoReading,k_TooGarbled,k_cd,k_tb,()⟩:Ads)):=⟨⟨f39,_,vJ F39 T AF ,⟨y106,a39,i39,y107⟩,b39⟩,AF.g_Book⟩
 have M_Book_code:=Y AF.c_Book d40 (fun _ _ F=>vI F T AF ) fun _ _ _ _ _ _=>L2.bind1 fun _=>rfl
 have C_law_cell_at:=Z d45 (fun _ _ F=>sY F T AF ) fun _ _ _ _ _ _=>L2.cJ fun _ _=>rfl
 have C_law_mixed:=Z d46 (fun _ _ F=>vR F T AF ) fun _ _ _ _ _ _=>L2.bind1 fun _=>rfl
 have C_law_apart:=Z d47 (fun _ _ F=>vP F T AF ) fun _ _ _ _ _ _=>L2.cJ fun _ _=>rfl
 have C_law_many:=Z d50 (fun _ _ F=>xF F T AF ) fun _ _ _ _ _ _=>L2.bind1 fun _=>rfl
 have C_law_said:=Z d53 (fun _ _ F=>xG F T AF ) fun _ _ _ _ _ _=>L2.cJ fun _ _=>rfl
 have C_law_group:=Z d54 (fun _ _ F=>vQ F T AF ) fun _ _ _ _ _ _=>L2.oF fun _ _ _=>rfl
 have C_law_faulty:=Z d56 (fun _ _ F=>uq F T AF ) fun _ _ _ _ _ _=>L2.oF fun _ _ _=>rfl
 have C_are_safe:=Z d4 (fun _ _ F=>xv F T AF C_common_divisor) fun _ _ _ _ _ _=>L2.cJ fun _ _=>rfl
 have C_is_below:=Z d6 (fun _ _ F=>xA F T AF C_is_whole) fun _ _ _ _ _ _=>L2.cJ fun _ _=>rfl
 have C_is_good:=Z d12 (fun _ _ F=>z5 F T AF C_are_good C_places_of C_is_word) fun _ _ _ _ _ _=>L2.Ar fun _ _ _ _=>rfl
 have C_faulty:=Z d22 (fun _ _ F=>CM F T AF C_by_exchange C_by_swap C_spelled C_places_of C_is_word M_Code_weights M_Code_alphabet) fun _ _ _ _ _ _=>L2.cJ fun _ _=>rfl
 have C_are_words:=Z d26 (fun _ _ F=>vN F T AF C_are_letters) fun _ _ _ _ _ _=>L2.cJ fun _ _=>rfl
 have C_check_number:=Z d29 (fun _ _ F=>rL F T AF M_Code_many) fun _ _ _ _ _ _=>L2.cJ fun _ _=>rfl
 have C_are_words_of:=Z d33 (fun _ _ F=>rK F T AF C_is_word M_Code_alphabet M_Code_weights) fun _ _ _ _ _ _=>L2.cJ fun _ _=>rfl
 have M_Book_least_free:=Y AF.c_Book d43 (fun _ _ F=>nN F T AF M_Code_many) fun _ _ _ _ _ _=>L2.cJ fun _ _=>rfl
 have C_law_weights:=Z d48 (fun _ _ F=>tf F T AF C_law_apart) fun _ _ _ _ _ _=>L2.oF fun _ _ _=>rfl
 have C_law_entries:=Z d51 (fun _ _ F=>sZ F T AF C_law_many C_law_mixed C_law_cell_at) fun _ _ _ _ _ _=>L2.cJ fun _ _=>rfl
 have C_law_groups:=Z d55 (fun _ _ F=>ur F T AF C_law_group C_law_mixed) fun _ _ _ _ _ _=>L2.cJ fun _ _=>rfl
 have C_are_weights:=Z d7 (fun _ _ F=>sV F T AF C_is_below) fun _ _ _ _ _ _=>L2.cJ fun _ _=>rfl
 have M_Code_word:=Y AF.c_Code d17 (fun _ _ F=>vM F T AF C_spelled C_are_good C_is_below M_Code_many) fun _ _ _ _ _ _=>L2.cJ fun _ _=>rfl
 have M_Code_has_good:=Y AF.c_Code d19 (fun _ _ F=>qD F T AF C_is_good) fun _ _ _ _ _ _=>L2.cJ fun _ _=>rfl
 have C_is_entry:=Z d38 (fun _ _ F=>xB F T AF C_are_letters C_are_words) fun _ _ _ _ _ _=>L2.bind1 fun _=>rfl
 have M_Book_entry:=Y AF.c_Book d44 (fun _ _ F=>uo F T AF C_is_below M_Code_many) fun _ _ _ _ _ _=>L2.cJ fun _ _=>rfl
 have C_law_code_parts:=Z d49 (fun _ _ F=>oR F T AF C_law_weights C_law_mixed C_law_cell_at) fun _ _ _ _ _ _=>L2.bind1 fun _=>rfl
 have b13:=F13.binds (ps:=["self","alphabet","weights","rest"]) fun _ _ _ _ _ _=>L2.Ar fun _ _ _ _=>rfl
 have K_Code:Mak l.prog w K mg base (CX1 l.prog w) k_Code "Code" 4 ["self","alphabet","weights","rest"] (iT (⟨k_Code,k_Book,k_CableError,k_NoCode,k_NoNumber,k_NoWord,k_NoEntry,k_Twice,k_TooMany,k_NoReading,k_TooGarbled,k_cd,k_tb,()⟩:Ads)):=⟨⟨f13,_,vK F13 T AF C_are_safe C_is_below C_are_weights C_is_alphabet,⟨y97,a13,i13,y98⟩,b13⟩,AF.g_Code⟩
 have M_Code_number:=Y AF.c_Code d18 (fun _ _ F=>sT F T AF C_places_of M_Code_has_good) fun _ _ _ _ _ _=>L2.cJ fun _ _=>rfl
 have C_nearest:=Z d23 (fun _ _ F=>z7 F T AF C_faulty M_Code_has_good) fun _ _ _ _ _ _=>L2.cJ fun _ _=>rfl
 have C_said:=Z d28 (fun _ _ F=>Hl F T AF C_can_stand M_Book_entry K_NoReading) fun _ _ _ _ _ _=>L2.cJ fun _ _=>rfl
 have C_check_of:=Z d30 (fun _ _ F=>xx F T AF C_check_number M_Code_word) fun _ _ _ _ _ _=>L2.cJ fun _ _=>rfl
 have M_Book_choose:=Y AF.c_Book d42 (fun _ _ F=>sS F T AF C_is_below C_is_entry M_Book_least_free M_Code_many) fun _ _ _ _ _ _=>L2.Ar fun _ _ _ _=>rfl
 have C_telegram:=Z d31 (fun _ _ F=>xI F T AF C_check_of C_said M_Code_word M_Book_code) fun _ _ _ _ _ _=>L2.cJ fun _ _=>rfl
 have C_is_sound:=Z d32 (fun _ _ F=>xC F T AF M_Book_entry M_Code_number M_Code_has_good M_Book_code) fun _ _ _ _ _ _=>L2.oF fun _ _ _=>rfl
 have C_text_of:=Z d36 (fun _ _ F=>zA F T AF C_said C_check_number M_Book_code) fun _ _ _ _ _ _=>L2.cJ fun _ _=>rfl
 have b41:Binds K (PySem.W.fnOf "put" "Book.put" (cK cR) (cA cR) (ar cR) (.ref dt41) kV41 dc41 pm41 an41 (.ref k_cd) ct41) ["self","entry","number"] []:=fun s us hK hl=>by rcases us with _ | ⟨_,_ | ⟨_,_ | ⟨_,_ | _⟩⟩⟩<;>first | (simp at hl;done) | exact .of_defaults rfl (hK _ _ t41) rfl rfl rfl
 have bd41:Binds K (PySem.W.fnOf "put" "Book.put" (cK cR) (cA cR) (ar cR) (.ref dt41) kV41 dc41 pm41 an41 (.ref k_cd) ct41) ["self","entry","number"] [.none]:=fun s us hK hl=>by rcases us with _ | ⟨_,_ | ⟨_,_ | _⟩⟩<;>first | (simp at hl;done) | exact .of_defaults rfl (hK _ _ t41) rfl rfl rfl
 have M_Book_put:Mtd l.prog w K mg base (CX1 l.prog w) k_Book "put" 5 ["self","entry","number"] (jC (⟨k_Code,k_Book,k_CableError,k_NoCode,k_NoNumber,k_NoWord,k_NoEntry,k_Twice,k_TooMany,k_NoReading,k_TooGarbled,k_cd,k_tb,()⟩:Ads)):=⟨⟨f41,_,ra F41 T AF rfl M_Book_choose,⟨a41,i41,k41⟩,b41⟩,AF.c_Book⟩
 have D_Book_put:LK l.prog w K mg base (CX1 l.prog w) k_Book "put" 5 ["self","entry","number"] (jC (⟨k_Code,k_Book,k_CableError,k_NoCode,k_NoNumber,k_NoWord,k_NoEntry,k_Twice,k_TooMany,k_NoReading,k_TooGarbled,k_cd,k_tb,()⟩:Ads)):=⟨⟨f41,_,ra F41 T AF rfl M_Book_choose,⟨a41,i41,k41⟩,bd41⟩,AF.c_Book⟩
 have C_doubtful:=Z d34 (fun _ _ F=>xy F T AF C_is_sound C_are_words_of M_Book_code) fun _ _ _ _ _ _=>L2.cJ fun _ _=>rfl
 have C_may_stand:=Z d35 (fun _ _ F=>vS F T AF C_nearest C_is_sound M_Code_number M_Book_code) fun _ _ _ _ _ _=>L2.oF fun _ _ _=>rfl
 have C_law_book:=Z d52 (fun _ _ F=>xE F T AF M_Book_put K_Book) fun _ _ _ _ _ _=>L2.cJ fun _ _=>rfl
 have C_readings:=Z d37 (fun _ _ F=>xH F T AF C_text_of C_with_each C_may_stand C_doubtful M_Code_has_good M_Code_number M_Book_code K_TooGarbled) fun _ _ _ _ _ _=>L2.cJ fun _ _=>rfl
 exact JO F57 T AF C_readings C_doubtful C_law_faulty C_law_mixed C_law_cell_at C_telegram C_law_said C_law_groups C_law_book C_law_entries C_law_code_parts K_Code
end Kb
open PySem PySem.W PyProof.Rows
local macro_rules | `(tactic| ac_rfl) => `(tactic| first | (refine' L2.GK ?a ?l ?c ?k; (case a => k_is); (case l => k_is); (case c => k_is); (case k => k_is)) | (refine' L2.GL ?a ?i ?l ?c ?k; (case a => k_is); (case i => k_is); (case l => k_is); (case c => k_is); (case k => k_is)))
set_option maxRecDepth 100000 in
set_option maxHeartbeats 0 in
theorem Hk.LG:Hk.top.c:=by
 delta Hk.top
 dsimp only
 k_fill
 refine L2.FX (l:=PySem.Challenge.rw_cablehouse_k24_whole_one_fault_is_read) (n:=63) (k:=8) (x:="_law_script") (CX:=fun w=>L2.CX1 PySem.Challenge.rw_cablehouse_k24_whole_one_fault_is_read.prog w) (sp:=fun w=>Kb.zY _ _) Kb.uk rfl (by decide) rfl ⟨rfl,by decide,by decide⟩ (fun w h Y=>⟨PySem.W.km_in_of Y,PySem.W.km_tabs_of Y _ (List.Mem.head _)⟩) ?F (fun w=>by kernel_rfl) (fun _ _ a ns hl hS hT=>⟨a,ns,rfl,hS,hl,hT,fun _=>rfl⟩) fun _ _ _ _ _ z=>L2.uD z
 case F =>
  intro w mg fa h KX G hmg
  refine' Kb.all_mk KX G hmg ?y0 ?y1 ?y2 ?y3 ?y4 ?y5 ?y6 ?y7 ?y8 ?y9 ?y10 ?a0 ?i0 ?l0 ?c0 ?k0 ?a1 ?i1 ?l1 ?c1 ?k1 ?d2 ?d3 ?d4 ?d5 ?d6 ?d7 ?d8 ?d9 ?d10 ?d11 ?d12 ?a13 ?i13 ?l13 ?c13 ?k13 ?d14 ?d15 ?d16 ?d17 ?d18 ?d19 ?d20 ?d21 ?d22 ?d23 ?d24 ?d25 ?d26 ?d27 ?d28 ?d29 ?d30 ?d31 ?d32 ?d33 ?d34 ?d35 ?d36 ?d37 ?d38 ?a39 ?i39 ?l39 ?c39 ?k39 ?d40 ?a41 ?i41 ?l41 ?t41 ?c41 ?k41 ?d42 ?d43 ?d44 ?d45 ?d46 ?d47 ?d48 ?d49 ?d50 ?d51 ?d52 ?d53 ?d54 ?d55 ?d56 ?a57 ?l57 ?c57 ?k57 ?y93 ?y94 ?y95 ?y96 ?y97 ?y98 ?y99 ?y100 ?y101 ?y102 ?y103 ?y104 ?y105 ?y106 ?y107 ?y108 ?y109 ?y110 ?y111 ?y112 ?y113 ?y114 ?y115 ?y116 ?y117 ?y118 ?y119 ?y120 ?y121 ?y122 ?y123 ?y124 ?y125 ?y126 ?y127 ?y128 ?y129 ?y130 ?y131 ?y132 ?y133 ?y134 ?y135 ?y136 ?y137 ?y138 ?y139 ?y140 ?tab ?err ?ndx ?y144 ?y145 ?y146 ?y147 ?y148 ?y149 ?y150 ?y151 ?y152 ?y153 ?y154 ?y155 ?y156 ?y157 ?y158 ?y159 ?y160 ?y161 ?y162 ?y163 ?y164 ?y165 ?y166 ?y167 ?y168 ?y169 ?y170 ?y171 ?y172 ?y173 ?y174 ?y175 ?y176 ?y177
  (case y0 | y1 | y2 | y3 | y4 | y5 | y6 | y7 | y8 | y9 | y10 | a0 | i0 | l0 | c0 | k0 | a1 | i1 | l1 | c1 | k1=>k_is)
  (case d2 | d3 | d4 | d5 | d6 | d7 | d8 | d9 | d10 | d11 | d12=>ac_rfl)
  (case a13 | i13 | l13 | c13 | k13=>k_is)
  (case d14 | d15 | d16 | d17 | d18 | d19 | d20 | d21 | d22 | d23 | d24 | d25 | d26 | d27 | d28 | d29 | d30 | d31 | d32 | d33 | d34 | d35 | d36 | d37 | d38=>ac_rfl)
  (case a39 | i39 | l39 | c39 | k39=>k_is)
  (case d40=>ac_rfl)
  (case a41 | i41 | l41 | t41 | c41 | k41=>k_is)
  (case d42 | d43 | d44 | d45 | d46 | d47 | d48 | d49 | d50 | d51 | d52 | d53 | d54 | d55 | d56=>ac_rfl)
  (case a57 | l57 | c57 | k57 | y93 | y94 | y95 | y96 | y97 | y98 | y99 | y100 | y101 | y102 | y103 | y104 | y105 | y106 | y107 | y108 | y109 | y110=>k_is)
  (case y111 | y112 | y113 | y114 | y115 | y116 | y117 | y118 | y119=>kernel_rfl)
  (case y120=>k_is)
  (case y121 | y122 | y123 | y124 | y125 | y126 | y127 | y128 | y129=>kernel_rfl)
  (case y130=>k_is)
  (case y131 | y132 | y133 | y134 | y135 | y136 | y137 | y138 | y139 | y140 | tab | err | ndx=>kernel_rfl)
  (case y144=>k_is)
  (case y145=>exact⟨_,rfl⟩)
  (case y146=>k_is)
  (case y147=>exact⟨_,rfl⟩)
  (case y148=>k_is)
  (case y149=>exact⟨_,rfl⟩)
  (case y150=>k_is)
  (case y151=>exact⟨_,rfl⟩)
  (case y152=>k_is)
  (case y153=>exact⟨_,rfl⟩)
  (case y154=>k_is)
  (case y155=>exact⟨_,rfl⟩)
  (case y156=>k_is)
  (case y157=>exact⟨_,rfl⟩)
  (case y158=>k_is)
  (case y159=>exact⟨_,rfl⟩)
  (case y160=>k_is)
  (case y161=>exact⟨_,rfl⟩)
  (case y162 | y163 | y164 | y165 | y166 | y167 | y168 | y169 | y170 | y171 | y172 | y173 | y174 | y175 | y176 | y177=>k_is)
theorem PySem.Challenge.cw_cablehouse_k24_whole_one_fault_is_read_holds : PySem.Challenge.rw_cablehouse_k24_whole_one_fault_is_read.Holds :=
 Hk.top.go Hk.L6 Hk.L7 Hk.L8 Hk.L9 Hk.LA Hk.LB Hk.LC Hk.LD Hk.LF Hk.LH Hk.LG
