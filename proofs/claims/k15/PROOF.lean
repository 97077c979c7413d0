import PyProof.Rows.All
import Wide.All
import OpenK.AllK
import Wide.FinOn
import Lean
import PyProof.EqAt
import PyProof.EqKinds
import PyProof.TupleCall
import PySem.Challenge.RW_cablehouse_k15_no_book
set_option Elab.async false
set_option linter.all false
set_option maxRecDepth 100000
namespace Hd
open PySem PySem.W PyProof.Rows
theorem JZ {b1 b2 b3 a:Prop} (main:a) (hl:b1) (hw:b2) (hc:b3):a:=main
structure JC (r:Prop) where
  l1:Prop
  l2:Prop
  l3:Prop
  l4:Prop
  l5:Prop
  l6:Prop
  l7:Prop
  l8:Prop
  l9:Prop
  h:Prop
  c:Prop
  go:l1->l2->l3->l4->l5->l6->l7->l8->l9->h->c->r
theorem two {σ α β γ:Type}{x:World->OsState->Option σ}{as:List α}{f:σ->α->β}{h:σ->γ}{g:World->List β}{e:World->γ} (n:Nat)
    (h1:∀ w os,(x w os).map (fun s=>(as.take n).map (f s))=some ((g w).take n)) (h2:∀ w os,(x w os).map (fun s=>((as.drop n).map (f s),h s))=some ((g w).drop n,e w)):∀ w os,(x w os).map (fun s=>(as.map (f s),h s))=some (g w,e w):=fun w os=>by
  obtain⟨s,e0,e1⟩:=Option.map_eq_some_iff.mp (h1 w os)
  have e2:=h2 w os
  rw[e0] at e2 ⊢
  have e2:=Option.some.inj e2
  simp only[Prod.mk.injEq] at e2
  refine congrArg some (Prod.ext ?_ e2.2)
  show as.map (f s)=g w
  rw[←List.take_append_drop n as,List.map_append,e1,e2.1,List.take_append_drop]
def tree:List Obj->Nat->BT->BT
  | [],_,t=>t
  | o::l,n,t=>tree l (n+1) (t.ins n o)
def goT (st:SharedT->Thread->Option (SharedT×Thread)) (ok:Thread->Bool):Nat->SharedT->Thread->Option SharedT
  | 0,_,_=>none
  | n+1,s,t=>match through t with
    | true=>some s
    | false=>match ok t with
      | false=>none
      | true=>match st s t with
        | some (s',t')=>goT st ok n s' t'
        | none=>none
theorem DB {tb:String->Option Builtin}{p:Program}{w:World}{n₀:Nat}{ann:Option Value}:∀ {n:Nat}{s s':SharedT}{t:Thread},goT (stepT (denote tb) p w) (stepOk n₀ ann) n s t=some s'->topRun tb p w n₀ ann n s.abs t=some s'.abs
  | 0,_,_,_,h=>nomatch h
  | n+1,s,s',t,h=>by
    unfold goT at h
    unfold topRun
    cases ht:through t with
    | true=>rw[ht] at h;cases h;rfl
    | false =>
      rw[ht] at h
      cases hk:stepOk n₀ ann t with
      | false=>rw[hk] at h;cases h
      | true =>
        rw[hk] at h
        cases hs:stepT (denote tb) p w s t with
        | none=>rw[hs] at h;cases h
        | some r=>obtain⟨s₂,t₂⟩:=r;rw[hs] at h;rw[stepT_spec hs];exact DB h
noncomputable def boot (w:World) (os:OsState):SharedT:=⟨tree (boot_heap w.params).objs.toList 0 .nil,(boot_heap w.params).objs.size,(boot_heap w.params).life,#[],boot_drawn,boot_toks,os⟩
noncomputable def ran (p:Program) (N:Nat) (w:World) (os:OsState):Option SharedT:=goT (stepT (denote treeTable) p w) (stepOk 11 (some (.ref 6))) N (boot w os) (topStub p)
theorem AZ (P:Params):absHeap (tree (boot_heap P).objs.toList 0 .nil) (boot_heap P).objs.size (boot_heap P).life=boot_heap P:=by kernel_rfl
theorem AY (P:Params):((boot_heap P).isNs mainGlobals,(boot_heap P).objs.size,(boot_heap P).nsMap mainGlobals "__annotations__")=(true,11,some (.ref 6)):=by kernel_rfl
theorem six {σ α β γ δ ε ζ η θ ι:Type}{x:World->OsState->Option σ}{f1:σ->α}{f2:σ->β}{f3:σ->γ}{f4:σ->δ}{f5:σ->ε}{f6:σ->ζ}{f7:σ->η}{f8:σ->θ}{f9:σ->ι}{g1:α}{g2:β}{g3:γ}{g4:δ}{g5:ε}{g6:ζ}{g7:η}{g8:θ}{g9:ι}
    (h1:∀ w os,(x w os).map (fun s=>f1 s)=some g1) (h2:∀ w os,(x w os).map (fun s=>(f2 s,f3 s))=some (g2,g3)) (h3:∀ w os,(x w os).map (fun s=>(f4 s,f5 s))=some (g4,g5)) (h4:∀ w os,(x w os).map (fun s=>f6 s)=some g6)
    (h5:∀ w os,(x w os).map (fun s=>(f7 s,f8 s))=some (g7,g8)) (h6:∀ w os,(x w os).map (fun s=>f9 s)=some g9):∀ w os,(x w os).map (fun s=>(f1 s,f2 s,f3 s,f4 s,f5 s,f6 s,f7 s,f8 s,f9 s))=some (g1,g2,g3,g4,g5,g6,g7,g8,g9):=fun w os=>by
  obtain⟨s,e,e1⟩:=Option.map_eq_some_iff.mp (h1 w os)
  have e2:=h2 w os
  have e3:=h3 w os
  have e4:=h4 w os
  have e5:=h5 w os
  have e6:=h6 w os
  rw[e] at e2 e3 e4 e5 e6 ⊢
  have e2:=Option.some.inj e2
  have e3:=Option.some.inj e3
  have e4:=Option.some.inj e4
  have e5:=Option.some.inj e5
  have e6:=Option.some.inj e6
  simp only[Prod.mk.injEq] at e2 e3 e5
  exact congrArg some (Prod.ext e1 (Prod.ext e2.1 (Prod.ext e2.2 (Prod.ext e3.1 (Prod.ext e3.2 (Prod.ext e4 (Prod.ext e5.1 (Prod.ext e5.2 e6))))))))
theorem left {p q:Program}{loose:List Str}{Xt:Shared->Bool}{α:Type}{Yf:Shared->α}{Ya:World->α}{N:Nat}{g0:Bool}
    (e:opening p=plainProg p.main.scope.names) (hN:Nat.ble 600 N=true) (f:∀ s,fenceModules? p s=some s)
    (r1:∀ w os,(ran p N w os).map (fun s=>staticsOk (importedModules p.main.body) (boot_heap w.params) s.abs.heap&&namesBound p s.abs.heap&&gensDone s.abs&&laidKept (boot_heap w.params) s.abs.heap)=some true)
    (r2:∀ w os,(ran p N w os).map (fun s=>openSeen q loose (importedModules p.main.body) Xt g0 s.abs)=some (openGood q loose))
    (r3:∀ w os,(ran p N w os).map (fun s=>Yf s.abs)=some (Ya w)):LeftO p q loose Xt Yf Ya N g0:=fun w=>by
  obtain⟨⟨h,gs,d,k,os⟩,e,e'⟩:=Option.map_eq_some_iff.mp (boot_open e hN f w)
  obtain⟨rfl,rfl,rfl,rfl⟩:h=boot_heap w.params/\gs=#[]/\d=boot_drawn/\k=boot_toks:=by simpa using e'
  obtain⟨z1,z2,z3⟩:_/\_/\_:=by simpa only[Prod.mk.injEq] using AY w.params
  obtain⟨s',r,l1⟩:=Option.map_eq_some_iff.mp (r1 w os)
  have l2:=r2 w os
  have l3:=r3 w os
  rw[r] at l2 l3
  have l2:=Option.some.inj l2
  have l3:=Option.some.inj l3
  unfold ran at r
  have r:=DB r
  have hB:(boot w os).abs=⟨boot_heap w.params,#[],boot_drawn,boot_toks,os⟩:=by
    unfold boot SharedT.abs
    rw[AZ]
  rw[hB] at r
  have t:topFrom treeTable p w N ⟨boot_heap w.params,#[],boot_drawn,boot_toks,os⟩=some s'.abs:=by
    unfold topFrom
    dsimp only
    rw[z1,z2,z3,r]
    show (match staticsOk (importedModules p.main.body) (boot_heap w.params) s'.abs.heap&&namesBound p s'.abs.heap&&gensDone s'.abs&&laidKept (boot_heap w.params) s'.abs.heap with | true=>_ | false=>_)=_
    rw[l1]
  unfold openEnds
  rw[e]
  show (topFrom treeTable p w N _).map _=_
  rw[t]
  exact congrArg some (Prod.ext l2 l3)
theorem kC:@ran=fun p N w os=>goT (PySem.W.Fast.tw10156331382660048174 (denote PySem.W.Fast.tw14364793385576792824) p w) (PySem.W.Fast.tw6613529449190102663 11 (some (.ref 6))) N (boot w os) (topStub p):=by
  unfold ran
  rw[PySem.W.Fast.te10156331382660048174,PySem.W.Fast.te6613529449190102663,PySem.W.Fast.te14364793385576792824]
end Hd

section
open PySem PySem.W PyProof.Rows
set_option maxHeartbeats 0
noncomputable def Hk.top:Hd.JC PySem.Challenge.rw_cablehouse_k15_no_book.Holds:=by
  apply Hd.JC.mk
  case go =>
    intro x1 x2 x3 x4 x5 x6 x7 x8 x9 y z
    w_on;refine PySem.W.holds_law (by kernel_rfl) fun said=>?_
    apply Hd.JZ
    case main=>k_head
    case hl=>exact Hd.left (by kernel_rfl) (by decide) (fun _=>by kernel_rfl) x1 (Hd.six x2 x4 x5 x6 x7 x8) (Hd.two 180 x3 x9)
    case hw=>exact y
    case hc=>exact z
theorem Hk.K9:Hk.top.l1:=by
  delta Hk.top
  dsimp only
  intro w os
  rw[Hd.kC]
  kernel_rfl
theorem Hk.KA:Hk.top.l2:=by
  delta Hk.top
  dsimp only
  intro w os
  rw[Hd.kC]
  kernel_rfl
theorem Hk.KC:Hk.top.l3:=by
  delta Hk.top
  dsimp only
  intro w os
  rw[Hd.kC]
  kernel_rfl
theorem Hk.KG:Hk.top.l4:=by
  delta Hk.top
  dsimp only
  intro w os
  rw[Hd.kC]
  kernel_rfl
theorem Hk.KH:Hk.top.l5:=by
  delta Hk.top
  dsimp only
  intro w os
  rw[Hd.kC]
  kernel_rfl
theorem Hk.KI:Hk.top.l6:=by
  delta Hk.top
  dsimp only
  intro w os
  rw[Hd.kC]
  kernel_rfl
theorem Hk.KJ:Hk.top.l7:=by
  delta Hk.top
  dsimp only
  intro w os
  rw[Hd.kC]
  kernel_rfl
theorem Hk.KL:Hk.top.l8:=by
  delta Hk.top
  dsimp only
  intro w os
  rw[Hd.kC]
  kernel_rfl
theorem Hk.KN:Hk.top.l9:=by
  delta Hk.top
  dsimp only
  intro w os
  rw[Hd.kC]
  kernel_rfl
theorem Hk.KP:Hk.top.h:=by
  delta Hk.top
  dsimp only
  w_witness2
end
theorem kS:type_of%@Array.getElem?_toList:=@Array.getElem?_toList
theorem gP:type_of%@Array.length_toList:=@Array.length_toList
theorem bS:type_of%@Bool.and_eq_true:=@Bool.and_eq_true
theorem ph:type_of%@Bool.eq_iff_iff:=@Bool.eq_iff_iff
theorem kT:type_of%@Bool.false_and:=@Bool.false_and
theorem mQ:type_of%@Bool.false_eq_true:=@Bool.false_eq_true
theorem cf:type_of%@Bool.false_ne_true:=@Bool.false_ne_true
theorem jq:type_of%@Bool.not_eq_true:=@Bool.not_eq_true
theorem fG:type_of%@Bool.true_and:=@Bool.true_and
theorem pB:type_of%@PySem.Calls.Constant_str:=@PySem.Calls.Constant_str
theorem pE:type_of%@PySem.Calls.evalArgs_plain:=@PySem.Calls.evalArgs_plain
theorem mR:type_of%@PySem.Calls.spliced_cons:=@PySem.Calls.spliced_cons
theorem jr:type_of%@PySem.F.called_set:=@PySem.F.called_set
theorem mS:type_of%@PySem.F.entry_str_split:=@PySem.F.entry_str_split
theorem ka:type_of%@PySem.F.slot_str_split:=@PySem.F.slot_str_split
theorem aW:type_of%@PySem.Heap.get?_push_of_some:=@PySem.Heap.get?_push_of_some
theorem bL:type_of%@PySem.Heap.get?_push_size:=@PySem.Heap.get?_push_size
theorem eU:type_of%@PySem.Heap.get?_update_other:=@PySem.Heap.get?_update_other
theorem kb:type_of%@PySem.Heap.get?_update_self:=@PySem.Heap.get?_update_self
theorem aT:type_of%@PySem.Heap.lt_size:=@PySem.Heap.lt_size
theorem oV:type_of%@Int.ediv_ediv_of_nonneg:=@Int.ediv_ediv_of_nonneg
theorem ma:type_of%@Int.ediv_nonneg:=@Int.ediv_nonneg
theorem df:type_of%@Int.emod_lt_of_pos:=@Int.emod_lt_of_pos
theorem cA:type_of%@Int.emod_nonneg:=@Int.emod_nonneg
theorem cC:type_of%@Int.eq_ofNat_of_zero_le:=@Int.eq_ofNat_of_zero_le
theorem eV:type_of%@Int.le_of_lt:=@Int.le_of_lt
theorem oW:type_of%@Int.mul_ediv_add_emod:=@Int.mul_ediv_add_emod
theorem md:type_of%@Int.toNat_of_nonneg:=@Int.toNat_of_nonneg
theorem iO:type_of%@List.all_cons:=@List.all_cons
theorem bM:type_of%@List.all_eq_true:=@List.all_eq_true
theorem eX:type_of%@List.all_map:=@List.all_map
theorem iP:type_of%@List.any_cons:=@List.any_cons
theorem gU:type_of%@List.append_assoc:=@List.append_assoc
theorem gW:type_of%@List.append_nil:=@List.append_nil
theorem gh:type_of%@List.count_append:=@List.count_append
theorem me:type_of%@List.count_cons_of_ne:=@List.count_cons_of_ne
theorem mf:type_of%@List.dropLast_concat:=@List.dropLast_concat
theorem oX:type_of%@List.dropLast_concat_getLast:=@List.dropLast_concat_getLast
theorem mh:type_of%@List.drop_of_length_le:=@List.drop_of_length_le
theorem mi:type_of%@List.filterMap_cons:=@List.filterMap_cons
theorem oY:type_of%@List.filter_append:=@List.filter_append
theorem oZ:type_of%@List.filter_cons_of_neg:=@List.filter_cons_of_neg
theorem pb:type_of%@List.filter_cons_of_pos:=@List.filter_cons_of_pos
theorem gX:type_of%@List.find?_cons:=@List.find?_cons
theorem mm:type_of%@List.flatten_cons:=@List.flatten_cons
theorem eY:type_of%@List.forall_mem_append:=@List.forall_mem_append
theorem cM:type_of%@List.forall_mem_cons:=@List.forall_mem_cons
theorem cU:type_of%@List.getD_eq_getElem?_getD:=@List.getD_eq_getElem?_getD
theorem gi:type_of%@List.getElem?_append_left:=@List.getElem?_append_left
theorem gj:type_of%@List.getElem?_append_right:=@List.getElem?_append_right
theorem mq:type_of%@List.getElem?_cons_succ:=@List.getElem?_cons_succ
theorem pd:type_of%@List.getElem?_cons_zero:=@List.getElem?_cons_zero
theorem mw:type_of%@List.getElem?_drop:=@List.getElem?_drop
theorem bu:type_of%@List.getElem?_eq_getElem:=@List.getElem?_eq_getElem
theorem b9:type_of%@List.getElem?_eq_some_iff:=@List.getElem?_eq_some_iff
theorem bY:type_of%@List.getElem?_map:=@List.getElem?_map
theorem iQ:type_of%@List.getElem?_set_ne:=@List.getElem?_set_ne
theorem kc:type_of%@List.getElem?_set_self:=@List.getElem?_set_self
theorem iR:type_of%@List.getElem_mem:=@List.getElem_mem
theorem mx:type_of%@List.idxOf_lt_length_of_mem:=@List.idxOf_lt_length_of_mem
theorem ah:type_of%@List.length_append:=@List.length_append
theorem ag:type_of%@List.length_cons:=@List.length_cons
theorem bA:type_of%@List.length_drop:=@List.length_drop
theorem pe:type_of%@List.length_filter_le:=@List.length_filter_le
theorem aj:type_of%@List.length_map:=@List.length_map
theorem ax:type_of%@List.length_nil:=@List.length_nil
theorem gk:type_of%@List.length_range:=@List.length_range
theorem gY:type_of%@List.length_singleton:=@List.length_singleton
theorem bR:type_of%@List.length_take:=@List.length_take
theorem eZ:type_of%@List.lookup_cons:=@List.lookup_cons
theorem cN:type_of%@List.map_append:=@List.map_append
theorem iS:type_of%@List.map_congr_left:=@List.map_congr_left
theorem aQ:type_of%@List.map_cons:=@List.map_cons
theorem ke:type_of%@List.map_drop:=@List.map_drop
theorem aK:type_of%@List.map_map:=@List.map_map
theorem bw:type_of%@List.mem_append:=@List.mem_append
theorem fA:type_of%@List.mem_append_left:=@List.mem_append_left
theorem eJ:type_of%@List.mem_append_right:=@List.mem_append_right
theorem aH:type_of%@List.mem_cons:=@List.mem_cons
theorem bb:type_of%@List.mem_cons_of_mem:=@List.mem_cons_of_mem
theorem aR:type_of%@List.mem_cons_self:=@List.mem_cons_self
theorem kf:type_of%@List.mem_filter:=@List.mem_filter
theorem pf:type_of%@List.mem_filterMap:=@List.mem_filterMap
theorem aM:type_of%@List.mem_map:=@List.mem_map
theorem br:type_of%@List.mem_of_getElem?:=@List.mem_of_getElem?
theorem iT:type_of%@List.mem_of_mem_drop:=@List.mem_of_mem_drop
theorem iU:type_of%@List.mem_of_mem_take:=@List.mem_of_mem_take
theorem gm:type_of%@List.mem_range:=@List.mem_range
theorem bt:type_of%@List.mem_singleton:=@List.mem_singleton
theorem kg:type_of%@List.nil_append:=@List.nil_append
theorem gu:type_of%@List.nodup_cons:=@List.nodup_cons
theorem dh:type_of%@List.not_mem_nil:=@List.not_mem_nil
theorem my:type_of%@List.of_mem_zip:=@List.of_mem_zip
theorem pj:type_of%@List.pairwise_iff_getElem:=@List.pairwise_iff_getElem
theorem mz:type_of%@List.replicate_succ:=@List.replicate_succ
theorem bz:type_of%@List.size_toArray:=@List.size_toArray
theorem fb:type_of%@List.sum_cons:=@List.sum_cons
theorem m4:type_of%@List.take_add_one:=@List.take_add_one
theorem dZ:type_of%@List.take_of_length_le:=@List.take_of_length_le
theorem pk:type_of%@List.take_succ_cons:=@List.take_succ_cons
theorem aN:type_of%@Nat.le_of_lt:=@Nat.le_of_lt
theorem aA:type_of%@Nat.le_refl:=@Nat.le_refl
theorem bJ:type_of%@Nat.le_trans:=@Nat.le_trans
theorem gv:type_of%@Nat.lt_irrefl:=@Nat.lt_irrefl
theorem gw:type_of%@Nat.lt_of_le_of_lt:=@Nat.lt_of_le_of_lt
theorem bD:type_of%@Nat.lt_of_lt_of_le:=@Nat.lt_of_lt_of_le
theorem pq:type_of%@Nat.lt_succ_iff_lt_or_eq:=@Nat.lt_succ_iff_lt_or_eq
theorem iV:type_of%@Nat.lt_succ_of_lt:=@Nat.lt_succ_of_lt
theorem gZ:type_of%@Nat.lt_succ_self:=@Nat.lt_succ_self
theorem bE:type_of%@Nat.ne_of_lt:=@Nat.ne_of_lt
theorem m5:type_of%@Nat.pow_le_pow_right:=@Nat.pow_le_pow_right
theorem bN:type_of%@Nat.zero_le:=@Nat.zero_le
theorem pw:type_of%@Option.isSome_iff_exists:=@Option.isSome_iff_exists
theorem fB:type_of%@Option.map_eq_some_iff:=@Option.map_eq_some_iff
theorem cO:type_of%@PySem.PassesOwn.leaving:=@PySem.PassesOwn.leaving
theorem tS:type_of%@PyProof.Rows.F.plain_set_update_loop:=@PyProof.Rows.F.plain_set_update_loop
theorem m6:type_of%@PyProof.Rows.callWith_type1:=@PyProof.Rows.callWith_type1
theorem di:type_of%@PySem.F.excBase_ValueError:=@PySem.F.excBase_ValueError
theorem kh:type_of%@PySem.F.plainAttrs_list:=@PySem.F.plainAttrs_list
theorem cV:type_of%@PySem.F.plainAttrs_str:=@PySem.F.plainAttrs_str
theorem m7:type_of%@PySem.F.slot_list_append:=@PySem.F.slot_list_append
theorem h9:type_of%@PySem.F.slot_str_join:=@PySem.F.slot_str_join
theorem ki:type_of%@PySem.F.slot_str_split:=@PySem.F.slot_str_split
theorem m8:type_of%@PySem.F.type_list_append:=@PySem.F.type_list_append
theorem hO:type_of%@PySem.F.type_str_join:=@PySem.F.type_str_join
theorem kj:type_of%@PySem.F.type_str_split:=@PySem.F.type_str_split
theorem pz:type_of%@PySem.W.KIN.val_back:=@PySem.W.KIN.val_back
theorem eh:type_of%@PySem.W.kia_one:=@PySem.W.kia_one
theorem dj:type_of%@PySem.W.mg_none_of:=@PySem.W.mg_none_of
theorem bO:type_of%@PySem.W.mg_of:=@PySem.W.mg_of
theorem pC:type_of%@PySem.W.of_hideAll:=@PySem.W.of_hideAll
theorem mB:type_of%@PySem.mem_of_lookup:=@PySem.mem_of_lookup
theorem km:type_of%@beq_eq_false_iff_ne:=@beq_eq_false_iff_ne
theorem ko:type_of%@beq_false_of_ne:=@beq_false_of_ne
theorem eK:type_of%@beq_iff_eq:=@beq_iff_eq
theorem gx:type_of%@PySem.call_meets:=@PySem.call_meets
theorem kq:type_of%@PySem.codeAny_builtin:=@PySem.codeAny_builtin
theorem aG:type_of%@congrArg:=@congrArg
theorem kr:type_of%@decide_eq_decide:=@decide_eq_decide
theorem aE:type_of%@decide_eq_false:=@decide_eq_false
theorem aC:type_of%@decide_eq_true:=@decide_eq_true
theorem bP:type_of%@decide_eq_true_eq:=@decide_eq_true_eq
theorem hV:type_of%@if_false:=@if_false
theorem ai:type_of%@if_neg:=@if_neg
theorem ao:type_of%@if_pos:=@if_pos
theorem gy:type_of%@of_decide_eq_true:=@of_decide_eq_true
theorem dm:type_of%@or_false:=@or_false
theorem eL:type_of%@PySem.sizeLine_eq:=@PySem.sizeLine_eq
theorem fc:type_of%@PySem.typeIs_str:=@PySem.typeIs_str
theorem mC:type_of%@PySem.wpAny_Call_Name_kw:=@PySem.wpAny_Call_Name_kw
theorem ar:type_of%@PySem.wpAny_bind:=@PySem.wpAny_bind
theorem ku:type_of%@PySem.wpAny_execs_nil:=@PySem.wpAny_execs_nil
theorem cD:type_of%@PySem.wpAny_holding:=@PySem.wpAny_holding
theorem bq:type_of%@PySem.wpAny_mono:=@PySem.wpAny_mono
theorem iW:type_of%@PySem.wpAny_passesOwn:=@PySem.wpAny_passesOwn
theorem aO:type_of%@PySem.wpAny_pure:=@PySem.wpAny_pure
theorem gz:type_of%@PySem.wpAny_standAt:=@PySem.wpAny_standAt
theorem gB:type_of%@PySem.wpAny_truthy_bool:=@PySem.wpAny_truthy_bool
-- CHANGE: your row's module here,as the last of these rows
set_option Elab.async false
set_option linter.all false
set_option maxRecDepth 100000
namespace L2
open PySem PySem.Spec PyProof.Rows
variable {A:Around}{C:Addr}{E:Value->Shared->Prop}{K:PySem.W.Frag}{M:Model}{P:Program}{Q:Value->Shared->Prop}{a:Addr}{b:Addr}{base:Heap}{body:List Stmt}{c:Expr}{ch:List Addr}{d':Drawn}{e:Expr}{es:List Expr}{f:Value->Value->Sem Value}{fd:FuncData}{fp:List Addr}{g':Array GenState}{h:Heap}{i:Nat}{it:Addr}{kw:List (Str×Value)}{mA:Str->Option Value}{mg:Str->Option Value}{op:CmpOp}{outer:List Env}{pins:List (Addr×Obj)}{pl:Sem Bool}{pos:Pos}{ps:List Str}{s:Shared}{scope:Scope}{t':Nat}{tg:Expr}{u:Value}{us:List Value}{w:World}{x:Str}
section

abbrev Key:=Sum Int Str
def mW:Key->Value->Bool
 | .inl k,v=>Value.isInt k v
 | .inr x,v=>Value.isStrOf x v
def Lc (w:World):Key->Int
 | .inl k=>hashInt k
 | .inr x=>hashStr w x
theorem cS:∀ {k:Key}{v:Value},mW k v=true->(∃ i t,k=Sum.inl i/\v=Value.int i t)∨(∃ x t,k=Sum.inr x/\v=Value.str x t)
 | .inl i,v,h=>by
  obtain⟨t,e⟩:=Value.isInt_shape (k:=i) (v:=v) h
  exact .inl ⟨i,t,rfl,e⟩
 | .inr x,v,h=>by
  obtain⟨t,e⟩:=Value.isStrOf_shape (x:=x) (v:=v) h
  exact .inr ⟨x,t,rfl,e⟩
theorem BN (i:Int) (t:Tok):mW (.inl i) (.int i t)=true:=by simp [mW,Value.isInt]
theorem u7 (x:Str) (t:Tok):mW (.inr x) (.str x t)=true:=by simp [mW,Value.isStrOf]
theorem IB (a b:Int):decide ((Sum.inl a:Key)=Sum.inl b)=(a==b):=by
 by_cases e:a=b
 ·subst e;simp
 ·have h:¬ (Sum.inl a:Key)=Sum.inl b:=fun q=>e (Sum.inl.inj q)
  rw[aE h]
  exact (km.mpr e).symm
theorem IE (a b:Str):decide ((Sum.inr a:Key)=Sum.inr b)=decide (a=b):=by
 by_cases e:a=b
 ·subst e;simp
 ·have h:¬ (Sum.inr a:Key)=Sum.inr b:=fun q=>e (Sum.inr.inj q)
  rw[aE h,aE e]
theorem IC (a:Int) (b:Str):decide ((Sum.inl a:Key)=Sum.inr b)=false:=aE (fun q=>nomatch q)
theorem ID (a:Str) (b:Int):decide ((Sum.inr a:Key)=Sum.inl b)=false:=aE (fun q=>nomatch q)

def bH (prog:Program) (w:World):PySem.KeyKind prog w Key where
 is:=mW
 hash:=Lc w
 inj:=fun v a b ha hb=>by
  rcases cS ha with ⟨i,t,rfl,rfl⟩ | ⟨x,t,rfl,rfl⟩
  ·rcases cS hb with ⟨j,u,rfl,e⟩ | ⟨y,u,rfl,e⟩
   ·injection e with e1 _;rw[e1]
   ·exact nomatch e
  ·rcases cS hb with ⟨j,u,rfl,e⟩ | ⟨y,u,rfl,e⟩
   ·exact nomatch e
   ·injection e with e1 _;rw[e1]
 byValue:=fun k v h=>by
  rcases cS h with ⟨i,t,rfl,rfl⟩ | ⟨x,t,rfl,rfl⟩<;>rfl
 pyHash:=fun hv h=>by
  rcases cS hv with ⟨i,t,rfl,rfl⟩ | ⟨x,t,rfl,rfl⟩
  ·exact wpAny_pyHash_int h
  ·exact wpAny_pyHash_str h
 eqBool:=fun hu hv h=>by
  rcases cS hu with ⟨i,t,rfl,rfl⟩ | ⟨x,t,rfl,rfl⟩
  ·rcases cS hv with ⟨j,u,rfl,rfl⟩ | ⟨y,u,rfl,rfl⟩
   ·rw[IB] at h;exact wpAny_eqBool_int h
   ·rw[IC] at h;exact SeqAt.EqAt.int_str i t y u _ _ _ _ h
  ·rcases cS hv with ⟨j,u,rfl,rfl⟩ | ⟨y,u,rfl,rfl⟩
   ·rw[ID] at h;exact SeqAt.EqAt.str_int x t j u _ _ _ _ h
   ·rw[IE] at h;exact wpAny_eqBool_str h
 «strs»:=fun k x t v h=>by
  rcases cS h with ⟨i,u,rfl,e⟩ | ⟨y,u,rfl,e⟩
  ·exact nomatch e
  ·injection e with e1 _
   subst e1
   cases v<;>rfl

theorem xc (prog:Program) (w:World) (i:Int) (t:Tok):(bH prog w).is (.inl i) (.int i t)=true:=BN i t
theorem xf (prog:Program) (w:World) (x:Str) (t:Tok):(bH prog w).is (.inr x) (.str x t)=true:=u7 x t
end
section

inductive V where
 | non | bl (b:Bool) | int (i:Int) | str (x:Str) | byt (b:Array UInt8) | flt (b:UInt64) | ref (a:Addr) | ty (n:String)
 deriving DecidableEq

def RelV:V->Value->Prop
 | .non,u=>u=Value.none
 | .bl b,u=>u=Value.bool b
 | .int i,u=>∃ t,u=Value.int i t
 | .str x,u=>∃ t,u=Value.str x t
 | .byt b,u=>∃ t,u=Value.bytes b t
 | .flt b,u=>∃ t,u=Value.float b t
 | .ref a,u=>u=Value.ref a
 | .ty n,u=>u=Value.type n

abbrev Vals:List V->List Value->Prop:=Paired RelV
theorem Vals.length {xs:List V}{us:List Value} (r:Vals xs us):xs.length=us.length:=Paired.length r
theorem Vals.get:∀ {xs:List V}{us:List Value}{i:Nat}{x:V},Vals xs us->xs[i]?=some x->∃ u,us[i]?=some u/\RelV x u
 | _,_,_,_,.nil,e=>by simp at e
 | _,_,0,_,.cons r _,e=>by simp at e;subst e;exact⟨_,rfl,r⟩
 | _,_,i+1,x,.cons _ t,e=>by
  obtain⟨u,h1,h2⟩:=Vals.get (i:=i) (x:=x) t (by simpa using e)
  exact⟨u,by simpa using h1,h2⟩
theorem Vals.set {x:V}{u:Value} (r:RelV x u):∀ {xs:List V}{us:List Value} (i:Nat),Vals xs us->Vals (xs.set i x) (us.set i u)
 | _,_,_,.nil=>.nil
 | _,_,0,.cons _ t=>.cons r t
 | _,_,i+1,.cons q t=>.cons q (Vals.set r i t)
theorem Vals.append:∀ {xs ys:List V}{us ws:List Value},Vals xs us->Vals ys ws->Vals (xs++ys) (us++ws)
 | _,_,_,_,.nil,s=>s
 | _,_,_,_,.cons r t,s=>.cons r (Vals.append t s)
theorem Vals.take:∀ {xs:List V}{us:List Value} (n:Nat),Vals xs us->Vals (xs.take n) (us.take n)
 | _,_,0,_=>.nil
 | _,_,_+1,.nil=>.nil
 | _,_,n+1,.cons r t=>.cons r (Vals.take n t)
theorem Vals.drop:∀ {xs:List V}{us:List Value} (n:Nat),Vals xs us->Vals (xs.drop n) (us.drop n)
 | _,_,0,r=>r
 | _,_,_+1,.nil=>.nil
 | _,_,n+1,.cons _ t=>Vals.drop n t
theorem Vals.none_of:∀ {xs:List V}{us:List Value}{i:Nat},Vals xs us->xs[i]?=none->us[i]?=none:=fun {xs us i} r e=>by
 have h1:=r.length
 have h2:xs.length<=i:=List.getElem?_eq_none_iff.mp e
 exact List.getElem?_eq_none_iff.mpr (by omega)

def kY:Option V->Option Value->Prop
 | some v,some u=>RelV v u
 | none,none=>True
 | _,_=>False
def KV {κ:Type}:List (κ×V)->List (κ×Value)->Prop:=Paired fun (p:κ×V) (q:κ×Value)=>p.1=q.1/\RelV p.2 q.2

def kV:Key->V
 | .inl i=>.int i
 | .inr x=>.str x

inductive HO where
  | lst (xs:List V)
  | tup (xs:List V)
  | dK (kvs:List (Key×V)) | dT (kvs:List (List Key×V))
  | set (S:Int->Bool) (n:Nat)
  | ins (C dx:Addr) (fs:List (Str×V))
  | own (x:Addr)
  | xd (fs:List (Str×V))
  | met (f x:Addr)
  | rng (lo hi:Int)
  | frz (o:Obj) (u:HO)
  | tbl (ps:Array Value)
  | ext (φ:Heap->Prop)

abbrev Hp:=Addr->Option HO
def upd (H:Hp) (a:Addr) (o:HO):Hp:=fun b=>if b=a then some o else H b
theorem aS {H:Hp}{o:HO}:upd H a o a=some o:=by unfold upd;rw[ao rfl]
theorem aP {H:Hp}{a b:Addr}{o:HO} (h:b≠a):upd H a o b=H b:=by unfold upd;rw[ai h]
theorem qx {H:Hp}{a b:Addr}{o u:HO} (h:H a=some o) (h':H b=some u) (d:o≠u):a≠b:=by
 intro e;subst e;rw[h] at h';exact d (Option.some.inj h')
theorem b8 {H:Hp}{a b:Addr}{o:HO} (h:H a=some o) (h':H b=none):a≠b:=by
 intro e;subst e;rw[h] at h';cases h'

section
variable (P:Program) (w:World)
def c8 (H:Hp) (h:Heap) (a:Addr):HO->Prop
 | .lst xs=>xs.length<=sizeLine/\∃ (its:List Value) (n:Nat),Vals xs its/\h.get? a=some { cls:=.type "list",data:=.seq its.toArray n }
 | .tup xs=>xs.length<=sizeLine/\∃ its:List Value,Vals xs its/\IsTup h a its.toArray
 | .dK kvs=>kvs.length<=sizeLine/\(a==sysModules)=false/\∃ vs,KV kvs vs/\h.DictOf (bH P w) a vs
 | .dT kvs=>kvs.length<=sizeLine/\(a==sysModules)=false/\∃ xs:List (List Key×Addr×Value),
   Paired (fun (p:List Key×V) (q:List Key×Addr×Value)=>p.1=q.1/\H q.2.1=some (.tup (p.1.map kV))/\RelV p.2 q.2.2) kvs xs ∧
   ∃ o es ep,h.get? a=some o/\o.ExactDict/\o.data=.dict es ep/\es.toList=xs.map (entryOfKey (tupleKind (bH P w)))/\(xs.map (·.1)).Nodup
 | .set S n=>h.SetOf (intKind P w) a S n
 | .ins C dx fs=>H dx=some (.own a)/\fs.length<=1000/\dx≠a/\h.get? a=some (PySem.W.instObj C dx) ∧
   ∃ mA,h.Ns1 dx mA/\(∀ f,kY (fs.lookup f) (mA f))/\PySem.Within mA (fs.map (·.1))
 | .own _=>∃ o,h.get? a=some o
 | .xd fs=>∃ mA,h.Ns1 a mA/\∀ f,kY (fs.lookup f) (mA f)
 | .rng lo hi=>∃ t u v,h.get? a=some { cls:=.type "range",data:=.fields #[.int lo t,.int hi u,.int 1 v] }
 | .frz o u=>h.get? a=some o/\c8 H h a u
 | .tbl ps=>∃ qs:Array Value,h.get? a=some { cls:=.none,data:=.fields qs }/\TriplesOk qs.toList/\∀ pos c,codeAmong pos qs.toList=some c->∃ c' oc vs t q,c=.ref c'/\H c'=some (.frz oc (.own a))/\oc.data=.fields vs/\vs[1]?=some (.str q t)/\ps=#[.str q 0]
 | .met f x=>h.get? a=some (PySem.W.methodObj (.ref f) (.ref x))
 | .ext φ=>φ h/\(∃ o,h.get? a=some o)/\∀ h1 h2:Heap,φ h1->(∀ o,h1.get? a=some o->h2.get? a=some o)->φ h2
def HOk (H:Hp) (h:Heap):Prop:=∀ a o,H a=some o->c8 P w H h a o
end

section
variable {P:Program}{w:World}{H H':Hp}{h h':Heap}{a:Addr}{o:HO}
theorem c8.lt (x:c8 P w H h a o):a<h.objs.size:=by
 cases o with
 | lst xs=>obtain⟨_,_,_,_,e⟩:=x;exact aT e
 | tup xs=>obtain⟨_,_,_,p⟩:=x;exact p.lt
 | dK kvs=>obtain⟨_,_,_,_,o,_,_,e,_⟩:=x;exact aT e
 | dT kvs=>obtain⟨_,_,_,_,o,_,_,e,_⟩:=x;exact aT e
 | set S n=>obtain⟨o,_,_,_,e,_⟩:=x;exact aT e
 | ins C dx fs=>obtain⟨_,_,_,e,_⟩:=x;exact aT e
 | own y=>obtain⟨_,e⟩:=x;exact aT e
 | xd fs=>obtain⟨_,⟨_,_,_,e,_⟩,_⟩:=x;exact aT e
 | rng lo hi=>obtain⟨_,_,_,e⟩:=x;exact aT e
 | frz ob u=>obtain⟨e,_⟩:=x;exact aT e
 | tbl ps=>obtain⟨_,e,_⟩:=x;exact aT e
 | met f y=>exact aT (show h.get? a=some _ from x)
 | ext φ=>obtain⟨_,⟨_,e⟩,_⟩:=x;exact aT e
theorem Paired.II {α β:Type}{F G:α->β->Prop}:∀ {l₁:List α}{l₂:List β},Paired F l₁ l₂->(∀ a b,F a b->G a b)->Paired G l₁ l₂
 | _,_,.nil,_=>.nil
 | _,_,.cons r t,f=>.cons (f _ _ r) (Paired.II t f)
theorem c8.nJ (x:c8 P w H h a o) (k:∀ b u,(b=a∨H b=some (.own a))->h.get? b=some u->h'.get? b=some u)
  (ho:∀ b,H b=some (.own a)->H' b=some (.own a)) (ht:∀ b xs,H b=some (.tup xs)->H' b=some (.tup xs))
  (hf:∀ b ob u,H b=some (.frz ob u)->H' b=some (.frz ob u):=by first | exact fun _ _ _ q=>q | exact fun c ob u q=>(aP (b8 q (by assumption))).trans q):c8 P w H' h' a o:=by
 induction o with
 | lst xs=>obtain⟨z,its,n,r,e⟩:=x;exact⟨z,its,n,r,k _ _ (.inl rfl) e⟩
 | tup xs=>obtain⟨z,its,r,ob,e,c⟩:=x;exact⟨z,its,r,ob,k _ _ (.inl rfl) e,c⟩
 | dK kvs=>obtain⟨z,y,vs,r,ob,es,ep,e,c⟩:=x;exact⟨z,y,vs,r,ob,es,ep,k _ _ (.inl rfl) e,c⟩
 | dT kvs =>
  obtain⟨z,y,xs,r,ob,es,ep,e,c⟩:=x
  exact⟨z,y,xs,Paired.II r fun p q z=>⟨z.1,ht _ _ z.2.1,z.2.2⟩,ob,es,ep,k _ _ (.inl rfl) e,c⟩
 | set S n=>obtain⟨ob,es,ep,t,e,c⟩:=x;exact⟨ob,es,ep,t,k _ _ (.inl rfl) e,c⟩
 | ins C dx fs =>
  obtain⟨d,z,ne,e,mA,⟨od,es,ep,e2,c⟩,r⟩:=x
  exact⟨ho _ d,z,ne,k _ _ (.inl rfl) e,mA,⟨od,es,ep,k _ _ (.inr d) e2,c⟩,r⟩
 | own y=>obtain⟨ob,e⟩:=x;exact⟨ob,k _ _ (.inl rfl) e⟩
 | xd fs=>obtain⟨mA,⟨od,es,ep,e,c⟩,r⟩:=x;exact⟨mA,⟨od,es,ep,k _ _ (.inl rfl) e,c⟩,r⟩
 | rng lo hi=>obtain⟨t,u,v,e⟩:=x;exact⟨t,u,v,k _ _ (.inl rfl) e⟩
 | frz ob u ih=>obtain⟨e,q⟩:=x;exact⟨k _ _ (.inl rfl) e,ih q⟩
 | tbl ps =>
  obtain⟨qs,e,t,z⟩:=x
  refine⟨qs,k a _ (.inl rfl) e,t,fun pos c q=>?_⟩
  obtain⟨c',oc,vs,tk,qq,h1,h2,h3⟩:=z pos c q
  exact⟨c',oc,vs,tk,qq,h1,hf _ _ _ h2,h3⟩
 | met f y =>
  have e:h.get? a=some (PySem.W.methodObj (.ref f) (.ref y)):=x
  show h'.get? a=some (PySem.W.methodObj (.ref f) (.ref y))
  exact k a _ (.inl rfl) e
 | ext φ=>obtain⟨p,⟨o,e⟩,st⟩:=x;exact⟨st _ _ p fun o q=>k _ _ (.inl rfl) q,⟨o,k _ _ (.inl rfl) e⟩,st⟩
theorem HOk.lt (x:HOk P w H h) (e:H a=some o):a<h.objs.size:=(x a o e).lt
theorem HOk.fresh (x:HOk P w H h) (e:h.objs.size<=a):H a=none:=by
 cases q:H a with
 | none=>rfl
 | some u=>exact absurd (bD (x.lt q) e) (gv _)
theorem HOk.kept (x:HOk P w H h) (k:∀ b u,h.get? b=some u->h'.get? b=some u):HOk P w H h':=fun a o e =>
 (x a o e).nJ (fun b u _ q=>k b u q) (fun _ q=>q) fun _ _ q=>q
theorem HOk.laid (x:HOk P w H h) (k:∀ b u,h.get? b=some u->h'.get? b=some u) (hp:h.objs.size<=a) (new:c8 P w (upd H a o) h' a o):HOk P w (upd H a o) h':=fun b u e=>by
 have hn:=x.fresh hp
 by_cases hb:b=a
 ·subst hb;rw[aS] at e;cases e;exact new
 ·rw[aP hb] at e
  exact (x b u e).nJ (fun c v _ q=>k c v q) (fun c q=>by rw[aP (b8 q hn)];exact q) fun c xs q=>by rw[aP (b8 q hn)];exact q
end

def Rd (H:Hp) (a:Addr) (u:HO):Prop:=H a=some u∨∃ o,H a=some (.frz o u)
theorem Rd.of {H:Hp}{u:HO} (h:H a=some u):Rd H a u:=.inl h
theorem Rd.ok {H:Hp}{u:HO} (r:Rd H a u) (x:HOk P w H h):c8 P w H h a u:=by
 rcases r with r | ⟨o,r⟩
 ·exact x a u r
 ·obtain⟨_,q⟩:=x a _ r
  exact q
def Mut:Option HO->Prop
 | some (.lst _)=>True
 | some (.dK _)=>True
 | some (.dT _)=>True
 | some (.set _ _)=>True
 | some (.ins _ _ _)=>True
 | some (.ext _)=>True
 | _=>False
section
variable {P:Program}{w:World}{H:Hp}{h h':Heap}{x e:Addr}{o':HO}
theorem HOk.write (ok:HOk P w H h) (mu:Mut (H x)) (he:e=x∨H e=some (.own x)) (k:∀ b u,b≠e->h.get? b=some u->h'.get? b=some u) (heo:∃ u,h'.get? e=some u)
  (new:c8 P w (upd H x o') h' x o'):HOk P w (upd H x o') h':=fun b u q=>by
 have nown:∀ c y,H c=some (.own y)->c≠x:=fun c y r z=>by subst z;rw[r] at mu;exact mu
 have ntup:∀ c xs,H c=some (.tup xs)->c≠x:=fun c xs r z=>by subst z;rw[r] at mu;exact mu
 by_cases hb:b=x
 ·subst hb;rw[aS] at q;cases q;exact new
 ·rw[aP hb] at q
  by_cases hbe:b=e
  ·have q':H b=some (.own x):=by
    rcases he with z | z
    ·exact absurd (hbe.trans z) hb
    ·rw[hbe];exact z
   rw[q] at q';cases q'
   obtain⟨v,hv⟩:=heo
   exact⟨v,by rw[hbe];exact hv⟩
  ·refine (ok b u q).nJ (fun c v hc r=>k c v ?_ r) (fun c r=>by rw[aP (nown c b r)];exact r) (fun c xs r=>by rw[aP (ntup c xs r)];exact r) fun c ob u r=>(aP (fun z=>by subst z;rw[r] at mu;exact mu)).trans r
   rcases hc with rfl | hc
   ·exact hbe
   ·rintro rfl
    rcases he with z | z
    ·exact nown c b hc z
    ·rw[hc] at z;cases z;exact hb rfl
end

structure Un (fs ex:List Addr) (H H':Hp) (h h':Heap):Prop where
 keep:∀ b o,h.get? b=some o->H b=none->b∉fs->b∉ex->h'.get? b=some o
 slot:∀ b o,h.get? b=some o->H b=none->b∈fs->b∉ex->∃ sl,h'.get? b=some { o with slots:=sl }
 free:∀ b o,h.get? b=some o->H b=none->b∉ex->H' b=none
 there:∀ b o,h.get? b=some o->b∉ex->∃ o',h'.get? b=some o'
 tups:∀ b xs,H b=some (.tup xs)->H' b=some (.tup xs)
 frzs:∀ b o u,H b=some (.frz o u)->H' b=some (.frz o u)
 tbls:∀ b ps,H b=some (.tbl ps)->∃ more,H' b=some (.tbl (ps++more))
section
variable {fs fs' ex ex':List Addr}{H H1 H2:Hp}{h h1 h2 h':Heap}{a x e:Addr}{o:HO}
theorem Un.any (u:Un fs ex H H1 h h1) {ob:Obj} (q:h.get? b=some ob) (n:H b=none) (hx:b∉ex):∃ sl,h1.get? b=some { ob with slots:=sl }:=by
 by_cases hb:b∈fs
 ·exact u.slot b ob q n hb hx
 ·exact⟨ob.slots,u.keep b ob q n hb hx⟩
theorem Un.trans (a:Un fs ex H H1 h h1) (b:Un fs ex H1 H2 h1 h2):Un fs ex H H2 h h2 where
 keep:=fun c ob q n hc hx=>b.keep c ob (a.keep c ob q n hc hx) (a.free c ob q n hx) hc hx
 slot:=fun c ob q n hc hx=>by
  obtain⟨sl,e1⟩:=a.slot c ob q n hc hx
  obtain⟨sl',e2⟩:=b.slot c _ e1 (a.free c ob q n hx) hc hx
  exact⟨sl',e2⟩
 free:=fun c ob q n hx=>by
  obtain⟨o',e1⟩:=a.there c ob q hx
  exact b.free c o' e1 (a.free c ob q n hx) hx
 there:=fun c ob q hx=>by
  obtain⟨o',e1⟩:=a.there c ob q hx
  exact b.there c o' e1 hx
 tups:=fun c xs q=>b.tups c xs (a.tups c xs q)
 frzs:=fun c ob xs q=>b.frzs c ob xs (a.frzs c ob xs q)
 tbls:=fun c ps q=>by
  obtain⟨m1,e1⟩:=a.tbls c ps q
  obtain⟨m2,e2⟩:=b.tbls c _ e1
  exact⟨m1++m2,by rw[e2,Array.append_assoc]⟩
theorem Un.kept (k:∀ b u,h.get? b=some u->h'.get? b=some u):Un fs ex H H h h' :=
 ⟨fun b ob q _ _ _=>k b ob q,fun b ob q _ _ _=>⟨ob.slots,k b ob q⟩,fun _ _ _ n _=>n,fun b ob q _=>⟨ob,k b ob q⟩,fun _ _ q=>q,fun _ _ _ q=>q,fun _ ps q=>⟨#[],by rw[q];simp⟩⟩
theorem Un.refl:Un fs ex H H h h:=Un.kept fun _ _ q=>q
theorem Un.laid (k:∀ b u,h.get? b=some u->h'.get? b=some u) (hp:h.objs.size<=a) (hn:H a=none):Un fs ex H (upd H a o) h h' where
 keep:=fun b u q _ _ _=>k b u q
 slot:=fun b u q _ _ _=>⟨u.slots,k b u q⟩
 free:=fun b u q n _=>by rw[aP (bE (bD (aT q) hp))];exact n
 there:=fun b u q _=>⟨u,k b u q⟩
 tups:=fun b xs q=>by rw[aP (b8 q hn)];exact q
 frzs:=fun b u xs q=>by rw[aP (b8 q hn)];exact q
 tbls:=fun b ps q=>⟨#[],by rw[aP (b8 q hn),q];simp⟩
theorem Un.write (mu:Mut (H x)) (he:e=x∨H e=some (.own x)) (k:∀ b u,b≠e->h.get? b=some u->h'.get? b=some u) (heo:∃ u,h'.get? e=some u):Un fs ex H (upd H x o) h h':=by
 have hx:∀ b,H b=none->b≠x:=fun b n z=>by subst z;rw[n] at mu;exact mu
 have hb:∀ b,H b=none->b≠e:=fun b n z=>by
  subst z
  rcases he with r | r
  ·exact hx b n r
  ·rw[n] at r;cases r
 have hm:∀ b u,H b=some u->¬ Mut (some u)->b≠x:=fun b u q nm z=>by subst z;rw[q] at mu;exact nm mu
 refine⟨fun b u q n _ _=>k b u (hb b n) q,fun b u q n _ _=>⟨u.slots,k b u (hb b n) q⟩,fun b u q n _=>by rw[aP (hx b n)];exact n,fun b u q _=>?_,
  fun b xs q=>by rw[aP (hm b _ q fun z=>z)];exact q,fun b u xs q=>by rw[aP (hm b _ q fun z=>z)];exact q,fun b ps q=>⟨#[],by rw[aP (hm b _ q fun z=>z),q];simp⟩⟩
 by_cases hbe:b=e
 ·subst hbe;exact heo
 ·exact⟨u,k b u hbe q⟩
theorem Un.mono (u:Un fs ex H H1 h h1) (hs:∀ b∈fs,b∈fs') (hx:∀ b∈ex,b∈ex'):Un fs' ex' H H1 h h1 :=
 ⟨fun b ob q n hb he=>u.keep b ob q n (fun z=>hb (hs b z)) fun z=>he (hx b z),fun _ _ q n _ he=>u.any q n fun z=>he (hx _ z),fun b ob q n he=>u.free b ob q n fun z=>he (hx b z),fun b ob q he=>u.there b ob q fun z=>he (hx b z),u.tups,u.frzs,u.tbls⟩
end

def trk (h:Heap) (H:Hp):List Addr:=(List.range h.objs.size).filter fun a=>(H a).isSome
def vg (h:Heap) (H:Hp):Heap:=PySem.W.hideAll h (trk h H)
theorem BI (h:Heap) (H:Hp):(vg h H).objs.size=h.objs.size:=PySem.W.hideAll_size _ _
theorem DC {H:Hp}{o:Obj} (e:h.get? b=some o) (n:H b=none):(vg h H).get? b=some o :=
 PySem.W.hideAll_get _ e fun hm=>by
  have q:(H b).isSome=true:=(kf.mp hm).2
  rw[n] at q;simp at q
theorem Gi {H:Hp}{o:Obj} (e:(vg h H).get? b=some o):h.get? b=some o/\H b=none:=by
 have e':h.get? b=some o:=pC (trk h H) e
 refine⟨e',?_⟩
 cases q:H b with
 | none=>rfl
 | some x =>
  have hm:b∈trk h H:=kf.mpr ⟨gm.mpr (aT e'),by simp [q]⟩
  have z:(vg h H).get? b=none:=PySem.W.hideAll_none (trk h H) hm
  rw[z] at e;cases e

def Fd (g h:Heap) (L:Addr):List (Addr×Obj):=(List.range h.objs.size).filterMap fun a=>if a=L∨(g.get? a).isSome=true then none else (h.get? a).map fun o=>(a,o)
def rest (g h:Heap) (L d:Addr):List (Addr×Obj):=(Fd g h L).filter fun p=>decide (p.1≠d)
end
section

structure Mod (K:PySem.W.Frag) (mg:Str->Option Value) (base:Heap):Prop where
 kin:K.In base
 glob:base.Ns mainGlobals mg
 blt:∃ mb,base.Ns builtinsNs mb/\∀ x:Str,x≠"__name__"->mb x=bootBuiltins x
 nolimit:base.NoLimit
 bmn:∃ bm ob,mg "__builtins__"=some (.ref bm)/\bm≠builtinsNs/\base.get? bm=some ob/\ob.cls=.type "module"/\ob.dict=some builtinsNs/\ob.data=.plain

structure Cx where
 prog:Program
 w:World
 K:PySem.W.Frag
 mg:Str->Option Value
 base:Heap
 A:Around
 N:List Str
 s₀:Shared
 H₀:Hp
 env:Env
 outer:List Env
 stack:List Env
 ex:List Addr
 fn:Str->Bool
 calm:Bool
 pn:List (Addr×Obj)
 xe:Value->Shared->Prop
def frs (l:List Env):List Addr:=l.filterMap (·.frame)
abbrev Cx.fs (X:Cx):List Addr:=frs X.outer

def Vis (sc:Scope) (x:Str):Prop:=sc.names.lookup x=some .local∨sc.names.lookup x=some .cell∨sc.names.lookup x=some .free
def Loc (sc:Scope) (x:Str):Prop:=sc.names.lookup x=some .local∨sc.names.lookup x=some .cell
def Look (env:Env) (h:Heap) (m:Str->Option Value) (x:Str) (u:Value):Prop :=
 (env.kindOf x=some .local/\m x=some u)∨((env.kindOf x=some .cell∨env.kindOf x=some .free)/\∃ c,env.cells.lookup x=some c/\h.IsCell c (some u))

structure Cx.Ok (X:Cx):Prop where
 mod:Mod X.K X.mg X.base
 kind:X.env.scope.kind=.function
 glob:X.env.globals=mainGlobals
 blt:X.env.builtins=builtinsNs
 above:X.s₀.heap.objs.size<=X.env.locals
 inj:∀ x y c,X.env.cells.lookup x=some c->X.env.cells.lookup y=some c->x=y
 has:∀ x,(X.env.kindOf x=some .cell∨X.env.kindOf x=some .free)->∃ c,X.env.cells.lookup x=some c
 cab:∀ x c,X.fn x=true->X.env.cells.lookup x=some c->X.s₀.heap.objs.size<=c
 hd:X.calm=true->X.A.handled=none
 frames:X.A.frames=some X.stack
 stk:X.stack=X.outer∨(X.stack=X.env::X.outer/\X.env.frame=some X.env.locals)
 exf:∀ b∈X.ex,b≠X.env.locals/\∀ x c,X.env.cells.lookup x=some c->c≠b
 bs:∀ b o,X.base.get? b=some o->X.s₀.heap.get? b=some o/\X.H₀ b=none
 bsz:X.base.objs.size<=X.s₀.heap.objs.size
 noex:∀ b o,X.base.get? b=some o->b∉X.ex
 exfs:∀ b∈X.ex,b∉X.fs
 mU:X.s₀.heap.FunFrames X.base X.outer
 frf:∀ b∈X.fs,X.H₀ b=none

structure Inv (X:Cx) (pins:List (Addr×Obj)) (σ:List (Option V)) (H:Hp) (s:Shared):Prop where
 ok:X.Ok
 os:s.os=X.s₀.os
 bare:AllBare s.gens
 base:Un X.fs X.ex X.H₀ H X.s₀.heap s.heap
 loc:∃ m,s.heap.Ns X.env.locals m/\∀ (i:Nat) (x:Str) (v:V),X.N[i]?=some x->σ[i]?=some (some v)->Vis X.env.scope x->∃ u,RelV v u/\Look X.env s.heap m x u
 cell:∀ x c,X.env.cells.lookup x=some c->∃ v,s.heap.IsCell c v
 free:H X.env.locals=none
 freeC:∀ x c,X.env.cells.lookup x=some c->H c=none
 pin:∀ p∈X.pn++pins,s.heap.get? p.1=some p.2/\H p.1=none/\p.1≠X.env.locals/\p.1∉X.fs/\∀ v,p.2.data≠.cell v
 hok:HOk X.prog X.w H s.heap
 len:σ.length=X.N.length

section
variable {X:Cx}{pins:List (Addr×Obj)}{σ:List (Option V)}{H H':Hp}{s:Shared}{h':Heap}

theorem Cx.Ok.Ld (ok:X.Ok) {o:Obj} (e:X.base.get? b=some o):b∉X.fs:=fun hb=>by
 have:=(ok.mU.mem hb).1
 rw[e] at this;cases this
theorem Inv.bs (I:Inv X pins σ H s):∀ b o,X.base.get? b=some o->s.heap.get? b=some o/\H b=none:=fun b o e =>
 ⟨I.base.keep b o (I.ok.bs b o e).1 (I.ok.bs b o e).2 (I.ok.Ld e) (I.ok.noex b o e),I.base.free b o (I.ok.bs b o e).1 (I.ok.bs b o e).2 (I.ok.noex b o e)⟩
theorem Inv.bk (I:Inv X pins σ H s):∀ b o,X.base.get? b=some o->s.heap.get? b=some o:=fun b o e=>(I.bs b o e).1
theorem Inv.mod (I:Inv X pins σ H s):Mod X.K X.mg X.base:=I.ok.mod
theorem Inv.kIn (I:Inv X pins σ H s):X.K.In s.heap:=I.ok.mod.kin.keeps I.bk
theorem Inv.nolimit (I:Inv X pins σ H s):s.heap.NoLimit:=I.ok.mod.nolimit.keeps I.bk
theorem Inv.fr (I:Inv X pins σ H s):∃ m,Fr X.base X.env.locals s.heap m :=
 let ⟨m,hn,_⟩:=I.loc
 ⟨m,hn,I.bk,bJ I.ok.bsz I.ok.above⟩
theorem Inv.lt (I:Inv X pins σ H s):X.env.locals<s.heap.objs.size:=let ⟨_,hn,_⟩:=I.loc;hn.lt
theorem Inv.sz (I:Inv X pins σ H s):X.s₀.heap.objs.size<=s.heap.objs.size:=bJ I.ok.above (aN I.lt)
theorem Inv.Le (I:Inv X pins σ H s)  (h:s.heap.objs.size<=a):a∉X.fs:=fun hb=>by
 obtain⟨_,o,ho,_⟩:=I.ok.mU.mem hb
 exact absurd (bD (aT ho) (bJ I.sz h)) (gv _)
theorem Inv.cne (I:Inv X pins σ H s):∀ x c,X.env.cells.lookup x=some c->c≠X.env.locals:=fun x c e z=>by
 obtain⟨v,o,ho,hd⟩:=I.cell x c e
 obtain⟨m,⟨o',es,ep,ho',hd',_⟩,_⟩:=I.loc
 rw[z,ho'] at ho;cases ho;rw[hd'] at hd;cases hd
theorem Inv.mU (I:Inv X pins σ H s):s.heap.FunFrames X.base X.outer:=by
 have all:∀ (l:List Env),(∀ b∈frs l,b∈X.fs)->X.s₀.heap.FunFrames X.base l->s.heap.FunFrames X.base l:=by
  intro l
  induction l with
  | nil=>intro _ _;trivial
  | cons env r ih =>
   intro hs hl
   obtain⟨hk,⟨L,o,hf,hn,ho,hd⟩,hr⟩:=hl
   have hL:L∈X.fs:=hs L (by unfold frs;rw[mi,hf];exact aR)
   obtain⟨sl,e⟩:=I.base.slot L o ho (I.ok.frf L hL) hL fun z=>I.ok.exfs L z hL
   exact⟨hk,⟨L,_,hf,hn,e,hd⟩,ih (fun b hb=>hs b (by unfold frs;rw[mi,hf];exact bb _ hb)) hr⟩
 exact all X.outer (fun _ hb=>hb) I.ok.mU

theorem Inv.stack (I:Inv X pins σ H s):s.heap.FunFrames X.base X.stack:=by
 rcases I.ok.stk with e | ⟨e,hf⟩
 ·rw[e];exact I.mU
 ·rw[e]
  obtain⟨m,hn,_⟩:=I.loc
  refine .cons (by rw[I.ok.kind];decide) hf hn ?_ I.mU
  exact Heap.get?_none_of_le (bJ I.ok.bsz I.ok.above)
theorem Inv.vY (I:Inv X pins σ H s):∀ b∈frs X.stack,b∈X.env.locals::X.fs:=fun b hb=>by
 rcases I.ok.stk with e | ⟨e,hf⟩
 ·rw[e] at hb;exact bb _ hb
 ·rw[e] at hb
  unfold frs at hb
  rw[mi,hf] at hb
  exact hb
theorem Inv.oR (I:Inv X pins σ H s):∀ b∈frs X.stack,H b=none:=fun b hb=>by
 rcases aH.mp (I.vY b hb) with e | hb
 ·rw[e];exact I.free
 ·obtain⟨_,o,ho,_⟩:=I.ok.mU.mem hb
  exact I.base.free b o ho (I.ok.frf b hb) fun z=>I.ok.exfs b z hb

theorem Inv.step {g':Array GenState}{t':Nat}{d':Drawn}{ch:List Addr} (I:Inv X pins σ H s)
  (hch:∀ b∈ch,(b∈X.ex∨X.s₀.heap.objs.size<=b)/\b≠X.env.locals/\(∀ x c,X.env.cells.lookup x=some c->c≠b)/\∀ p∈X.pn++pins,p.1≠b)
  (keep:∀ b o,b≠X.env.locals->b∉X.fs->b∉ch->s.heap.get? b=some o->H b=none->h'.get? b=some o)
  (slot:∀ b o,b≠X.env.locals->b∈X.fs->b∉ch->s.heap.get? b=some o->H b=none->∃ sl,h'.get? b=some { o with slots:=sl }) (free:∀ b o,b∉ch->s.heap.get? b=some o->H b=none->H' b=none)
  (there:∀ b o,b∉ch->s.heap.get? b=some o->∃ o',h'.get? b=some o')
  (tups:∀ b xs,H b=some (.tup xs)->H' b=some (.tup xs)) (frzs:∀ b o u,H b=some (.frz o u)->H' b=some (.frz o u)) (tbls:∀ b ps,H b=some (.tbl ps)->∃ more,H' b=some (.tbl (ps++more)))
  (ns:∀ m,s.heap.Ns X.env.locals m->h'.Ns X.env.locals m) (hok:HOk X.prog X.w H' h') (hg:AllBare g') :
  Inv X pins σ H' { s with heap:=h',gens:=g',drawn:=d',toks:=t' }:=by
 have neL:∀ b o,X.s₀.heap.get? b=some o->b≠X.env.locals:=fun b o e=>bE (bD (aT e) I.ok.above)
 have neC:∀ b o,X.s₀.heap.get? b=some o->b∉X.ex->b∉ch:=fun b o e hx hb=>by
  rcases (hch b hb).1 with z | z
  ·exact hx z
  ·exact absurd (bD (aT e) z) (gv _)
 have cellK:∀ x c,X.env.cells.lookup x=some c->∀ v,s.heap.IsCell c v->h'.IsCell c v:=fun x c e v ⟨o,ho,hd⟩=>by
  have nch:c∉ch:=fun z=>(hch c z).2.2.1 x c e rfl
  by_cases hc:c∈X.fs
  ·obtain⟨sl,q⟩:=slot c o (I.cne x c e) hc nch ho (I.freeC x c e)
   exact⟨_,q,hd⟩
  ·exact⟨o,keep c o (I.cne x c e) hc nch ho (I.freeC x c e),hd⟩
 refine⟨I.ok,I.os,hg,⟨fun b o e n hb hx=>?_,fun b o e n hb hx=>?_,fun b o e n hx=>?_,fun b o e hx=>?_,fun b xs e=>tups b xs (I.base.tups b xs e),fun b o xs e=>frzs b o xs (I.base.frzs b o xs e),fun b ps e=>?_⟩,?_,fun x c e=>?_,?_,fun x c e=>?_,fun p hp=>?_,hok,I.len⟩
 ·exact keep b o (neL b o e) hb (neC b o e hx) (I.base.keep b o e n hb hx) (I.base.free b o e n hx)
 ·obtain⟨sl,e1⟩:=I.base.slot b o e n hb hx
  obtain⟨sl',e2⟩:=slot b _ (neL b o e) hb (neC b o e hx) e1 (I.base.free b o e n hx)
  exact⟨sl',e2⟩
 ·obtain⟨o',e1⟩:=I.base.there b o e hx
  exact free b o' (neC b o e hx) e1 (I.base.free b o e n hx)
 ·obtain⟨o',e1⟩:=I.base.there b o e hx
  exact there b o' (neC b o e hx) e1
 ·obtain⟨m1,e1⟩:=I.base.tbls b ps e
  obtain⟨m2,e2⟩:=tbls b _ e1
  exact⟨m1++m2,by rw[e2,Array.append_assoc]⟩
 ·obtain⟨m,hn,hl⟩:=I.loc
  refine⟨m,ns m hn,fun i x v e1 e2 e3=>?_⟩
  obtain⟨u,r,l⟩:=hl i x v e1 e2 e3
  refine⟨u,r,?_⟩
  rcases l with l | ⟨k,c,e,z⟩
  ·exact .inl l
  ·exact .inr ⟨k,c,e,cellK x c e _ z⟩
 ·obtain⟨v,z⟩:=I.cell x c e
  exact⟨v,cellK x c e v z⟩
 ·obtain⟨m,⟨o,_,_,ho,_⟩,_⟩:=I.loc
  exact free _ o (fun z=>(hch _ z).2.1 rfl) ho I.free
 ·obtain⟨v,o,ho,hd⟩:=I.cell x c e
  exact free c o (fun z=>(hch c z).2.2.1 x c e rfl) ho (I.freeC x c e)
 ·obtain⟨e,n,ne,nf,d⟩:=I.pin p hp
  have nch:p.1∉ch:=fun z=>(hch p.1 z).2.2.2 p hp rfl
  exact⟨keep p.1 p.2 ne nf nch e n,free p.1 p.2 nch e n,ne,nf,d⟩
theorem Inv.un {t':Nat} (I:Inv X pins σ H s) (u:Un X.fs [] H H' s.heap h') (hok:HOk X.prog X.w H' h'):Inv X pins σ H' { s with heap:=h',toks:=t' }:=by
 obtain⟨m,⟨o,es,ep,ho,r⟩,_⟩:=id I.loc
 obtain⟨sl,hL⟩:=u.any ho I.free (by simp)
 exact I.step (g':=s.gens) (d':=s.drawn) (ch:=[]) (fun _ z=>nomatch z) (fun b o _ hb _ e n=>u.keep b o e n hb (by simp)) (fun b o _ hb _ e n=>u.slot b o e n hb (by simp)) (fun b o _ e n=>u.free b o e n (by simp)) (fun b o _ e=>u.there b o e (by simp)) u.tups u.frzs u.tbls (fun m' hm=>by
  obtain⟨o',es',ep',ho',r'⟩:=hm
  rw[ho] at ho';cases ho'
  exact⟨_,es',ep',hL,r'⟩) hok I.bare
theorem Inv.call {t':Nat}{d':Drawn} (I:Inv X pins σ H s) (u:Un (frs X.stack) ch H H' s.heap h') (hok:HOk X.prog X.w H' h') (hg:AllBare g')
  (hch:∀ b∈ch,(b∈X.ex∨X.s₀.heap.objs.size<=b)/\b≠X.env.locals/\(∀ x c,X.env.cells.lookup x=some c->c≠b)/\∀ p∈X.pn++pins,p.1≠b) :
  Inv X pins σ H' { s with heap:=h',gens:=g',drawn:=d',toks:=t' }:=by
 obtain⟨m,⟨o,es,ep,ho,r⟩,_⟩:=id I.loc
 obtain⟨sl,hL⟩:=u.any ho I.free fun z=>(hch _ z).2.1 rfl
 exact I.step (ch:=ch) hch (fun b o hL hb hc e n=>u.keep b o e n (fun z=>(aH.mp (I.vY b z)).elim hL hb) hc) (fun b o _ _ hc e n=>u.any e n hc) (fun b o hc e n=>u.free b o e n hc) (fun b o hc e=>u.there b o e hc) u.tups u.frzs u.tbls (fun m' hm=>by
  obtain⟨o',es',ep',ho',r'⟩:=hm
  rw[ho] at ho';cases ho'
  exact⟨_,es',ep',hL,r'⟩) hok hg
theorem Inv.turned {t':Nat} (I:Inv X pins σ H s) (k:∀ b o,b≠it->s.heap.get? b=some o->h'.get? b=some o) (hn:H it=none) (hL:it≠X.env.locals)
  (h1:it∈X.ex∨X.s₀.heap.objs.size<=it) (h2:∀ x c,X.env.cells.lookup x=some c->c≠it) (h3:∀ p∈X.pn++pins,p.1≠it):Inv X pins σ H { s with heap:=h',toks:=t' }:=by
 have nit:∀ b u,H b=some u->b≠it:=fun b u e z=>by rw[z,hn] at e;cases e
 refine I.step (g':=s.gens) (d':=s.drawn) (ch:=[it]) (fun b hb=>?_) (fun b o _ _ hc e _=>k b o (fun z=>hc (by simp [z])) e) (fun b o _ _ hc e _=>⟨o.slots,k b o (fun z=>hc (by simp [z])) e⟩) (fun _ _ _ _ n=>n)
  (fun b o hc e=>⟨o,k b o (fun z=>hc (by simp [z])) e⟩) (fun _ _ e=>e) (fun _ _ _ e=>e) (fun b ps e=>⟨#[],by rw[e];simp⟩) (fun m hm=>?_) (fun b u e=>?_) I.bare
 ·have e:b=it:=by simpa using hb
  subst e
  exact⟨h1,hL,h2,h3⟩
 ·obtain⟨o,es,ep,ho,r⟩:=hm
  exact⟨o,es,ep,k _ o (Ne.symm hL) ho,r⟩
 ·refine (I.hok b u e).nJ (fun c v hc q=>k c v ?_ q) (fun _ q=>q) fun _ _ q=>q
  rcases hc with z | z
  ·rw[z];exact nit b u e
  ·exact nit c _ z
theorem Inv.tok (I:Inv X pins σ H s) (t:Nat):Inv X pins σ H { s with toks:=t }:=I.un (h':=s.heap) (t':=t) Un.refl I.hok
theorem Inv.kept {t':Nat} (I:Inv X pins σ H s) (k:∀ b u,s.heap.get? b=some u->h'.get? b=some u):Inv X pins σ H { s with heap:=h',toks:=t' }:=I.un (Un.kept k) (I.hok.kept k)
theorem Inv.laid {a:Addr}{o:HO}{t':Nat} (I:Inv X pins σ H s) (k:∀ b u,s.heap.get? b=some u->h'.get? b=some u) (hp:s.heap.objs.size<=a) (new:c8 X.prog X.w (upd H a o) h' a o) :
  Inv X pins σ (upd H a o) { s with heap:=h',toks:=t' }:=I.un (Un.laid k hp (I.hok.fresh hp)) (I.hok.laid k hp new)
theorem Inv.write {x e:Addr}{o:HO}{t':Nat} (I:Inv X pins σ H s) (mu:Mut (H x)) (he:e=x∨H e=some (.own x)) (k:∀ b u,b≠e->s.heap.get? b=some u->h'.get? b=some u) (heo:∃ u,h'.get? e=some u)
  (new:c8 X.prog X.w (upd H x o) h' x o):Inv X pins σ (upd H x o) { s with heap:=h',toks:=t' }:=I.un (Un.write mu he k heo) (I.hok.write mu he k heo new)
theorem Inv.AB {pins':List (Addr×Obj)} (I:Inv X pins σ H s) (h:∀ p∈pins',s.heap.get? p.1=some p.2/\H p.1=none/\p.1≠X.env.locals/\p.1∉X.fs/\∀ v,p.2.data≠.cell v):Inv X pins' σ H s :=
 ⟨I.ok,I.os,I.bare,I.base,I.loc,I.cell,I.free,I.freeC,fun p hp=>(bw.mp hp).elim (fun z=>I.pin p (fA _ z)) (h p),I.hok,I.len⟩

theorem sx {N:List Str} (hN:N.Nodup) {i j:Nat} (a:N[i]?=some x) (b:N[j]?=some x):i=j:=by
 obtain⟨h1,e1⟩:=b9.mp a
 obtain⟨h2,e2⟩:=b9.mp b
 exact (List.getElem_inj hN).mp (e1.trans e2.symm)

theorem uL {M:Model}{A:Around}{E:Value->Shared->Prop}{v:V}{Q:Unit->Shared->Prop} (I:Inv X pins σ H s) (hN:X.N.Nodup) (hi:X.N[i]?=some x) (hx:Loc X.env.scope x) (r:RelV v u)
  (h:∀ s',Inv X pins (σ.set i (some v)) H s'->(∃ a,Heap.SameBut a s.heap s'.heap/\(a=X.env.locals∨X.env.cells.lookup x=some a))->Q () s') (hf:X.fn x=true∨X.env.scope.names.lookup x=some .local:=by first | exact .inl rfl | exact .inr rfl | assumption):wpAny M A (storeName X.env x u) Q E s:=by
 obtain⟨m,hn,hl⟩:=id I.loc
 have hcls:(X.env.scope.kind==.class||(X.env.scope.kind==.module&&X.env.locals != X.env.globals))=false:=by rw[I.ok.kind];rfl
 have hiσ:i<σ.length:=by rw[I.len];exact (b9.mp hi).1
 have cne:=I.cne
 have tracked:∀ {a:Addr}{h':Heap},(∃ o,s.heap.get? a=some o/\H a=none)->Heap.SameBut a s.heap h'->HOk X.prog X.w H h':=fun {a h'} ha hs b ob e=>by
  obtain⟨_,_,hfree⟩:=ha
  refine (I.hok b ob e).nJ (fun c w' hc q=>(hs.2 c ?_).trans q) (fun _ q=>q) fun _ _ q=>q
  rintro rfl
  rcases hc with rfl | hc
  ·rw[hfree] at e;cases e
  ·rw[hfree] at hc;cases hc
 rcases hx with hk | hk
 ·refine wpAny_storeName_local hk hn (fun h' hn' hs=>?_) hcls
  obtain⟨oL,_,_,hoL,_⟩:=id hn
  refine h _ ⟨I.ok,I.os,I.bare,⟨fun b o e n hb hx=>?_,fun b o e n hb hx=>?_,I.base.free,fun b o e hx=>?_,I.base.tups,I.base.frzs,I.base.tbls⟩,⟨_,hn',fun j y v' e1 e2 e3=>?_⟩,fun y c e=>?_,I.free,I.freeC,fun p hp=>?_,tracked ⟨oL,hoL,I.free⟩ hs,by simpa using I.len⟩ ⟨_,hs,.inl rfl⟩
  ·exact (hs.2 b (bE (bD (aT e) I.ok.above))).trans (I.base.keep b o e n hb hx)
  ·obtain⟨sl,e1⟩:=I.base.slot b o e n hb hx
   exact⟨sl,(hs.2 b (bE (bD (aT e) I.ok.above))).trans e1⟩
  ·obtain⟨o',e1⟩:=I.base.there b o e hx
   exact⟨o',(hs.2 b (bE (bD (aT e) I.ok.above))).trans e1⟩
  ·by_cases hj:j=i
   ·subst hj
    rw[hi] at e1;cases e1
    rw[kc hiσ] at e2
    cases e2
    exact⟨u,r,.inl ⟨hk,by simp⟩⟩
   ·rw[iQ (Ne.symm hj)] at e2
    obtain⟨u',r',q⟩:=hl j y v' e1 e2 e3
    refine⟨u',r',?_⟩
    rcases q with ⟨k,e⟩ | ⟨k,c,e,z⟩
    ·refine .inl ⟨k,?_⟩
     have:y≠x:=fun e=>hj (sx hN e1 (e ▸ hi))
     simp [this,e]
    ·exact .inr ⟨k,c,e,z.sameBut hs (cne y c e)⟩
  ·obtain⟨w',z⟩:=I.cell y c e
   exact⟨w',z.sameBut hs (cne y c e)⟩
  ·obtain⟨e,n,ne,nf,d⟩:=I.pin p hp
   exact⟨(hs.2 p.1 ne).trans e,n,ne,nf,d⟩
 ·have hfn:X.fn x=true:=by
   rcases hf with z | z
   ·exact z
   ·rw[z] at hk;cases hk
  obtain⟨c,hc⟩:=I.ok.has x (.inl hk)
  obtain⟨w',z⟩:=I.cell x c hc
  refine wpAny_storeName_cell I.ok.kind hk hc z (fun h' hc' hs=>?_)
  obtain⟨oc,hoc,hocd⟩:=id z
  refine h { s with heap:=h' } ⟨I.ok,I.os,I.bare,⟨fun b o e n hb hx=>?_,fun b o e n hb hx=>?_,I.base.free,fun b o e hx=>?_,I.base.tups,I.base.frzs,I.base.tbls⟩,⟨m,hn.sameBut hs (Ne.symm (cne x c hc)),fun j y v' e1 e2 e3=>?_⟩,fun y c' e=>?_,I.free,I.freeC,fun p hp=>?_,tracked ⟨oc,hoc,I.freeC x c hc⟩ hs,by simpa using I.len⟩ ⟨c,hs,.inr hc⟩
  ·exact (hs.2 b (bE (bD (aT e) (I.ok.cab x c hfn hc)))).trans (I.base.keep b o e n hb hx)
  ·obtain⟨sl,e1⟩:=I.base.slot b o e n hb hx
   exact⟨sl,(hs.2 b (bE (bD (aT e) (I.ok.cab x c hfn hc)))).trans e1⟩
  ·obtain⟨o',e1⟩:=I.base.there b o e hx
   exact⟨o',(hs.2 b (bE (bD (aT e) (I.ok.cab x c hfn hc)))).trans e1⟩
  ·by_cases hj:j=i
   ·subst hj
    rw[hi] at e1;cases e1
    rw[kc hiσ] at e2
    cases e2
    exact⟨u,r,.inr ⟨.inl hk,c,hc,hc'⟩⟩
   ·rw[iQ (Ne.symm hj)] at e2
    obtain⟨u',r',q⟩:=hl j y v' e1 e2 e3
    refine⟨u',r',?_⟩
    rcases q with q | ⟨k,c',e,z'⟩
    ·exact .inl q
    ·refine .inr ⟨k,c',e,z'.sameBut hs ?_⟩
     rintro rfl
     exact hj (sx hN e1 (I.ok.inj _ _ _ e hc ▸ hi))
  ·by_cases hcc:c'=c
   ·subst hcc;exact⟨_,hc'⟩
   ·obtain⟨w2,z2⟩:=I.cell y c' e
    exact⟨w2,z2.sameBut hs hcc⟩
  ·obtain⟨e,n,ne,nf,d⟩:=I.pin p hp
   refine⟨(hs.2 p.1 ?_).trans e,n,ne,nf,d⟩
   intro q
   rw[q,hoc] at e
   have q':oc=p.2:=Option.some.inj e
   exact d w' (by rw[←q'];exact hocd)
theorem jY {M:Model}{A:Around}{E:Value->Shared->Prop}{v:V}{Q:Unit->Shared->Prop} (I:Inv X pins σ H s) (hN:X.N.Nodup) (hi:X.N[i]?=some x) (hx:Loc X.env.scope x) (r:RelV v u)
  (h:∀ s',Inv X pins (σ.set i (some v)) H s'->Q () s') (hf:X.fn x=true∨X.env.scope.names.lookup x=some .local:=by first | exact .inl rfl | exact .inr rfl | assumption):wpAny M A (storeName X.env x u) Q E s :=
 uL I hN hi hx r (fun s' I' _=>h s' I') hf
theorem Inv.uk {s':Shared} (I:Inv X pins σ H s) (ho:s'.os=s.os) (u:Un (frs X.stack) ch H H' s.heap s'.heap) (hok:HOk X.prog X.w H' s'.heap) (hg:AllBare s'.gens)
  (hch:∀ b∈ch,(b∈X.ex∨X.s₀.heap.objs.size<=b)/\b≠X.env.locals/\(∀ x c,X.env.cells.lookup x=some c->c≠b)/\∀ p∈X.pn++pins,p.1≠b):Inv X pins σ H' s':=by
 obtain⟨h',g',d',t',o'⟩:=s'
 have e:o'=s.os:=ho
 subst e
 exact I.call (g':=g') (t':=t') (d':=d') u hok hg hch
end

abbrev XK:=Value->Option Addr->Hp->Prop
abbrev St:=List (Option V)
abbrev VK:=V->Hp->Prop
abbrev TE:=St->Hp->VK->Prop
abbrev TT:=St->Hp->(Bool->Hp->Prop)->Prop
abbrev TA:=St->Hp->(List V->Hp->Prop)->Prop
structure Ends where
 nx:St->Hp->Prop
 rt:VK
 bk:St->Hp->Prop:=fun _ _=>False
 ct:St->Hp->Prop:=fun _ _=>False
abbrev TS:=Ends->St->Hp->Prop

inductive EP (X:Cx) (pins:List (Addr×Obj)) (σ:St) (Q:VK) (u:Value) (s':Shared):Prop
 | mk (v:V) (H':Hp) (i:Inv X pins σ H' s') (r:RelV v u) (q:Q v H'):EP X pins σ Q u s'
inductive TP (X:Cx) (pins:List (Addr×Obj)) (σ:St) (Q:Bool->Hp->Prop) (b:Bool) (s':Shared):Prop
 | mk (H':Hp) (i:Inv X pins σ H' s') (q:Q b H'):TP X pins σ Q b s'
inductive AP (X:Cx) (pins:List (Addr×Obj)) (σ:St) (Q:List V->Hp->Prop) (us:List Value) (s':Shared):Prop
 | mk (vs:List V) (H':Hp) (i:Inv X pins σ H' s') (r:Vals vs us) (q:Q vs H'):AP X pins σ Q us s'
def SP (X:Cx) (pins:List (Addr×Obj)) (D:Ends) (f:Flow) (s':Shared):Prop :=
 match f with
 | .next=>∃ σ' H',Inv X pins σ' H' s'/\D.nx σ' H'
 | .brk=>∃ σ' H',Inv X pins σ' H' s'/\D.bk σ' H'
 | .cont=>∃ σ' H',Inv X pins σ' H' s'/\D.ct σ' H'
 | .ret u=>∃ v σ' H',Inv X pins σ' H' s'/\RelV v u/\D.rt v H'

def PE (X:Cx) (e:Expr) (t:TE):Prop :=
 ∀ (pins:List (Addr×Obj)) (s:Shared) (σ:St) (H:Hp) (Q:VK),Inv X pins σ H s->t σ H Q->wpAny (model X.prog X.w) X.A (eval e X.env) (EP X pins σ Q) X.xe s
def PT (X:Cx) (e:Expr) (t:TT):Prop :=
 ∀ (pins:List (Addr×Obj)) (s:Shared) (σ:St) (H:Hp) (Q:Bool->Hp->Prop),Inv X pins σ H s->t σ H Q->wpAny (model X.prog X.w) X.A (isTrue e X.env (eval e X.env)) (TP X pins σ Q) X.xe s
def PW (X:Cx) (e:Expr) (t:TT):Prop :=
 ∀ (whole:Sem Value) (pins:List (Addr×Obj)) (s:Shared) (σ:St) (H:Hp) (Q:Bool->Hp->Prop),Inv X pins σ H s->t σ H Q->wpAny (model X.prog X.w) X.A (isTrue e X.env whole) (TP X pins σ Q) X.xe s
theorem PW.pt {X:Cx}{t:TT} (h:PW X e t):PT X e t:=h _
def PA (X:Cx) (es:List Expr) (t:TA):Prop :=
 ∀ (pos:Pos) (pins:List (Addr×Obj)) (s:Shared) (σ:St) (H:Hp) (Q:List V->Hp->Prop),Inv X pins σ H s->t σ H Q->wpAny (model X.prog X.w) X.A (spliced (backTo pos (starEach es X.env))) (AP X pins σ Q) X.xe s
def PS (X:Cx) (st:Stmt) (t:TS):Prop :=
 ∀ (pins:List (Addr×Obj)) (s:Shared) (σ:St) (H:Hp) (D:Ends),Inv X pins σ H s->t D σ H->wpAny (model X.prog X.w) X.A (exec st X.env) (SP X pins D) X.xe s
def PSs (X:Cx) (st:List Stmt) (t:TS):Prop :=
 ∀ (pins:List (Addr×Obj)) (s:Shared) (σ:St) (H:Hp) (D:Ends),Inv X pins σ H s->t D σ H->wpAny (model X.prog X.w) X.A (execs st X.env) (SP X pins D) X.xe s
theorem thn {α:Type}{t:Sem α}{Q Q':α->Shared->Prop} (h:wpAny M A t Q E s) (hQ:∀ a s,Q a s->Q' a s):wpAny M A t Q' E s:=bq h hQ fun _ _ x=>x
end
section
section
variable {X:Cx}

def tN (i:Nat):TE:=fun σ H Q=>∃ v,σ[i]?=some (some v)/\Q v H
def tC (v:V):TE:=fun _ H Q=>Q v H
theorem ze (hN:X.N[i]?=some x) (hv:Vis X.env.scope x) (hd:(x==("__debug__":Str))=false:=by decide) (hcd:(x==("__classdict__":Str))=false:=by decide):PE X (.Name x pos) (tN i):=by
 intro pins s σ H Q I h
 obtain⟨v,e,h⟩:=h
 obtain⟨m,hn,hl⟩:=I.loc
 obtain⟨u,r,l⟩:=hl i x v hN e hv
 have fin:EP X pins σ Q u s:=⟨v,H,I,r,h⟩
 rcases l with ⟨hk,hm⟩ | ⟨hk,c,hc,hcell⟩
 ·exact wpAny_Name (wpAny_loadName_local I.ok.kind hk hn hm fin) hd
 ·rcases hk with hk | hk
  ·exact wpAny_Name (wpAny_loadName_cell I.ok.kind hk hc hcell fin) hd
  ·exact wpAny_Name (wpAny_loadName_free I.ok.kind hk hc hcell fin hcd) hd
theorem aq {i j pos}:PE X (.Constant (.int i) j pos) (tC (.int i)):=fun _ _ _ H _ I h=>wpAny_Constant_int ⟨.int i,H,I.tok _,⟨_,rfl⟩,h⟩
theorem ip {b j pos}:PE X (.Constant (.bool b) j pos) (tC (.bl b)):=fun _ _ _ H _ I h=>Constant_bool ⟨.bl b,H,I,rfl,h⟩
theorem fk {j pos}:PE X (.Constant .none j pos) (tC .non):=fun _ _ _ H _ I h=>Constant_none ⟨.non,H,I,rfl,h⟩
theorem au {x j pos}:PE X (.Constant (.str x) j pos) (tC (.str x)):=fun _ _ _ H _ I h=>pB ⟨.str x,H,I.tok _,⟨_,rfl⟩,h⟩

def Gl (X:Cx) (x:Str):Prop:=X.env.kindOf x=some .globalImplicit
theorem kz {E:Value->Shared->Prop}{σ:St}{H:Hp}{pos:Pos} (I:Inv X pins σ H s) (hg:Gl X x) (hm:X.mg x=some u) (h:Q u s)
  (hd:(x==("__debug__":Str))=false:=by decide):wpAny (model X.prog X.w) X.A (eval (.Name x pos) X.env) Q E s :=
 Calls.Name_function_global I.ok.kind hg (Calls.loadGlobal_global (by rw[I.ok.glob];exact I.mod.glob.keeps I.bk) hm h) hd
theorem nj {E:Value->Shared->Prop}{σ:St}{H:Hp}{pos:Pos} (I:Inv X pins σ H s) (hg:Gl X x) (hm:X.mg x=none) (hv:bootBuiltins x=some u) (h:Q u s)
  (hn:x≠"__name__":=by decide) (hd:(x==("__debug__":Str))=false:=by decide):wpAny (model X.prog X.w) X.A (eval (.Name x pos) X.env) Q E s:=by
 obtain⟨mb,h1,h2⟩:=I.mod.blt
 exact Calls.Name_function_global I.ok.kind hg (Calls.loadGlobal_builtin (by rw[I.ok.glob];exact I.mod.glob.keeps I.bk) hm (by rw[I.ok.blt];exact h1.keeps I.bk) ((h2 x hn).trans hv) h) hd
theorem Aw {v:V} (hg:Gl X x) (hm:X.mg x=some u) (r:RelV v u) (hd:(x==("__debug__":Str))=false:=by decide):PE X (.Name x pos) (tC v) :=
 fun _ _ _ H _ I h=>kz I hg hm ⟨v,H,I,r,h⟩ hd
theorem Gu {v:V} (hg:Gl X x) (hm:X.mg x=none) (hv:bootBuiltins x=some u) (r:RelV v u) (hn:x≠"__name__":=by decide) (hd:(x==("__debug__":Str))=false:=by decide):PE X (.Name x pos) (tC v) :=
 fun _ _ _ H _ I h=>nj I hg hm hv ⟨v,H,I,r,h⟩ hn hd

variable {a b:Expr}{ta tb:TE}{pos:Pos}
def tB (t:TE):TT:=fun σ H Q=>t σ H fun x H1=>∃ c,x=.bl c/\Q c H1
theorem c9 {t:TE} (h:PE X e t) (he:∀ whole,isTrue e X.env whole=(do let v ←whole;standAt e.pos;holding [v] (truthy v)):=by intro _;rfl):PT X e (tB t):=by
 intro pins s σ H Q I hw
 refine isTrue_plain (thn (h pins s σ H _ I hw) fun v s1 ⟨x,H1,I1,r1,q1⟩=>?_) (he _)
 obtain⟨d,rfl,q⟩:=q1
 cases r1
 exact gB ⟨H1,I1,q⟩

variable {tA tB':TT}{rest:List Expr}
def Kx (t u:TT):TT:=fun σ H Q=>t σ H fun c H1=>if c=true then u σ H1 Q else Q false H1
def tOr (t u:TT):TT:=fun σ H Q=>t σ H fun c H1=>if c=true then Q true H1 else u σ H1 Q
def K5 (t:TT):TT:=fun σ H Q=>t σ H fun c H1=>Q (!c) H1
theorem jf (ha:PT X a tA):PW X (.BoolOp .And [a] pos) tA:=by
 intro wh pins s σ H Q I h
 refine isTrue_and (thn (ha pins s σ H Q I h) fun c s1 e=>?_)
 cases c with
 | true=>exact isTrue_and_nil e
 | false=>exact e
theorem iC (ha:PT X a tA):PW X (.BoolOp .Or [a] pos) tA:=by
 intro wh pins s σ H Q I h
 refine isTrue_or (thn (ha pins s σ H Q I h) fun c s1 e=>?_)
 cases c with
 | false=>exact isTrue_or_nil e
 | true=>exact e
theorem lG (ha:PT X a tA) (hb:PW X (.BoolOp .And (b::rest) pos) tB'):PW X (.BoolOp .And (a::b::rest) pos) (Kx tA tB'):=by
 intro wh pins s σ H Q I h
 refine isTrue_and (thn (ha pins s σ H _ I h) fun c s1 ⟨H1,I1,q1⟩=>?_)
 cases c with
 | true=>exact hb wh pins s1 σ H1 Q I1 q1
 | false=>exact⟨H1,I1,q1⟩
theorem kU (ha:PT X a tA) (hb:PW X (.BoolOp .Or (b::rest) pos) tB'):PW X (.BoolOp .Or (a::b::rest) pos) (tOr tA tB'):=by
 intro wh pins s σ H Q I h
 refine isTrue_or (thn (ha pins s σ H _ I h) fun c s1 ⟨H1,I1,q1⟩=>?_)
 cases c with
 | true=>exact⟨H1,I1,q1⟩
 | false=>exact hb wh pins s1 σ H1 Q I1 q1
theorem cx (ha:PT X a tA):PT X (.UnaryOp .Not a pos) (K5 tA):=by
 intro pins s σ H Q I h
 exact isTrue_not (thn (ha pins s σ H (fun c H1=>Q (!c) H1) I h) fun c s1 ⟨H1,I1,q1⟩=>⟨H1,I1,q1⟩)
def Hv (ta tb:TE):TE:=fun σ H Q=>ta σ H fun x H1=>∃ c,x=.bl c/\if c=true then tb σ H1 Q else Q (.bl false) H1
def K6 (ta tb:TE):TE:=fun σ H Q=>ta σ H fun x H1=>∃ c,x=.bl c/\if c=true then Q (.bl true) H1 else tb σ H1 Q
def Hz (ta:TE):TE:=fun σ H Q=>ta σ H fun x H1=>∃ c,x=.bl c/\Q (.bl (!c)) H1
theorem k9 {op}{t:TE} (h:PE X a t):PE X (.BoolOp op [a] pos) t:=fun pins s σ H Q I hw=>BoolOp_one (h pins s σ H Q I hw)
theorem ny (ha:PE X a ta) (hb:PE X (.BoolOp .And (b::rest) pos) tb):PE X (.BoolOp .And (a::b::rest) pos) (Hv ta tb):=by
 intro pins s σ H Q I h
 refine BoolOp_and (thn (ha pins s σ H _ I h) fun v s1 ⟨x,H1,I1,r1,q1⟩=>?_)
 obtain⟨c,rfl,q1⟩:=q1
 cases r1
 refine gB ?_
 cases c with
 | true=>exact hb pins s1 σ H1 Q I1 q1
 | false=>exact⟨.bl false,H1,I1,rfl,q1⟩
theorem He (ha:PE X a ta) (hb:PE X (.BoolOp .Or (b::rest) pos) tb):PE X (.BoolOp .Or (a::b::rest) pos) (K6 ta tb):=by
 intro pins s σ H Q I h
 refine BoolOp_or (thn (ha pins s σ H _ I h) fun v s1 ⟨x,H1,I1,r1,q1⟩=>?_)
 obtain⟨c,rfl,q1⟩:=q1
 cases r1
 refine gB ?_
 cases c with
 | false=>exact hb pins s1 σ H1 Q I1 q1
 | true=>exact⟨.bl true,H1,I1,rfl,q1⟩
theorem Jh (ha:PE X a ta):PE X (.UnaryOp .Not a pos) (Hz ta):=by
 intro pins s σ H Q I h
 refine UnaryOp_ (thn (ha pins s σ H _ I h) fun v s1 ⟨x,H1,I1,r1,q1⟩=>?_)
 obtain⟨c,rfl,q1⟩:=q1
 cases r1
 exact not_of (gB ⟨.bl (!c),H1,I1,rfl,q1⟩)
def tIf (t:TT) (ta tb:TE):TE:=fun σ H Q=>t σ H fun c H1=>if c=true then ta σ H1 Q else tb σ H1 Q
theorem xA (hc:PT X c tA) (ha:PE X a ta) (hb:PE X b tb):PE X (.IfExp c a b pos) (tIf tA ta tb):=by
 intro pins s σ H Q I h
 refine wpAny_IfExp (thn (hc pins s σ H _ I h) fun d s1 ⟨H1,I1,q1⟩=>?_)
 cases d with
 | true=>exact ha pins s1 σ H1 Q I1 q1
 | false=>exact hb pins s1 σ H1 Q I1 q1
end
end
section

def SqL (K:PySem.W.Frag) (H:Hp) (a:Addr) (xs:List V):Prop :=
 Rd H a (.lst xs) ∨
  ∃ (o:Obj) (its:Array Value) (n:Nat),K.lookup a=some o/\o.cls=.type "list"/\o.dict=none/\o.data=.seq its n/\its.size<=sizeLine/\Vals xs its.toList
def SqT (K:PySem.W.Frag) (H:Hp) (a:Addr) (xs:List V):Prop :=
 Rd H a (.tup xs) ∨
  ∃ (o:Obj) (its:Array Value) (n:Nat),K.lookup a=some o/\o.cls=.type "tuple"/\o.data=.seq its n/\its.size<=sizeLine/\Vals xs its.toList
def KW:Value->Option V
 | .none=>some .non
 | .bool b=>some (.bl b)
 | .int i _=>some (.int i)
 | .str x _=>some (.str x)
 | .bytes b _=>some (.byt b)
 | .float b _=>some (.flt b)
 | .ref a=>some (.ref a)
 | .type n=>some (.ty n)
 | _=>none
theorem RelV.abs {x:V} (r:RelV x u):KW u=some x:=by
 cases x with
 | non=>cases r;rfl
 | bl _=>cases r;rfl
 | int _=>obtain⟨t,rfl⟩:=r;rfl
 | str _=>obtain⟨t,rfl⟩:=r;rfl
 | byt _=>obtain⟨t,rfl⟩:=r;rfl
 | flt _=>obtain⟨t,rfl⟩:=r;rfl
 | ref _=>cases r;rfl
 | ty _=>cases r;rfl
theorem RelV.inj {x y:V}{u:Value} (r:RelV x u) (q:RelV y u):x=y:=Option.some.inj (r.abs.symm.trans q.abs)
theorem Vals.inj:∀ {xs ys:List V}{us:List Value},Vals xs us->Vals ys us->xs=ys
 | _,_,_,.nil,.nil=>rfl
 | _,_,_,.cons r t,.cons r' t'=>by rw[r.inj r',Vals.inj t t']
section
variable {X:Cx}{pins:List (Addr×Obj)}{σ:St}{H:Hp}{s:Shared}{a:Addr}{xs ys:List V}
theorem SqL.of (h:H a=some (.lst xs)):SqL K H a xs:=.inl (.inl h)
theorem SqT.of (h:H a=some (.tup xs)):SqT K H a xs:=.inl (.inl h)
theorem Inv.list (I:Inv X pins σ H s) (h:SqL X.K H a xs):∃ its:List Value,Vals xs its/\PlainL s.heap a its.toArray/\xs.length<=sizeLine:=by
 rcases h with h | ⟨o,its,n,hk,hc,hd,hs,hz,r⟩
 ·obtain⟨z,its,n,r,e⟩:=h.ok I.hok
  exact⟨its,r,⟨_,n,e,rfl,rfl,rfl⟩,z⟩
 ·refine⟨its.toList,r,⟨o,n,I.kIn a o hk,hc,hd,by simpa using hs⟩,?_⟩
  have e:=r.length
  simp only[gP] at e
  omega
theorem Inv.tuple (I:Inv X pins σ H s) (h:SqT X.K H a xs):∃ its:List Value,Vals xs its/\IsTup s.heap a its.toArray/\xs.length<=sizeLine:=by
 rcases h with h | ⟨o,its,n,hk,hc,hs,hz,r⟩
 ·obtain⟨z,its,r,p⟩:=h.ok I.hok
  exact⟨its,r,p,z⟩
 ·refine⟨its.toList,r,⟨o,I.kIn a o hk,hc,n,by simpa using hs⟩,?_⟩
  have e:=r.length
  simp only[gP] at e
  omega
theorem Inv.oi (I:Inv X pins σ H s) (h:SqL X.K H a xs) (h':SqL X.K H a ys):xs=ys:=by
 obtain⟨its,r,⟨o,n,e,_,_,d⟩,_⟩:=I.list h
 obtain⟨its',r',⟨o',n',e',_,_,d'⟩,_⟩:=I.list h'
 rw[e] at e';cases e'
 rw[d] at d'
 injection d' with d1 _
 have:its=its':=by simpa using aG Array.toList d1
 subst this
 exact r.inj r'
theorem Inv.Cs (I:Inv X pins σ H s) (h:SqT X.K H a xs) (h':SqT X.K H a ys):xs=ys:=by
 obtain⟨its,r,⟨o,e,_,n,d⟩,_⟩:=I.tuple h
 obtain⟨its',r',⟨o',e',_,n',d'⟩,_⟩:=I.tuple h'
 rw[e] at e';cases e'
 rw[d] at d'
 injection d' with d1 _
 have:its=its':=by simpa using aG Array.toList d1
 subst this
 exact r.inj r'
end

abbrev Cx.qX (X:Cx) (E:Value->Shared->Prop):Cx:={ X with xe:=E }
abbrev Cx.nox (X:Cx):Cx:=X.qX fun _ _=>False
theorem Cx.Ok.qX {X:Cx} (ok:X.Ok) (E:Value->Shared->Prop):(X.qX E).Ok :=
 ⟨ok.mod,ok.kind,ok.glob,ok.blt,ok.above,ok.inj,ok.has,ok.cab,ok.hd,ok.frames,ok.stk,ok.exf,ok.bs,ok.bsz,ok.noex,ok.exfs,ok.mU,ok.frf⟩
theorem Cx.Ok.jI {X:Cx} (ok:(X.qX E).Ok):X.Ok :=
 ⟨ok.mod,ok.kind,ok.glob,ok.blt,ok.above,ok.inj,ok.has,ok.cab,ok.hd,ok.frames,ok.stk,ok.exf,ok.bs,ok.bsz,ok.noex,ok.exfs,ok.mU,ok.frf⟩
section
variable {X:Cx}{pins:List (Addr×Obj)}{σ:St}{H:Hp}{s:Shared}{E:Value->Shared->Prop}
theorem Inv.qX (I:Inv X pins σ H s) (E:Value->Shared->Prop):Inv (X.qX E) pins σ H s:=⟨I.ok.qX E,I.os,I.bare,I.base,I.loc,I.cell,I.free,I.freeC,I.pin,I.hok,I.len⟩
theorem Inv.jI (I:Inv (X.qX E) pins σ H s):Inv X pins σ H s:=⟨I.ok.jI,I.os,I.bare,I.base,I.loc,I.cell,I.free,I.freeC,I.pin,I.hok,I.len⟩
theorem SP.jI {D:Ends}{f:Flow}{s':Shared} (h:SP (X.qX E) pins D f s'):SP X pins D f s':=by
 cases f with
 | next=>obtain⟨σ',H',I,q⟩:=h;exact⟨σ',H',I.jI,q⟩
 | brk=>obtain⟨σ',H',I,q⟩:=h;exact⟨σ',H',I.jI,q⟩
 | cont=>obtain⟨σ',H',I,q⟩:=h;exact⟨σ',H',I.jI,q⟩
 | ret u=>obtain⟨v,σ',H',I,r,q⟩:=h;exact⟨v,σ',H',I.jI,r,q⟩
theorem PE.nox {e:Expr}{t:TE} (h:PE X.nox e t):PE X e t:=fun pins s σ H Q I hw =>
 bq (h pins s σ H Q (I.qX _) hw) (fun _ _ ⟨v,H',I',r,q⟩=>⟨v,H',I'.jI,r,q⟩) fun _ _ z=>False.elim z
theorem PT.nox {e:Expr}{t:TT} (h:PT X.nox e t):PT X e t:=fun pins s σ H Q I hw =>
 bq (h pins s σ H Q (I.qX _) hw) (fun _ _ ⟨H',I',q⟩=>⟨H',I'.jI,q⟩) fun _ _ z=>False.elim z
theorem PSs.nox {st:List Stmt}{t:TS} (h:PSs X.nox st t):PSs X st t:=fun pins s σ H D I hw =>
 bq (h pins s σ H D (I.qX _) hw) (fun _ _ q=>q.jI) fun _ _ z=>False.elim z
end

section
variable {X:Cx}{st:Stmt}{rest:List Stmt}{t u:TS}{e:Expr}{te:TE}{pos:Pos}
def EO:TS:=fun D σ H=>D.nx σ H
def Cq (t u:TS):TS:=fun D σ H=>t { D with nx:=u D } σ H
theorem aX:PSs X [] EO:=fun _ _ σ H _ I h=>ku ⟨σ,H,I,h⟩
theorem ae (h1:PS X st t) (h2:PSs X rest u):PSs X (st::rest) (Cq t u):=by
 intro pins s σ H D I h
 refine wpAny_execs_cons (thn (h1 pins s σ H { D with nx:=u D } I h) fun f s1 q=>?_)
 cases f with
 | next =>
  obtain⟨σ',H',I',q⟩:=q
  exact h2 pins s1 σ' H' D I' q
 | ret v=>exact q
 | brk=>exact q
 | cont=>exact q
theorem ak (h1:PS X st t):PSs X [st] t:=by
 intro pins s σ H D I h
 refine wpAny_execs_cons (thn (h1 pins s σ H D I h) fun f s1 q=>?_)
 cases f with
 | next=>exact ku q
 | ret v=>exact q
 | brk=>exact q
 | cont=>exact q
theorem Inv.quiet {σ:St}{H:Hp} (I:Inv X pins σ H s):interactive X.env=false:=by simp [interactive,I.ok.kind]
def EL (te:TE):TS:=fun D σ H=>te σ H fun _ H1=>D.nx σ H1
theorem gO (he:PE X e te) (hs:swapsWith e none pos.line X.env=pure false:=by rfl):PS X (.Expr e pos) (EL te):=by
 intro pins s σ H D I h
 exact wpAny_Expr_any (thn (he pins s σ H _ I h) fun v s1 ⟨x,H1,I1,r1,q1⟩=>⟨σ,H1,I1,q1⟩) I.quiet hs
def Jv (te:TE):TS:=fun D σ H=>te σ H D.rt
theorem aI (he:PE X e te):PS X (.Return (some e) pos) (Jv te):=by
 intro pins s σ H D I h
 exact wpAny_Return_some (thn (he pins s σ H _ I h) fun v s1 ⟨x,H1,I1,r1,q1⟩=>⟨x,σ,H1,I1,r1,q1⟩)
def Ju (c:TT) (t u:TS):TS:=fun D σ H=>c σ H fun b H1=>if b=true then t D σ H1 else u D σ H1
theorem bK {a b:List Stmt}{tc:TT} (hc:PT X c tc) (ha:PSs X a t) (hb:PSs X b u):PS X (.If c a b pos) (Ju tc t u):=by
 intro pins s σ H D I h
 refine wpAny_If (thn (hc pins s σ H _ I h) fun d s1 ⟨H1,I1,q1⟩=>?_)
 cases d with
 | true=>exact ha pins s1 σ H1 D I1 q1
 | false=>exact hb pins s1 σ H1 D I1 q1
end

abbrev TG:=V->St->Hp->(St->Hp->Prop)->Prop
abbrev TGs:=List V->St->Hp->(St->Hp->Prop)->Prop
def PG (X:Cx) (target:Expr) (t:TG):Prop :=
 ∀ (pins:List (Addr×Obj)) (s:Shared) (σ:St) (H:Hp) (v:V) (u:Value) (Q:St->Hp->Prop),Inv X pins σ H s->RelV v u->t v σ H Q →
  wpAny (model X.prog X.w) X.A (assign target X.env u) (fun _ s'=>∃ σ' H',Inv X pins σ' H' s'/\Q σ' H') X.xe s
def PGs (X:Cx) (ts:List Expr) (t:TGs):Prop :=
 ∀ (pins:List (Addr×Obj)) (s:Shared) (σ:St) (H:Hp) (vs:List V) (us:List Value) (Q:St->Hp->Prop),Inv X pins σ H s->Vals vs us->t vs σ H Q →
  wpAny (model X.prog X.w) X.A (assignInOrder ((assignEach ts X.env).map (·.2)) us) (fun _ s'=>∃ σ' H',Inv X pins σ' H' s'/\Q σ' H') X.xe s
abbrev EZ:=V->V->V->Hp->(Hp->Prop)->Prop
def HJ (X:Cx) (t:EZ):Prop :=
 ∀ (pins:List (Addr×Obj)) (s:Shared) (σ:St) (H:Hp) (o i v:V) (ov iv u:Value) (Q:Hp->Prop),Inv X pins σ H s->RelV o ov->RelV i iv->RelV v u->t o i v H Q →
  wpAny (model X.prog X.w) X.A (setItem ov iv u) (fun _ s'=>∃ H',Inv X pins σ H' s'/\Q H') X.xe s
section
variable {X:Cx}{pos:Pos}
def fT (i:Nat):TG:=fun v σ H Q=>Q (σ.set i (some v)) H
theorem Gz (hN:X.N.Nodup) (hi:X.N[i]?=some x) (hx:Loc X.env.scope x) (hf:X.fn x=true∨X.env.scope.names.lookup x=some .local:=by first | exact .inl rfl | exact .inr rfl | assumption):PG X (.Name x pos) (fT i):=by
 intro pins s σ H v u Q I r h
 exact wpAny_assign_Name (jY I hN hi hx r (fun s' I'=>⟨_,H,I',h⟩) hf)
def D4:TGs:=fun vs σ H Q=>vs=[]/\Q σ H
def qo (t:TG) (u:TGs):TGs:=fun vs σ H Q=>∃ v r,vs=v::r/\t v σ H fun σ' H'=>u r σ' H' Q
theorem iu:PGs X [] D4:=by
 intro pins s σ H vs us Q I r h
 obtain⟨e,h⟩:=h
 subst e
 cases r
 exact assignInOrder_nil ⟨σ,H,I,h⟩
theorem cG {t:TG}{u:TGs} (h1:PG X e t) (h2:PGs X es u)
  (hs:(assignEach (e::es) X.env).map (·.2)=assign e X.env::(assignEach es X.env).map (·.2):=by rfl):PGs X (e::es) (qo t u):=by
 intro pins s σ H vs us Q I r h
 obtain⟨v,vr,e1,h⟩:=h
 subst e1
 cases r with
 | cons r rr =>
  rw[hs]
  refine assignInOrder_cons (thn (h1 pins s σ H _ _ _ I r h) fun _ s1 ⟨σ1,H1,I1,q1⟩=>?_)
  exact h2 pins s1 σ1 H1 _ _ Q I1 rr q1
def D5 (K:PySem.W.Frag) (n:Nat) (t:TGs):TG:=fun v σ H Q=>∃ a xs,v=.ref a/\SqT K H a xs/\xs.length=n/\t xs σ H Q
theorem Eu {k:Nat}{t:TGs}{n:Nat} (hc:X.calm=true) (h:PGs X es t)
  (hn:(assignEach es X.env).length=n:=by rfl) (hst:(assignEach es X.env).findIdx? (·.1)=none:=by rfl):PG X (.Tuple es k pos) (D5 X.K n t):=by
 intro pins s σ H v u Q I r hw
 obtain⟨a,xs,e1,hq,hl,hw⟩:=hw
 subst e1
 cases r
 obtain⟨its,rv,ht,hz⟩:=I.tuple hq
 refine assign_Tuple_tuple (I.ok.hd hc) ht (by simp [hn,←hl,rv.length]) hst fun h' hx=>?_
 have I1:Inv X pins σ H { s with heap:=h' }:=I.kept (t':=s.toks) fun b o e=>hx b o (bE (aT e)) e
 exact h pins _ σ H xs _ Q I1 (by simpa using rv) hw
def JY (to ti:TE) (t:EZ):TG:=fun v σ H Q=>to σ H fun o H1=>ti σ H1 fun i H2=>t o i v H2 fun H3=>Q σ H3
theorem Et {o i:Expr}{to ti:TE}{t:EZ} (ho:PE X o to) (hi:PE X i ti) (hs:HJ X t)
  (ha:∀ v,assign (.Subscript o i pos) X.env v=(do
   let ov ←holding [v] (eval o X.env)
   let iv ←holding [v,ov] (eval i X.env)
   standAt pos
   holding [v,ov,iv] (setItem ov iv v)
   release [v,ov,iv] []):=by intro _;rfl):PG X (.Subscript o i pos) (JY to ti t):=by
 intro pins s σ H v u Q I r h
 rw[ha]
 refine ar (cD (thn (ho pins s σ H _ I h) fun ov s1 ⟨x,H1,I1,r1,q1⟩=>?_))
 refine ar (cD (thn (hi pins s1 σ H1 _ I1 q1) fun iv s2 ⟨y,H2,I2,r2,q2⟩=>?_))
 refine ar (gz (ar (cD (thn (hs pins s2 σ H2 x y v ov iv u _ I2 r1 r2 r q2) fun _ s3 ⟨H3,I3,q3⟩=>?_))))
 exact wpAny_release ⟨σ,H3,I3,q3⟩
def Cp (te:TE) (g:TG):TS:=fun D σ H=>te σ H fun x H1=>g x σ H1 D.nx
theorem sW {tg e:Expr}{te:TE}{g:TG} (he:PE X e te) (hg:PG X tg g) (hs:swapsWithSole [tg] e pos.line X.env=pure false:=by rfl) (hw:swappedStores [tg] e X.env=pure none:=by rfl)
  (h1:(assignEach [tg] X.env).map (·.2)=[assign tg X.env]:=by rfl):PS X (.Assign [tg] e pos) (Cp te g):=by
 intro pins s σ H D I h
 refine wpAny_Assign_stores (thn (he pins s σ H _ I h) fun v s1 ⟨x,H1,I1,r1,q1⟩=>?_) hs hw
 rw[h1]
 exact thn (hg pins s1 σ H1 x v _ I1 r1 q1) fun _ s2 q=>q
theorem Ex {te:TE}{pos':Pos} (hN:X.N.Nodup) (hi:X.N[i]?=some x) (hx:Loc X.env.scope x) (he:PE X e te) (hs:swapsWith e (some (.Name x pos')) pos.line X.env=pure false:=by rfl) (hf:X.fn x=true∨X.env.scope.names.lookup x=some .local:=by first | exact .inl rfl | exact .inr rfl | assumption) :
  PS X (.Assign [.Name x pos'] e pos) (Cp te (fT i)):=by
 intro pins s σ H D I h
 refine wpAny_Assign_Name (thn (he pins s σ H _ I h) fun v s1 ⟨y,H1,I1,r1,q1⟩=>?_) hs
 exact jY I1 hN hi hx r1 (fun s2 I2=>⟨_,H1,I2,q1⟩) hf
def K7 (i j:Nat) (ta:TA):TS:=fun D σ H=>ta σ H fun vs H1=>∃ v w,vs=[v,w]/\D.nx ((σ.set i (some v)).set j (some w)) H1
theorem Jm {i j:Nat}{x y:Str}{a b:Expr}{ta:TA}{px py pt:Pos}{kt k2 pt2} (hc:X.calm=true) (hN:X.N.Nodup) (hi:X.N[i]?=some x) (hj:X.N[j]?=some y) (hij:i≠j)
  (hx:X.env.scope.names.lookup x=some .local) (hy:X.env.scope.names.lookup y=some .local) (ha:PA X [a,b] ta)
  (hw:swappedStores [.Tuple [.Name x px,.Name y py] kt pt] (.Tuple [a,b] k2 pt2) X.env=pure (some [x,y]))
  (hs:swapsWithSole [.Tuple [.Name x px,.Name y py] kt pt] (.Tuple [a,b] k2 pt2) pos.line X.env=pure false:=by rfl) :
  PS X (.Assign [.Tuple [.Name x px,.Name y py] kt pt] (.Tuple [a,b] k2 pt2) pos) (K7 i j ta):=by
 intro pins s σ H D I h
 rw[exec_Assign_arm]
 refine ar (gz ?_)
 rw[hs]
 refine ar (aO ?_)
 rw[ai (by decide)]
 refine ar (Tuple_ (thn (ha _ pins s σ H _ I h) fun us s1 ⟨vs,H1,I1,r1,q1⟩=>?_))
 obtain⟨v,w,e1,q1⟩:=q1
 subst e1
 obtain⟨u1,u2,rfl,rv,rw'⟩:∃ u1 u2,us=[u1,u2]/\RelV v u1/\RelV w u2:=by
  cases r1 with
  | cons p q =>
   cases q with
   | cons p' q' =>
    cases q'
    exact⟨_,_,rfl,p,p'⟩
 refine wpAny_newObj_type ?_ (by show 2<=sizeLine;decide)
 have I2:Inv X pins σ H1 { s1 with heap:=s1.heap.push { cls:=.type "tuple",data:=.seq [u1,u2].toArray } }:=I1.kept (t':=s1.toks) fun b o e=>aW _ e
 rw[hw]
 refine ar (aO ?_)
 show wpAny (model X.prog X.w) X.A (do rule "assign.swapped-stores";let items ←unpackItems (.ref s1.heap.objs.size) 2 none;assignInOrder [fun v=>bindName X.env y v,fun v=>bindName X.env x v] items.reverse;pure Flow.next) _ _ _
 refine ar (wpAny_rule (ar (unpackItems_tuple (items:=#[u1,u2]) (I.ok.hd hc) (IsTup.new s1.heap _) fun h' hx'=>?_)))
 have I3:=I2.kept (h':=h') (t':=s1.toks) fun b o e=>hx' b o (bE (aT e)) e
 show wpAny _ _ (assignInOrder [fun v=>bindName X.env y v,fun v=>bindName X.env x v] [u2,u1] >>= fun _=>pure Flow.next) _ _ _
 refine ar (assignInOrder_cons (wpAny_bindName (jY I3 hN hj (.inl hy) rw' (fun s2 I4=>?_) (.inr hy))))
 refine assignInOrder_cons (wpAny_bindName (jY I4 hN hi (.inl hx) rv (fun s3 I5=>assignInOrder_nil (aO ?_)) (.inr hx)))
 rw[List.set_comm _ _ (Ne.symm hij)] at I5
 exact⟨_,H1,I5,q1⟩
end

section
variable {X:Cx}{pos:Pos}
def ER (c:TT) (tb:TS):TS:=fun D σ H=>∃ W:Nat->St->Hp->Prop,(∃ m,W m σ H)/\∀ m σ H,W m σ H →
 c σ H fun b H1=>if b=true then ∃ N:St->Hp->Prop,(∀ σ' H',N σ' H'->∃ m',m'<m/\W m' σ' H')/\tb { D with nx:=N,ct:=N,bk:=D.nx } σ H1 else D.nx σ H1
theorem sX {tc:TT}{tb:TS} (hp:PassesOwn (model X.prog X.w) X.A X.env X.xe) (hc:PT X c tc) (hb:PSs X body tb):PS X (.While c body [] pos) (ER tc tb):=by
 intro pins s σ H D I h
 obtain⟨W,⟨m0,w0⟩,turn⟩:=h
 refine wpAny_While (codeAny_whileLoop (fun n s'=>∃ σ' H',Inv X pins σ' H' s'/\W n σ' H') ?_ m0 ⟨σ,H,I,w0⟩)
 rintro n s1 ⟨σ1,H1,I1,w1⟩
 refine iW hp (thn (hc pins s1 σ1 H1 _ I1 (turn n σ1 H1 w1)) fun b s2 ⟨H2,I2,q2⟩=>?_)
 cases b with
 | true =>
  obtain⟨N,hN,q2⟩:=q2
  rw[ao rfl]
  refine iW hp (thn (hb pins s2 σ1 H2 _ I2 q2) fun f s3 q3=>?_)
  cases f with
  | next =>
   obtain⟨σ3,H3,I3,n3⟩:=q3
   obtain⟨m',hm,w3⟩:=hN σ3 H3 n3
   exact⟨m',hm,σ3,H3,I3,w3⟩
  | cont =>
   obtain⟨σ3,H3,I3,n3⟩:=q3
   obtain⟨m',hm,w3⟩:=hN σ3 H3 n3
   exact⟨m',hm,σ3,H3,I3,w3⟩
  | brk=>exact q3
  | ret v=>exact q3
 | false =>
  rw[ai cf]
  exact ku ⟨σ1,H2,I2,q2⟩
end

structure It where
 go:Nat->Hp->Prop
 yld:Nat->Hp->V->Hp->Prop
 stop:Nat->Hp->Prop
def qK (X:Cx) (pins:List (Addr×Obj)) (H:Hp) (b:Addr):Prop :=
 H b=none/\b≠X.env.locals/\b∉X.fs/\(b∈X.ex∨X.s₀.heap.objs.size<=b)/\(∀ x c,X.env.cells.lookup x=some c->c≠b)/\∀ p∈X.pn++pins,p.1≠b
theorem Inv.wQ {X:Cx}{σ:St}{H H':Hp} (I:Inv X pins σ H s) (hb:s.heap.objs.size<=b) (hn:H' b=none):qK X pins H' b:=by
 refine⟨hn,Nat.ne_of_gt (bD I.lt hb),I.Le hb,.inr (bJ I.sz hb),fun x c e z=>?_,fun p hp z=>?_⟩
 ·obtain⟨v,q⟩:=I.cell x c e
  exact absurd (bD q.lt (by rw[z];exact hb)) (gv _)
 ·exact absurd (bD (aT (I.pin p hp).1) (by rw[z];exact hb)) (gv _)
structure Turn (P:Program) (w:World) (K:PySem.W.Frag) (tg:Expr) (J:It) (fp:List Addr) (it:Addr) (tn:Nat->Heap->Prop):Prop where
 mem:it∈fp
 obj:∀ i h,tn i h->∀ b∈fp,∃ o,h.get? b=some o/\∀ v,o.data≠.cell v
 keep:∀ i h h',tn i h->(∀ b∈fp,∀ o,h.get? b=some o->h'.get? b=some o)->tn i h'
 item:∀ (X:Cx),X.prog=P->X.w=w->X.K=K->X.calm=true->∀ (i:Nat) (pins:List (Addr×Obj)) (s:Shared) (σ:St) (H:Hp) (E:Value->Shared->Prop),Inv X pins σ H s->(∀ b∈fp,qK X pins H b)->tn i s.heap->J.go i H →
  wpAny (model P w) X.A (pyNext (.ref it)) (fun r s1=>∃ u,r=some u ∧
   wpAny (model P w) X.A (letOwnedTupleGo tg (.ref it) u) (fun _ s2=>∃ x H',Inv X pins σ H' s2/\RelV x u/\J.yld i H x H'/\tn (i+1) s2.heap/\∀ b∈fp,H' b=none) E s1) E s
 done:∀ (X:Cx),X.prog=P->X.w=w->X.K=K->X.calm=true->∀ (i:Nat) (pins:List (Addr×Obj)) (s:Shared) (σ:St) (H:Hp) (E:Value->Shared->Prop),Inv X pins σ H s->(∀ b∈fp,qK X pins H b)->tn i s.heap->J.stop i H →
  wpAny (model P w) X.A (pyNext (.ref it)) (fun r s1=>r=none/\Inv X pins σ H s1) E s
 self:∀ (A:Around) (i:Nat) (s:Shared) (Q:Value->Shared->Prop) (E:Value->Shared->Prop),tn i s.heap->Q (.ref it) s->wpAny (model P w) A (pyIter (.ref it)) Q E s
abbrev TI:=St->Hp->(It->Hp->Prop)->Prop
def PIE (X:Cx) (pins:List (Addr×Obj)) (σ:St) (tg:Expr) (R:It->Hp->Prop) (itv:Value) (s2:Shared):Prop :=
 ∃ (it:Addr) (fp:List Addr) (tn:Nat->Heap->Prop) (J:It) (H':Hp),itv=.ref it/\Inv X pins σ H' s2/\Turn X.prog X.w X.K tg J fp it tn/\tn 0 s2.heap/\(∀ b∈fp,qK X pins H' b)/\R J H'
def PI (X:Cx) (tg iter:Expr) (wi:TI):Prop :=
 ∀ (pins:List (Addr×Obj)) (s:Shared) (σ:St) (H:Hp) (R:It->Hp->Prop),Inv X pins σ H s->wi σ H R →
  wpAny (model X.prog X.w) X.A (eval iter X.env) (fun v s1=>wpAny (model X.prog X.w) X.A (pyIter v) (PIE X pins σ tg R) X.xe s1) X.xe s

theorem Aj {M:Model}{A:Around}{E:Value->Shared->Prop}{tg:Expr}{u:Value}{o:Obj}{n:String}{vs:Array Value}{Q:Unit->Shared->Prop} (ho:s.heap.get? it=some o) (hc:o.cls=.type n) (hd:o.data=.fields vs)
  (hn:["enumerate","zip","dict_itemiterator","dict_reverseitemiterator","odict_iterator","itertools.zip_longest","itertools.pairwise"].contains n=false) (hQ:Q () s):wpAny M A (letOwnedTupleGo tg (.ref it) u) Q E s:=by
 unfold letOwnedTupleGo
 cases tg<;>first
  | exact aO hQ
  | (cases u<;>first
    | exact aO hQ
    | (refine ar (wpAny_load ho ?_)
       rw[hc,hd]
       show wpAny M A (if (["enumerate","zip","dict_itemiterator","dict_reverseitemiterator","odict_iterator","itertools.zip_longest","itertools.pairwise"].contains n&&vs[0]?==some (rawInt _))=true then _ else _) Q E s
       rw[ai (by intro h;rw[hn,kT] at h;cases h)]
       exact aO hQ))

def Itl (K:PySem.W.Frag) (a:Addr):It :=
 ⟨fun i H=>∃ xs x,SqL K H a xs/\xs[i]?=some x,fun i H x H'=>H'=H/\∀ xs,SqL K H a xs->xs[i]?=some x,fun i H=>∃ xs,SqL K H a xs/\xs.length<=i⟩
def Itt (K:PySem.W.Frag) (a:Addr):It :=
 ⟨fun i H=>∃ xs x,SqT K H a xs/\xs[i]?=some x,fun i H x H'=>H'=H/\∀ xs,SqT K H a xs->xs[i]?=some x,fun i H=>∃ xs,SqT K H a xs/\xs.length<=i⟩
def Itr (lo:Int) (n:Nat):It:=⟨fun i _=>i<n,fun i H x H'=>H'=H/\x=.int (lo+i),fun i _=>n<=i⟩
theorem Cu (a it:Addr):Turn P w K tg (Itl K a) [it] it (fun i h=>h.IsListIter it a i) where
 mem:=by simp
 obj:=fun i h st b hb=>by
  have e:b=it:=by simpa using hb
  subst e
  obtain⟨o,e,c,d⟩:=st
  exact⟨o,e,fun v z=>by rw[d] at z;cases z⟩
 keep:=fun i h h' st k=>st.at fun o e=>k it (by simp) o e
 item:=by
  intro X hP hw hK hc i pins s σ H E I hf st hg
  subst hP hw hK
  obtain⟨xs,x,hq,hx⟩:=hg
  obtain⟨its,rv,p,hz⟩:=I.list hq
  obtain⟨u,hu,ru⟩:=rv.get hx
  obtain⟨f0,f1,f2,f3,f4,f5⟩:=hf it (by simp)
  refine wpAny_pyNext_list_item st p.isList (x:=u) (by simpa using hu) fun h' st' sb=>?_
  have I1:Inv X pins σ H { s with heap:=h' }:=I.turned (t':=s.toks) (fun b o hb e=>(sb.2 b hb).trans e) f0 f1 f3 f4 f5
  obtain⟨o,e,c,d⟩:=id st'
  exact⟨u,rfl,Aj (s:={ s with heap:=h' }) e c d (by decide) ⟨x,H,I1,ru,⟨rfl,fun ys hy=>by rw[I.oi hy hq];exact hx⟩,st',fun b hb=>(hf b hb).1⟩⟩
 done:=by
  intro X hP hw hK hc i pins s σ H E I hf st hg
  subst hP hw hK
  obtain⟨xs,hq,hx⟩:=hg
  obtain⟨its,rv,p,hz⟩:=I.list hq
  obtain⟨f0,f1,f2,f3,f4,f5⟩:=hf it (by simp)
  have hl:=rv.length
  exact wpAny_pyNext_list_end (I.ok.hd hc) st p.isList (by simp;omega) fun h' eb=>⟨rfl,I.turned (t':=s.toks) (fun b o hb e=>eb b o hb e) f0 f1 f3 f4 f5⟩
 self:=fun _ _ _ _ _ st h=>wpAny_pyIter_listiter st h
theorem zF (a it:Addr):Turn P w K tg (Itt K a) [it] it (fun i h=>h.IsTupleIter it a i) where
 mem:=by simp
 obj:=fun i h st b hb=>by
  have e:b=it:=by simpa using hb
  subst e
  obtain⟨o,e,c,d⟩:=st
  exact⟨o,e,fun v z=>by rw[d] at z;cases z⟩
 keep:=fun i h h' st k=>st.at fun o e=>k it (by simp) o e
 item:=by
  intro X hP hw hK hc i pins s σ H E I hf st hg
  subst hP hw hK
  obtain⟨xs,x,hq,hx⟩:=hg
  obtain⟨its,rv,p,hz⟩:=I.tuple hq
  obtain⟨u,hu,ru⟩:=rv.get hx
  obtain⟨f0,f1,f2,f3,f4,f5⟩:=hf it (by simp)
  refine wpAny_pyNext_tuple_item st (show s.heap.IsTuple a its.toArray from p) (x:=u) (by simpa using hu) fun h' st' sb=>?_
  have I1:Inv X pins σ H { s with heap:=h' }:=I.turned (t':=s.toks) (fun b o hb e=>(sb.2 b hb).trans e) f0 f1 f3 f4 f5
  obtain⟨o,e,c,d⟩:=id st'
  exact⟨u,rfl,Aj (s:={ s with heap:=h' }) e c d (by decide) ⟨x,H,I1,ru,⟨rfl,fun ys hy=>by rw[I.Cs hy hq];exact hx⟩,st',fun b hb=>(hf b hb).1⟩⟩
 done:=by
  intro X hP hw hK hc i pins s σ H E I hf st hg
  subst hP hw hK
  obtain⟨xs,hq,hx⟩:=hg
  obtain⟨its,rv,p,hz⟩:=I.tuple hq
  obtain⟨f0,f1,f2,f3,f4,f5⟩:=hf it (by simp)
  have hl:=rv.length
  exact wpAny_pyNext_tuple_end (I.ok.hd hc) st (show s.heap.IsTuple a its.toArray from p) (by simp;omega) fun h' eb=>⟨rfl,I.turned (t':=s.toks) (fun b o hb e=>eb b o hb e) f0 f1 f3 f4 f5⟩
 self:=fun _ _ _ _ _ st h=>wpAny_pyIter_tupleiter st h
theorem zE (it:Addr) (lo:Int) (n:Nat):Turn P w K tg (Itr lo n) [it] it (fun i h=>IsRangeIter h it (lo+(i:Nat)*1) ((n:Int)-(i:Nat)) 1) where
 mem:=by simp
 obj:=fun i h st b hb=>by
  have e:b=it:=by simpa using hb
  subst e
  exact⟨_,st,fun v z=>by
   have z':Data.fields _=Data.cell v:=z
   cases z'⟩
 keep:=fun i h h' st k=>k it (by simp) _ st
 item:=by
  intro X hP hw hK hc i pins s σ H E I hf st hg
  subst hP hw hK
  obtain⟨f0,f1,f2,f3,f4,f5⟩:=hf it (by simp)
  have W:=Walks.range (prog:=X.prog) (w:=X.w) (I.ok.hd hc) it lo 1 n
  refine W.item i s _ _ hg st fun v h' tk hv st' kk=>?_
  obtain⟨t,rfl⟩:=hv
  have I1:Inv X pins σ H { s with heap:=h',toks:=tk }:=I.turned (fun b o hb e=>kk b o (by simpa using hb) e) f0 f1 f3 f4 f5
  refine⟨_,rfl,Aj (s:={ s with heap:=h',toks:=tk }) (n:="range_iterator") st' rfl rfl (by decide) ⟨.int (lo+i),H,I1,⟨t,?_⟩,⟨rfl,rfl⟩,st',fun b hb=>(hf b hb).1⟩⟩
  rw[Int.mul_one]
 done:=by
  intro X hP hw hK hc i pins s σ H E I hf st hg
  subst hP hw hK
  obtain⟨f0,f1,f2,f3,f4,f5⟩:=hf it (by simp)
  exact wpAny_pyNext_range_end (I.ok.hd hc) st (by have:n<=i:=hg;omega) fun h' eb=>⟨rfl,I.turned (t':=s.toks) (fun b o hb e=>eb b o hb e) f0 f1 f3 f4 f5⟩
 self:=fun _ _ _ _ _ st h=>wpAny_pyIter_rangeiter st h
end
section
section
variable {X:Cx}{tg:Expr}
theorem xF {σ:St}{H:Hp}{R:It->Hp->Prop}{E:Value->Shared->Prop}{lo hi:Int}{t u v:Tok}{tk:Nat} (I:Inv X pins σ H s) (h1:-(2^62)<=lo) (h2:lo<2^62) (h3:-(2^62)<=hi) (h4:hi<2^62)
  (q:R (Itr lo (hi-lo).toNat) H):wpAny (model X.prog X.w) X.A (pyIter (.ref s.heap.objs.size)) (PIE X pins σ tg R) E { s with heap:=s.heap.push { cls:=.type "range",data:=.fields #[.int lo t,.int hi u,.int 1 v] },toks:=tk }:=by
 refine wpAny_pyIter_range (IsRange.new ..) (small_one h1 h2 h3 h4) ?_
 have I1:Inv X pins σ H { s with heap:=s.heap.push { cls:=.type "range",data:=.fields #[.int lo t,.int hi u,.int 1 v] },toks:=tk }:=I.kept fun b o e=>aW _ e
 refine⟨(s.heap.push { cls:=.type "range",data:=.fields #[.int lo t,.int hi u,.int 1 v] }).objs.size,[(s.heap.push { cls:=.type "range",data:=.fields #[.int lo t,.int hi u,.int 1 v] }).objs.size],_,_,H,rfl,
  I1.kept (t':=tk) fun b o e=>aW _ e,zE _ lo (hi-lo).toNat,?_,fun b hb=>?_,q⟩
 ·have e1:lo+((0:Nat):Int)*1=lo:=by simp
  have e2:(((hi-lo).toNat:Nat):Int)-((0:Nat):Int)=Builtin.Range.rangeSize lo hi 1:=by rw[rangeSize_one];split<;>omega
  show IsRangeIter _ _ (lo+((0:Nat):Int)*1) ((((hi-lo).toNat:Nat):Int)-((0:Nat):Int)) 1
  rw[e1,e2]
  exact bL _ rfl
 ·have e:b=(s.heap.push { cls:=.type "range",data:=.fields #[.int lo t,.int hi u,.int 1 v] }).objs.size:=by simpa using hb
  subst e
  exact I1.wQ (aA _) (I1.hok.fresh (aA _))
def DE (ta:TA):TI:=fun σ H R=>ta σ H fun vs H1=>∃ j:Int,vs=[.int j]/\-(2^62)<=j/\j<2^62/\R (Itr 0 j.toNat) H1
def DF (ta:TA):TI:=fun σ H R=>ta σ H fun vs H1=>∃ i j:Int,vs=[.int i,.int j]/\(-(2^62)<=i/\i<2^62/\-(2^62)<=j/\j<2^62)/\R (Itr i (j-i).toNat) H1
theorem Ce {a:Expr}{ta:TA}{p pos:Pos} (hg:Gl X "range") (hm:X.mg "range"=none) (ha:PA X [a] ta) (hs:starEach [a] X.env=[(false,eval a X.env)]:=by rfl):PI X tg (.Call (.Name "range" p) [a] [] pos) (DE ta):=by
 intro pins s σ H R I h
 refine Call_ (nj I hg hm boot_range (m6 (thn (ha pos pins s σ H _ I h) fun us s1 ⟨vs,H1,I1,r1,q1⟩=>?_) hs rfl))
 obtain⟨j,e,q1,q2,q⟩:=q1
 subst e
 cases r1 with
 | cons r rr =>
  cases rr
  obtain⟨t,rfl⟩:=r
  exact call_range_1 (xF I1 (by omega) (by omega) q1 q2 (by simpa using q))
theorem Cf {a b:Expr}{ta:TA}{p pos:Pos} (hg:Gl X "range") (hm:X.mg "range"=none) (ha:PA X [a,b] ta) (hs:starEach [a,b] X.env=[(false,eval a X.env),(false,eval b X.env)]:=by rfl) (hs2:starEach [b] X.env=[(false,eval b X.env)]:=by rfl) :
  PI X tg (.Call (.Name "range" p) [a,b] [] pos) (DF ta):=by
 intro pins s σ H R I h
 refine Call_ (nj I hg hm boot_range (m6 (thn (ha pos pins s σ H _ I h) fun us s1 ⟨vs,H1,I1,r1,q1⟩=>?_) (by rw[hs,hs2]) (by rw[hs2];rfl)))
 obtain⟨i,j,e,⟨q1,q2,q3,q4⟩,q⟩:=q1
 subst e
 cases r1 with
 | cons r rr =>
  cases rr with
  | cons r' rr =>
   cases rr
   obtain⟨t,rfl⟩:=r
   obtain⟨t',rfl⟩:=r'
   exact call_range_2 (xF I1 q1 q2 q3 q4 q)

def Kz (wi:TI) (g:TG) (tb:TS):TS:=fun D σ H=>wi σ H fun J H1=>∃ W:Nat->Nat->St->Hp->Prop,(∃ m,W 0 m σ H1)/\∀ i m σ H,W i m σ H →
 (J.stop i H/\D.nx σ H)∨(J.go i H/\∃ N:St->Hp->Prop,(∀ σ' H',N σ' H'->∃ m',m'<m/\W (i+1) m' σ' H')/\∀ x H',J.yld i H x H'->g x σ H' fun σ2 H2=>tb { D with nx:=N,ct:=N,bk:=D.nx } σ2 H2)
def sV (fp:List Addr) (h:Heap):List (Addr×Obj):=fp.filterMap fun b=>(h.get? b).map fun o=>(b,o)
theorem k6 {o:Obj} (hb:b∈fp) (e:h.get? b=some o):(b,o)∈sV fp h:=pf.mpr ⟨b,hb,by rw[e];rfl⟩
theorem BY {p:Addr×Obj} (hp:p∈sV fp h):p.1∈fp/\h.get? p.1=some p.2:=by
 obtain⟨b,hb,e⟩:=pf.mp hp
 cases q:h.get? b with
 | none=>rw[q] at e;cases e
 | some o =>
  rw[q] at e
  have e':(b,o)=p:=Option.some.inj e
  subst e'
  exact⟨hb,q⟩
theorem Inv.pinned {σ:St}{H:Hp} (I:Inv X pins σ H s) (hf:∀ b∈fp,qK X pins H b) (ho:∀ b∈fp,∃ o,s.heap.get? b=some o/\∀ v,o.data≠.cell v):Inv X (pins++sV fp s.heap) σ H s :=
 I.AB fun p hp=>(bw.mp hp).elim (fun z=>I.pin p (eJ _ z)) fun z=>by
  obtain⟨hb,e⟩:=BY z
  obtain⟨f0,f1,f2,_⟩:=hf p.1 hb
  obtain⟨o,e',d⟩:=ho p.1 hb
  rw[e] at e';cases e'
  exact⟨e,f0,f1,f2,d⟩
theorem Inv.oU {pins pl:List (Addr×Obj)}{σ:St}{H:Hp} (I:Inv X (pins++pl) σ H s):Inv X pins σ H s:=I.AB fun p hp=>I.pin p (eJ _ (fA _ hp))
theorem fK {iter:Expr}{wi:TI}{g:TG}{tb:TS}{pos:Pos} (hp:PassesOwn (model X.prog X.w) X.A X.env X.xe) (hc:X.calm=true) (hi:PI X tg iter wi) (hg:PG X tg g) (hb:PSs X body tb)
  (hs:∀ x,foldedSetIterable iter X.env x=pure x:=by intro _;rfl):PS X (.For tg iter body [] pos) (Kz wi g tb):=by
 intro pins s σ H D I h
 refine wpAny_For (thn (hi pins s σ H _ I h) fun v s1 h1=>thn h1 fun itv s2 h2=>?_) hs
 obtain⟨it,fp,tn,J,H2,e,I2,T,st2,f2,W,⟨m0,w0⟩,turn⟩:=h2
 subst e
 -- what stays true of the iterator's objects through the loop
 have stat:∀ {H':Hp},(∀ b∈fp,H' b=none)->∀ b∈fp,qK X pins H' b:=fun hn b hb=>⟨hn b hb,(f2 b hb).2⟩
 refine codeAny_forLoop_any (fun n s'=>∃ i σ' H',Inv X pins σ' H' s'/\tn i s'.heap/\(∀ b∈fp,H' b=none)/\W i n σ' H') ?_ m0 ⟨0,σ,H2,I2,st2,fun b hb=>(f2 b hb).1,w0⟩
 rintro n s3 ⟨i,σ3,H3,I3,st3,fr3,w3⟩
 rcases turn i n σ3 H3 w3 with ⟨stop,qn⟩ | ⟨go,N,hN,step⟩
 ·refine iW hp (thn (T.done X rfl rfl rfl hc i pins s3 σ3 H3 X.xe I3 (stat fr3) st3 stop) fun r s4 ⟨hr,I4⟩=>?_)
  subst hr
  exact ku ⟨σ3,H3,I4,qn⟩
 ·refine iW hp (thn (T.item X rfl rfl rfl hc i pins s3 σ3 H3 X.xe I3 (stat fr3) st3 go) fun r s4 ⟨u,hr,h4⟩=>?_)
  subst hr
  refine iW hp (thn h4 fun _ s5 ⟨x,H5,I5,r5,y5,st5,fr5⟩=>?_)
  have I5':=I5.pinned (stat fr5) (T.obj _ _ st5)
  refine iW hp (thn (hg _ s5 σ3 H5 x u _ I5' r5 (step x H5 y5)) fun _ s6 ⟨σ6,H6,I6,q6⟩=>?_)
  refine iW hp (thn (hb _ s6 σ6 H6 _ I6 q6) fun f s7 q7=>?_)
  have again:∀ {σ7:St}{H7:Hp},Inv X (pins++sV fp s5.heap) σ7 H7 s7->N σ7 H7->∃ m,m<n/\∃ i σ' H',Inv X pins σ' H' s7/\tn i s7.heap/\(∀ b∈fp,H' b=none)/\W i m σ' H':=fun {σ7 H7} I7 n7=>by
   obtain⟨m',hm,w7⟩:=hN σ7 H7 n7
   refine⟨m',hm,i+1,σ7,H7,I7.oU,T.keep _ _ _ st5 fun b hb o e=>(I7.pin (b,o) (eJ _ (eJ _ (k6 hb e)))).1,fun b hb=>?_,w7⟩
   obtain⟨o,e,d⟩:=T.obj _ _ st5 b hb
   exact (I7.pin (b,o) (eJ _ (eJ _ (k6 hb e)))).2.1
  cases f with
  | next=>obtain⟨σ7,H7,I7,n7⟩:=q7;exact again I7 n7
  | cont=>obtain⟨σ7,H7,I7,n7⟩:=q7;exact again I7 n7
  | brk=>obtain⟨σ7,H7,I7,q7⟩:=q7;exact⟨σ7,H7,I7.oU,q7⟩
  | ret v=>obtain⟨x7,σ7,H7,I7,r7,q7⟩:=q7;exact⟨x7,σ7,H7,I7.oU,r7,q7⟩
end

theorem D1 {xs:List V}{g:TG}{tb:TS}{D:Ends}{σ:St}{H:Hp} (Pv:Nat->St->Hp->Prop) (h0:Pv 0 σ H) (hl:∀ i σ H,i<=xs.length->Pv i σ H->SqL K H a xs)
  (hs:∀ i x σ H,xs[i]?=some x->Pv i σ H->g x σ H fun σ2 H2=>tb { D with nx:=Pv (i+1),ct:=Pv (i+1),bk:=D.nx } σ2 H2) (hd:∀ σ H,Pv xs.length σ H->D.nx σ H) :
  ∃ W:Nat->Nat->St->Hp->Prop,(∃ m,W 0 m σ H)/\∀ i m σ H,W i m σ H →
   ((Itl K a).stop i H/\D.nx σ H)∨((Itl K a).go i H/\∃ N:St->Hp->Prop,(∀ σ' H',N σ' H'->∃ m',m'<m/\W (i+1) m' σ' H')/\∀ x H',(Itl K a).yld i H x H'->g x σ H' fun σ2 H2=>tb { D with nx:=N,ct:=N,bk:=D.nx } σ2 H2):=by
 refine⟨fun i m σ H=>m=xs.length-i/\i<=xs.length/\Pv i σ H,⟨xs.length,by simp,bN _,h0⟩,?_⟩
 rintro i m σ H ⟨rfl,hi,p⟩
 have q:=hl i σ H hi p
 by_cases hlt:i<xs.length
 ·refine .inr ⟨⟨xs,xs[i],q,by simp [hlt]⟩,Pv (i+1),fun σ' H' p'=>⟨xs.length-(i+1),by omega,rfl,hlt,p'⟩,fun x H' y=>?_⟩
  obtain⟨e,y⟩:=y
  subst e
  exact hs i x σ _ (y xs q) p
 ·have e:i=xs.length:=by omega
  subst e
  exact .inl ⟨⟨xs,q,aA _⟩,hd σ H p⟩
theorem BE {lo:Int}{n:Nat}{g:TG}{tb:TS}{D:Ends}{σ:St}{H:Hp} (Pv:Nat->St->Hp->Prop) (h0:Pv 0 σ H)
  (hs:∀ i σ H,i<n->Pv i σ H->g (.int (lo+i)) σ H fun σ2 H2=>tb { D with nx:=Pv (i+1),ct:=Pv (i+1),bk:=D.nx } σ2 H2) (hd:∀ σ H,Pv n σ H->D.nx σ H) :
  ∃ W:Nat->Nat->St->Hp->Prop,(∃ m,W 0 m σ H)/\∀ i m σ H,W i m σ H →
   ((Itr lo n).stop i H/\D.nx σ H)∨((Itr lo n).go i H/\∃ N:St->Hp->Prop,(∀ σ' H',N σ' H'->∃ m',m'<m/\W (i+1) m' σ' H')/\∀ x H',(Itr lo n).yld i H x H'->g x σ H' fun σ2 H2=>tb { D with nx:=N,ct:=N,bk:=D.nx } σ2 H2):=by
 refine⟨fun i m σ H=>m=n-i/\i<=n/\Pv i σ H,⟨n,by simp,bN _,h0⟩,?_⟩
 rintro i m σ H ⟨rfl,hi,p⟩
 by_cases hlt:i<n
 ·refine .inr ⟨hlt,Pv (i+1),fun σ' H' p'=>⟨n-(i+1),by omega,rfl,hlt,p'⟩,fun x H' y=>?_⟩
  obtain⟨e,y⟩:=y
  subst e y
  exact hs i σ _ hlt p
 ·have e:i=n:=by omega
  subst e
  exact .inl ⟨aA _,hd σ H p⟩
end
section

abbrev R2:=V->V->Hp->VK->Prop
def OpR (X:Cx) (f:Value->Value->Sem Value) (r:R2):Prop :=
 ∀ (pins:List (Addr×Obj)) (s:Shared) (σ:St) (H:Hp) (x y:V) (v u:Value) (Q:VK),Inv X pins σ H s->RelV x v->RelV y u->r x y H Q →
  wpAny (model X.prog X.w) X.A (f v u) (EP X pins σ Q) X.xe s
def UnR (X:Cx) (f:Value->Sem Value) (r:V->Hp->VK->Prop):Prop :=
 ∀ (pins:List (Addr×Obj)) (s:Shared) (σ:St) (H:Hp) (x:V) (v:Value) (Q:VK),Inv X pins σ H s->RelV x v->r x H Q →
  wpAny (model X.prog X.w) X.A (f v) (EP X pins σ Q) X.xe s
def cW (X:Cx) (f:Value) (r:List V->Hp->VK->Prop):Prop :=
 ∀ (pins:List (Addr×Obj)) (s:Shared) (σ:St) (H:Hp) (xs:List V) (us:List Value) (Q:VK),Inv X pins σ H s->Vals xs us->r xs H Q →
  wpAny (model X.prog X.w) X.A (call f us) (EP X pins σ Q) X.xe s
def tOp (r:R2) (ta tb:TE):TE:=fun σ H Q=>ta σ H fun x H1=>tb σ H1 fun y H2=>r x y H2 Q
def tUn (r:V->Hp->VK->Prop) (ta:TE):TE:=fun σ H Q=>ta σ H fun x H1=>r x H1 Q
def rI (C:Int->Int->Prop) (g:Int->Int->V):R2:=fun x y H Q=>∃ i j,x=.int i/\y=.int j/\C i j/\Q (g i j) H
def rI0 (g:Int->Int->V):R2:=fun x y H Q=>∃ i j,x=.int i/\y=.int j/\Q (g i j) H
def rU (g:Int->V):V->Hp->VK->Prop:=fun x H Q=>∃ i,x=.int i/\Q (g i) H

section
variable {X:Cx}{a b c:Expr}{ta tb tc:TE}{pos:Pos}

theorem Ic (ha:PE X a ta) (hb:PE X b tb) {σ:St}{H:Hp}{R:V->V->Hp->Prop} (I:Inv X pins σ H s)
  (h:ta σ H fun x H1=>tb σ H1 fun y H2=>R x y H2) {Q:Value->Shared->Prop}{f:Value->Value->Sem Value}
  (hf:∀ v u s2 x y H2,Inv X pins σ H2 s2->RelV x v->RelV y u->R x y H2->wpAny (model X.prog X.w) X.A (f v u) Q X.xe s2) :
  wpAny (model X.prog X.w) X.A (eval a X.env) (fun v s₁=>wpAny (model X.prog X.w) X.A (eval b X.env) (fun u s₂=>wpAny (model X.prog X.w) X.A (f v u) Q X.xe s₂) X.xe s₁) X.xe s:=by
 refine thn (ha pins s σ H _ I h) fun v s1 ⟨x,H1,I1,r1,q1⟩=>?_
 refine thn (hb pins s1 σ H1 _ I1 q1) fun u s2 ⟨y,H2,I2,r2,q2⟩=>?_
 exact hf v u s2 x y H2 I2 r1 r2 q2

theorem az {op:Operator}{r:R2} (ho:OpR X (binaryOp op) r) (ha:PE X a ta) (hb:PE X b tb):PE X (.BinOp a op b pos) (tOp r ta tb):=by
 intro pins s σ H Q I h
 exact wpAny_BinOp (Ic ha hb I h fun v u s2 x y H2 I2 rx ry q=>ho pins s2 σ H2 x y v u Q I2 rx ry q)
theorem A9 {op:UnaryOp}{r:V->Hp->VK->Prop} (ho:UnR X (unaryOp op) r) (ha:PE X a ta):PE X (.UnaryOp op a pos) (tUn r ta):=by
 intro pins s σ H Q I h
 exact UnaryOp_ (thn (ha pins s σ H _ I h) fun v s1 ⟨x,H1,I1,r1,q1⟩=>ho pins s1 σ H1 x v Q I1 r1 q1)
theorem opI {f:Value->Value->Sem Value}{C:Int->Int->Prop}{g:Int->Int->Int}
  (rule:∀ (i j:Int) (t u:Tok) (s:Shared) (Q:Value->Shared->Prop) (E:Value->Shared->Prop),C i j->Q (.int (g i j) s.toks) { s with toks:=s.toks+1 }->wpAny (model X.prog X.w) X.A (f (.int i t) (.int j u)) Q E s) :
  OpR X f (rI C fun i j=>.int (g i j)):=by
 intro pins s σ H x y v u Q I rx ry h
 obtain⟨i,j,rfl,rfl,hc,q⟩:=h
 obtain⟨t,rfl⟩:=rx
 obtain⟨t',rfl⟩:=ry
 exact rule i j t t' s _ _ hc ⟨.int (g i j),H,I.tok _,⟨_,rfl⟩,q⟩
theorem Kh {f:Value->Value->Sem Value}{g:Int->Int->Int}
  (rule:∀ (i j:Int) (t u:Tok) (s:Shared) (Q:Value->Shared->Prop) (E:Value->Shared->Prop),Q (.int (g i j) s.toks) { s with toks:=s.toks+1 }->wpAny (model X.prog X.w) X.A (f (.int i t) (.int j u)) Q E s) :
  OpR X f (rI0 fun i j=>.int (g i j)):=by
 intro pins s σ H x y v u Q I rx ry h
 obtain⟨i,j,rfl,rfl,q⟩:=h
 obtain⟨t,rfl⟩:=rx
 obtain⟨t',rfl⟩:=ry
 exact rule i j t t' s _ _ ⟨.int (g i j),H,I.tok _,⟨_,rfl⟩,q⟩
theorem Gk {f:Value->Value->Sem Value}{g:Int->Int->Bool}
  (rule:∀ (i j:Int) (t u:Tok) (s:Shared) (Q:Value->Shared->Prop) (E:Value->Shared->Prop),Q (.bool (g i j)) s->wpAny (model X.prog X.w) X.A (f (.int i t) (.int j u)) Q E s) :
  OpR X f (rI0 fun i j=>.bl (g i j)):=by
 intro pins s σ H x y v u Q I rx ry h
 obtain⟨i,j,rfl,rfl,q⟩:=h
 obtain⟨t,rfl⟩:=rx
 obtain⟨t',rfl⟩:=ry
 exact rule i j t t' s _ _ ⟨.bl (g i j),H,I,rfl,q⟩

def KR (i j:Int):Prop:=0<=j/\j<=1000000/\i.natAbs<2^64
def J7 (i j:Int):Prop:=(-(2^64)<i/\i<2^64)∨(-(2^64)<j/\j<2^64)
theorem J7.ok {i j:Int} (h:J7 i j):IntMulOk i j:=by
 rcases h with ⟨h1,h2⟩ | ⟨h1,h2⟩
 ·exact .of_left (intBits_le_64 h1 h2)
 ·exact .of_right (intBits_le_64 h1 h2)
theorem IQ:OpR X (binaryOp .Add) (rI0 fun i j=>.int (i+j)):=Kh fun _ _ _ _ _ _ _ q=>add_int q
theorem Je:OpR X (binaryOp .Sub) (rI0 fun i j=>.int (i-j)):=Kh fun _ _ _ _ _ _ _ q=>sub_int q
theorem IZ:OpR X (binaryOp .Mod) (rI (fun _ j=>0<j) fun i j=>.int (i%j)):=opI fun i j _ _ _ _ _ hc q=>by
 have h1:(0:Int)<j:=hc
 exact mod_int' (by omega) (by rw[Int.fmod_eq_emod_of_nonneg i (by omega)];exact q)
theorem Jc:OpR X (binaryOp .Pow) (rI KR fun i j=>.int (i^j.toNat)):=opI fun _ _ _ _ _ _ _ hc q=>pow_int_small hc.1 hc.2.1 hc.2.2 q
theorem unI {f:Value->Sem Value}{g:Int->Int}
  (rule:∀ (i:Int) (t:Tok) (s:Shared) (Q:Value->Shared->Prop) (E:Value->Shared->Prop),Q (.int (g i) s.toks) { s with toks:=s.toks+1 }->wpAny (model X.prog X.w) X.A (f (.int i t)) Q E s) :
  UnR X f (rU fun i=>.int (g i)):=by
 intro pins s σ H x v Q I rx h
 obtain⟨i,rfl,q⟩:=h
 obtain⟨t,rfl⟩:=rx
 exact rule i t s _ _ ⟨.int (g i),H,I.tok _,⟨_,rfl⟩,q⟩
theorem wa:UnR X (unaryOp .USub) (rU fun i=>.int (-i)):=unI fun _ _ _ _ _ q=>neg_int q
end

def Kw:V->V->Bool
 | .non,.non=>true | .non,.int _=>true | .int _,.non=>true | .non,.bl _=>true | .bl _,.non=>true | .non,.str _=>true | .str _,.non=>true
 | .int _,.int _=>true | .bl _,.bl _=>true | .str _,.str _=>true | .byt _,.byt _=>true
 | .int _,.str _=>true | .str _,.int _=>true | .bl _,.str _=>true | .str _,.bl _=>true
 | _,_=>false
def rEq:R2:=fun x y H Q=>Kw x y=true/\Q (.bl (decide (x=y))) H
def rNe:R2:=fun x y H Q=>Kw x y=true/\Q (.bl (!decide (x=y))) H

theorem zX {i j:Int}:decide (V.int i=V.int j)=(i==j):=by
 rw[ph]
 simp
theorem Dd {i j:Bool}:decide (V.bl i=V.bl j)=(i==j):=by
 rw[ph]
 simp
theorem zY {i j:Str}:decide (V.str i=V.str j)=(i==j):=by
 rw[ph]
 simp
theorem zW {i j:Array UInt8}:decide (V.byt i=V.byt j)=(i.toList==j.toList):=by
 rw[ph]
 cases i
 cases j
 simp

section
variable {X:Cx}{a b c:Expr}{ta tb tc:TE}{pos:Pos}
theorem cj {σ:St}{H:Hp}{Q:VK}{k k':Bool} (I:Inv X pins σ H s) (q:Q (.bl k) H) (e:k=k'):EP X pins σ Q (.bool k') s:=by
 subst e
 exact⟨.bl k,H,I,rfl,q⟩
theorem Ec:OpR X (compareOp .Eq) rEq:=by
 intro pins s σ H x y v u Q I rx ry h
 obtain⟨hs,q⟩:=h
 cases x with
 | non =>
  cases rx
  cases y with
  | non=>cases ry;exact PySem.EqNone.eq_none_none (cj I q (by simp))
  | bl j=>cases ry;exact PySem.EqNone.eq_none_bool (cj I q (by simp))
  | int j=>obtain⟨t',rfl⟩:=ry;exact PySem.EqNone.eq_none_int (cj I q (by simp))
  | str j=>obtain⟨t',rfl⟩:=ry;exact PySem.EqNone.eq_none_str (cj I q (by simp))
  | _=>exact absurd (show false=true from hs) cf
 | bl i =>
  cases rx
  cases y with
  | non=>cases ry;exact PySem.EqNone.eq_bool_none (cj I q (by simp))
  | bl j=>cases ry;exact eq_bool (cj I q Dd)
  | str j=>obtain⟨t',rfl⟩:=ry;exact PySem.EqMixed.eq_bool_str (cj I q (by simp))
  | _=>exact absurd (show false=true from hs) cf
 | int i =>
  obtain⟨t,rfl⟩:=rx
  cases y with
  | non=>cases ry;exact PySem.EqNone.eq_int_none (cj I q (by simp))
  | int j=>obtain⟨t',rfl⟩:=ry;exact eq_int (cj I q zX)
  | str j=>obtain⟨t',rfl⟩:=ry;exact PySem.EqMixed.eq_int_str (cj I q (by simp))
  | _=>exact absurd (show false=true from hs) cf
 | str i =>
  obtain⟨t,rfl⟩:=rx
  cases y with
  | non=>cases ry;exact PySem.EqNone.eq_str_none (cj I q (by simp))
  | bl j=>cases ry;exact PySem.EqMixed.eq_str_bool (cj I q (by simp))
  | int j=>obtain⟨t',rfl⟩:=ry;exact PySem.EqMixed.eq_str_int (cj I q (by simp))
  | str j=>obtain⟨t',rfl⟩:=ry;exact eq_str (cj I q zY)
  | _=>exact absurd (show false=true from hs) cf
 | byt i =>
  obtain⟨t,rfl⟩:=rx
  cases y with
  | byt j=>obtain⟨t',rfl⟩:=ry;exact PySem.W.eq_bytes (cj I q zW)
  | _=>exact absurd (show false=true from hs) cf
 | _=>cases y<;>exact absurd (show false=true from hs) cf
theorem Eh:OpR X (compareOp .NotEq) rNe:=by
 intro pins s σ H x y v u Q I rx ry h
 obtain⟨hs,q⟩:=h
 cases x with
 | non =>
  cases rx
  cases y with
  | non=>cases ry;exact PySem.EqNone.ne_none_none (cj I q (by simp))
  | bl j=>cases ry;exact PySem.EqNone.ne_none_bool (cj I q (by simp))
  | int j=>obtain⟨t',rfl⟩:=ry;exact PySem.EqNone.ne_none_int (cj I q (by simp))
  | str j=>obtain⟨t',rfl⟩:=ry;exact PySem.EqNone.ne_none_str (cj I q (by simp))
  | _=>exact absurd (show false=true from hs) cf
 | bl i =>
  cases rx
  cases y with
  | non=>cases ry;exact PySem.EqNone.ne_bool_none (cj I q (by simp))
  | bl j=>cases ry;exact ne_bool (cj I q (aG not Dd))
  | str j=>obtain⟨t',rfl⟩:=ry;exact PySem.EqMixed.ne_bool_str (cj I q (by simp))
  | _=>exact absurd (show false=true from hs) cf
 | int i =>
  obtain⟨t,rfl⟩:=rx
  cases y with
  | non=>cases ry;exact PySem.EqNone.ne_int_none (cj I q (by simp))
  | int j=>obtain⟨t',rfl⟩:=ry;exact ne_int (cj I q (aG not zX))
  | str j=>obtain⟨t',rfl⟩:=ry;exact PySem.EqMixed.ne_int_str (cj I q (by simp))
  | _=>exact absurd (show false=true from hs) cf
 | str i =>
  obtain⟨t,rfl⟩:=rx
  cases y with
  | non=>cases ry;exact PySem.EqNone.ne_str_none (cj I q (by simp))
  | bl j=>cases ry;exact PySem.EqMixed.ne_str_bool (cj I q (by simp))
  | int j=>obtain⟨t',rfl⟩:=ry;exact PySem.EqMixed.ne_str_int (cj I q (by simp))
  | str j=>obtain⟨t',rfl⟩:=ry;exact ne_str (cj I q (aG not zY))
  | _=>exact absurd (show false=true from hs) cf
 | byt i =>
  obtain⟨t,rfl⟩:=rx
  cases y with
  | byt j=>obtain⟨t',rfl⟩:=ry;exact PySem.W.ne_bytes (cj I q (aG not zW))
  | _=>exact absurd (show false=true from hs) cf
 | _=>cases y<;>exact absurd (show false=true from hs) cf

theorem Kl:OpR X (compareOp .Lt) (rI0 fun i j=>.bl (decide (i<j))):=Gk fun _ _ _ _ _ _ _ q=>lt_int q
theorem Kk:OpR X (compareOp .LtE) (rI0 fun i j=>.bl (decide (i<=j))):=Gk fun _ _ _ _ _ _ _ q=>le_int q
theorem Kj:OpR X (compareOp .Gt) (rI0 fun i j=>.bl (decide (j<i))):=Gk fun _ _ _ _ _ _ _ q=>gt_int q
theorem Ki:OpR X (compareOp .GtE) (rI0 fun i j=>.bl (decide (j<=i))):=Gk fun _ _ _ _ _ _ _ q=>ge_int q
theorem Ca:OpR X (compareOp .In) (fun x y H Q=>∃ i j,x=.str i/\y=.str j/\Q (.bl (!(Builtin.Str.occurrences j i 0 j.length 1).isEmpty)) H):=by
 intro pins s σ H x y v u Q I rx ry h
 obtain⟨i,j,rfl,rfl,q⟩:=h
 obtain⟨t,rfl⟩:=rx
 obtain⟨t',rfl⟩:=ry
 exact in_str (cj I q rfl)

theorem IY:OpR X (compareOp .Is) (fun x y H Q=>y=.non/\Q (.bl (decide (x=.non))) H):=by
 intro pins s σ H x y v u Q I rx ry h
 obtain⟨rfl,q⟩:=h
 cases ry
 refine is_none_gen (cj I q ?_)
 cases x<;>first
  | (cases rx;rfl)
  | (obtain⟨t,rfl⟩:=rx;rfl)
theorem Gn:OpR X (compareOp .IsNot) (fun x y H Q=>y=.non/\Q (.bl (!decide (x=.non))) H):=by
 intro pins s σ H x y v u Q I rx ry h
 obtain⟨rfl,q⟩:=h
 cases ry
 refine isnot_none_gen (cj I q ?_)
 cases x<;>first
  | (cases rx;rfl)
  | (obtain⟨t,rfl⟩:=rx;rfl)

theorem OpR.or {r r':R2} (h:OpR X f r) (h':OpR X f r'):OpR X f (fun x y H Q=>r x y H Q∨r' x y H Q):=by
 intro pins s σ H x y v u Q I rx ry q
 rcases q with q | q
 ·exact h pins s σ H x y v u Q I rx ry q
 ·exact h' pins s σ H x y v u Q I rx ry q

theorem bo (b:Expr)  (h:op≠.In:=by decide) (h2:op≠.NotIn:=by decide):behindInMarks op b=false:=by
 have e1:(op==CmpOp.In)=false:=by cases op<;>first | rfl | exact absurd rfl h
 have e2:(op==CmpOp.NotIn)=false:=by cases op<;>first | rfl | exact absurd rfl h2
 cases b<;>simp [behindInMarks,e1,e2]
theorem dU {r:R2} (ho:OpR X (compareOp op) r) (ha:PE X a ta) (hb:PE X b tb) (hm:behindInMarks op b=false):PE X (.Compare a [op] [b] pos) (tOp r ta tb):=by
 intro pins s σ H Q I h
 exact wpAny_Compare1 (Ic ha hb I h fun v u s2 x y H2 I2 rx ry q=>ho pins s2 σ H2 x y v u Q I2 rx ry q) hm
def xV (t:TE):TT:=fun σ H Q=>t σ H fun x H'=>∃ k,x=.bl k/\Q k H'
theorem bg {r:R2} (ho:OpR X (compareOp op) r) (ha:PE X a ta) (hb:PE X b tb) (hm:behindInMarks op b=false):PT X (.Compare a [op] [b] pos) (xV (tOp r ta tb)):=by
 intro pins s σ H Q I h
 refine wpAny_isTrue_Compare1 (thn (ha pins s σ H _ I h) fun v s1 ⟨x,H1,I1,r1,q1⟩=>thn (hb pins s1 σ H1 _ I1 q1) fun u s2 ⟨y,H2,I2,r2,q2⟩ =>
  thn (ho pins s2 σ H2 x y v u _ I2 r1 r2 q2) fun c s3 ⟨z,H3,I3,r3,k,e,q3⟩=>?_) hm
 subst e
 cases r3
 exact gB ⟨H3,I3,q3⟩
def zC (r r':R2) (ta tb tc:TE):TE:=fun σ H Q=>ta σ H fun x H1=>tb σ H1 fun y H2=>r x y H2 fun z H3=>∃ k,z=.bl k ∧
 (if k=true then tc σ H3 fun w' H4=>r' y w' H4 Q else Q (.bl false) H3)
theorem Ek {op op':CmpOp}{r r':R2} (ho:OpR X (compareOp op) r) (ho':OpR X (compareOp op') r') (ha:PE X a ta) (hb:PE X b tb) (hc:PE X c tc)
  (hm:lastMarks [op,op'] [b,c]=false:=by with_unfolding_all rfl):PE X (.Compare a [op,op'] [b,c] pos) (zC r r' ta tb tc):=by
 intro pins s σ H Q I h
 refine Compare_chain (thn (ha pins s σ H _ I h) fun v s1 ⟨x,H1,I1,r1,q1⟩=>chain_link (thn (hb pins s1 σ H1 _ I1 q1) fun u s2 ⟨y,H2,I2,r2,q2⟩ =>
  thn (ho pins s2 σ H2 x y v u _ I2 r1 r2 q2) fun d s3 ⟨z,H3,I3,r3,k,e,q3⟩=>?_)) hm
 subst e
 cases r3
 refine gB ?_
 cases k with
 | false=>exact ite_ff ⟨.bl false,H3,I3,rfl,q3⟩
 | true=>exact ite_tt (chain_last (thn (hc pins s3 σ H3 _ I3 q3) fun w' s4 ⟨z',H4,I4,r4,q4⟩=>ho' pins s4 σ H4 y z' u w' Q I4 r2 r4 q4))
theorem oE {op op':CmpOp}{r r':R2} (ho:OpR X (compareOp op) r) (ho':OpR X (compareOp op') r') (ha:PE X a ta) (hb:PE X b tb) (hc:PE X c tc)
  (hm:lastMarks [op,op'] [b,c]=false:=by with_unfolding_all rfl):PT X (.Compare a [op,op'] [b,c] pos) (xV (zC r r' ta tb tc)):=by
 intro pins s σ H Q I h
 refine isTrue_chain (thn (ha pins s σ H _ I h) fun v s1 ⟨x,H1,I1,r1,q1⟩=>test_link (thn (hb pins s1 σ H1 _ I1 q1) fun u s2 ⟨y,H2,I2,r2,q2⟩ =>
  thn (ho pins s2 σ H2 x y v u _ I2 r1 r2 q2) fun d s3 ⟨z,H3,I3,r3,k,e,q3⟩=>?_)) hm
 subst e
 cases r3
 refine gB ?_
 cases k with
 | false =>
  obtain⟨k',e',q'⟩:=q3
  cases e'
  exact ite_ff ⟨H3,I3,q'⟩
 | true =>
  refine ite_tt (test_last (thn (hc pins s3 σ H3 _ I3 q3) fun w' s4 ⟨z',H4,I4,r4,q4⟩=>thn (ho' pins s4 σ H4 y z' u w' _ I4 r2 r4 q4) fun d' s5 ⟨z2,H5,I5,r5,k2,e2,q5⟩=>?_))
  subst e2
  cases r5
  exact gB ⟨H5,I5,q5⟩

theorem pQ:(sizeLine:Nat)<2^63:=by rw[eL];decide
theorem zd:OpR X (binaryOp .Add) (fun x y H Q=>∃ i j,x=.str i/\y=.str j/\i.length+j.length<=sizeLine/\Q (.str (i++j)) H):=by
 intro pins s σ H x y v u Q I rx ry h
 obtain⟨i,j,rfl,rfl,hz,q⟩:=h
 obtain⟨t,rfl⟩:=rx
 obtain⟨t',rfl⟩:=ry
 exact add_str (fun t' tk=>⟨.str (i++j),H,I.tok _,⟨_,rfl⟩,q⟩) hz
theorem vals1 {x:V} (r:Vals [x] us):∃ u,us=[u]/\RelV x u:=by
 cases r with
 | cons r1 r2=>cases r2;exact⟨_,rfl,r1⟩
theorem vals2 {x y:V} (r:Vals [x,y] us):∃ u w',us=[u,w']/\RelV x u/\RelV y w':=by
 cases r with
 | cons r1 r2 =>
  cases r2 with
  | cons r3 r4=>cases r4;exact⟨_,_,rfl,r1,r3⟩
theorem CV:cW X (.builtin "abs") (fun xs H Q=>∃ i,xs=[.int i]/\Q (.int (if i<0 then -i else i)) H):=by
 intro pins s σ H xs us Q I r h
 obtain⟨i,rfl,q⟩:=h
 obtain⟨u,rfl,t,rfl⟩:=vals1 r
 exact call_abs_int fun u tk=>⟨.int (if i<0 then -i else i),H,I.tok _,⟨_,rfl⟩,q⟩
end
end
section

structure yc (h:Heap) (x dx C:Addr) (mA:Str->Option Value):Prop where
 obj:h.get? x=some (PySem.W.instObj C dx)
 ns:h.Ns1 dx mA
 ne:dx≠x

theorem BR {dx:Addr} (n:h.Ns1 dx mA):∃ od,h.get? dx=some od/\∀ name,PySem.W.lookIn name od=some (mA name):=by
 obtain⟨o,es,ep,ho,hd,hk,_,hm⟩:=n
 refine⟨o,ho,fun name=>?_⟩
 have e:=hm name
 unfold nsFind findBy at e
 rw[←Array.find?_toList] at e
 unfold PySem.W.lookIn
 rw[hd]
 dsimp only
 split
 ·rename_i y q
  rw[q] at e
  exact aG some e
 ·rename_i q
  rw[q] at e
  have a:es.toList.any (·.refKey)=false:=by
   rw[List.any_eq_false]
   intro y hy
   obtain⟨z,t,hkey⟩:=hk y (Array.mem_toList_iff.mp hy)
   simp [DictEntry.refKey,hkey]
  have a':¬ es.toList.any (·.refKey)=true:=by rw[a];exact cf
  rw[ai a']
  exact aG some e

theorem yc.look {x dx C:Addr} (I:yc h x dx C mA):∃ od,PySem.W.InstAt h x (PySem.W.instObj C dx) C (some od)/\∀ name,PySem.W.lookIn name od=some (mA name) :=
 let ⟨od,ho,hl⟩:=BR I.ns
 ⟨od,⟨I.obj,rfl,rfl,ho⟩,hl⟩

section
variable {prog:Program}{w:World}{A:Around}{E:Value->Shared->Prop}{s:Shared}{K:PySem.W.Frag}{x dx C f:Addr}{mA:Str->Option Value}{name:Str}{v:Value}

theorem get_map {expr:Bool}{Q:Value->Shared->Prop} (X:K.In s.heap) (I:yc s.heap x dx C mA) (hg:PySem.W.plainGet K C name=true) (hh:PySem.W.hasDictIn K C=true)
  (ha:PySem.W.findIn K (.ref C) name=some none) (hv:mA name=some v) (hv':PySem.W.handedIn v=true) (h:Q v { s with toks:=s.toks+1 }) :
  wpAny (model prog w) A (getAttr (.ref x) name expr) Q E s:=by
 obtain⟨od,J,hl⟩:=I.look
 exact PySem.W.get_value X J (PySem.W.plainGet_of hg).1 (PySem.W.findObj_own hh ha rfl (by rw[hl,hv])) hv' h

theorem DA {pl:Sem Bool}{Q:Value×List Value->Shared->Prop} (X:K.In s.heap) (I:yc s.heap x dx C mA) (hg:PySem.W.plainGet K C name=true)
  (hf:PySem.W.findIn K (.ref C) name=some (some (.ref f))) (ht:PySem.W.isFn K (.ref f)=true) (hv:mA name=none) (h:Q (.ref f,[.ref x]) s) :
  wpAny (model prog w) A (getMethod (.ref x) name pl) Q E s:=by
 obtain⟨od,J,hl⟩:=I.look
 exact PySem.W.method_fn X J (PySem.W.plainGet_of hg).1 (PySem.W.plainGet_of hg).2 hf (eK.mp ht) (by show (PySem.W.lookIn name od).map (·.isSome)=some false;rw[hl,hv];rfl) h

theorem GP {ns:List Str}{Q:Unit->Shared->Prop} (X:K.In s.heap) (I:yc s.heap x dx C mA)
  (hs:PySem.W.findIn K (.ref C) "__setattr__"=some (some (.builtin "object.__setattr__"))) (hp:PySem.W.plainOver K C=true) (ht:PySem.W.takerIn K C name=some none) (hh:PySem.W.hasDictIn K C=true)
  (hw:PySem.Within mA ns) (hsz:ns.length<=sizeLine)
  (h:∀ h',yc h' x dx C (fun y=>if y=name then some v else mA y)->Heap.SameBut dx s.heap h'->Q () { s with heap:=h',toks:=s.toks+2 }) :
  wpAny (model prog w) A (setAttr (.ref x) name v) Q E s:=by
 obtain⟨od,J,hl⟩:=I.look
 refine PySem.W.set_plain X J hs (PySem.W.osa_open (s:={ s with toks:=s.toks+1 }) (r:=none) X J hp ht fun b=>?_)
 obtain⟨cd,hc,hd'⟩:=PySem.W.any_some hh
 have hx:s.heap.get? x=some ⟨.ref C,some dx,.plain,#[]⟩:=I.obj
 refine ar (aO (ar (ar (wpAny_loadPart hx (ar (PySem.W.Looks.here (s:={ s with toks:=s.toks+1 }) (PySem.W.looks_clsIn X hc) ?_))))))
 rw[hd']
 refine aO (a:=some dx) (ar (aO (ar ?_)))
 refine wpAny_nsSet1 (s:={ s with toks:=s.toks+1 }) I.ns fun h' hn2 hs2=>?_
 obtain⟨oD,esD,epD,hoD,hdD,hcD⟩:=hn2.count (PySem.Within.cons name v hw)
 refine ar (wpAny_lookBehind hoD (by rw[hdD];exact pastItsLine_dict (bJ hcD (by rw[ag];omega))) ?_)
 exact aO (h _ ⟨(hs2.2 _ (Ne.symm I.ne)).trans I.obj,hn2,I.ne⟩ hs2)

theorem DS {R:Result->Shared->Prop}{vs:List Value}{kw:List (Str×Value)} (X:K.In s.heap) (hm:PySem.W.makesIn K C=true)
  (hi:PySem.W.findIn K (.ref C) "__init__"=some (some (.ref f))) (hf:PySem.W.typeIn K (.ref f)=some (.type "function"))
  (h:codeAny (model prog w) (A.under (.builtin "type.__call__" ⟨.ref C::vs,kw⟩)) (.call (.ref f) ⟨.ref (s.heap.objs.size+1)::vs,kw⟩) (PySem.W.InitBack (s.heap.objs.size+1) R)
   { s with heap:=(s.heap.push PySem.W.emptyDict).push (PySem.W.instObj C s.heap.objs.size) }) :
  codeAny (model prog w) A (.call (.ref C) ⟨vs,kw⟩) R s:=by
 obtain⟨hh,g,d,t,os⟩:=s
 exact PySem.W.make_core (PySem.W.makes_of X hm) (PySem.W.looks_findIn X hi) (fun self=>PySem.W.bind_fn X self hf) (.inl rfl) h
end

def lh (f:Str) (v:V):List (Str×V)->List (Str×V)
 | []=>[(f,v)]
 | (g,x)::r=>if g=f then (g,v)::r else (g,x)::lh f v r
theorem qw (f g:Str) (v:V):∀ fs:List (Str×V),(lh f v fs).lookup g=if g=f then some v else fs.lookup g
 | []=>by
  show List.lookup g [(f,v)]=_
  by_cases h:g=f
  ·have hb:(g==f)=true:=eK.mpr h
   simp only[List.lookup,hb,ao h]
  ·have hb:(g==f)=false:=km.mpr h
   simp only[List.lookup,hb,ai h]
 | (k,x)::r=>by
  have ih:=qw f g v r
  rw[show lh f v ((k,x)::r)=(if k=f then (k,v)::r else (k,x)::lh f v r) from rfl]
  by_cases hk:k=f
  ·rw[ao hk]
   by_cases h:g=k
   ·have hb:(g==k)=true:=eK.mpr h
    simp only[List.lookup,hb,ao (h.trans hk)]
   ·have hb:(g==k)=false:=km.mpr h
    simp only[List.lookup,hb,ai (fun e:g=f=>h (e.trans hk.symm))]
  ·rw[ai hk]
   by_cases h:g=k
   ·have hb:(g==k)=true:=eK.mpr h
    simp only[List.lookup,hb,ai (fun e:g=f=>hk (h.symm.trans e))]
   ·have hb:(g==k)=false:=km.mpr h
    simp only[List.lookup,hb]
    exact ih
theorem pP (f:Str) (v:V):∀ fs:List (Str×V),f∈(lh f v fs).map (·.1)/\∀ g,g∈fs.map (·.1)->g∈(lh f v fs).map (·.1)
 | []=>⟨by simp [lh],fun g h=>by simp at h⟩
 | (k,x)::r=>by
  obtain⟨i1,i2⟩:=pP f v r
  rw[show lh f v ((k,x)::r)=(if k=f then (k,v)::r else (k,x)::lh f v r) from rfl]
  by_cases hk:k=f
  ·rw[ao hk]
   subst hk
   exact⟨by simp,fun g h=>by simpa using h⟩
  ·rw[ai hk]
   refine⟨?_,fun g h=>?_⟩
   ·rw[aQ]
    exact bb _ i1
   ·rw[aQ] at h ⊢
    rcases aH.mp h with e | e
    ·exact aH.mpr (.inl e)
    ·exact bb _ (i2 g e)
theorem qt (f:Str) (v:V):∀ fs:List (Str×V),(lh f v fs).length<=fs.length+1
 | []=>by simp [lh]
 | (k,x)::r=>by
  have ih:=qt f v r
  rw[show lh f v ((k,x)::r)=(if k=f then (k,v)::r else (k,x)::lh f v r) from rfl]
  by_cases hk:k=f
  ·rw[ao hk,ag,ag];omega
  ·rw[ai hk,ag,ag];omega

theorem kY.some_of {v:V}{o:Option Value} (r:kY (some v) o):∃ u,o=some u/\RelV v u:=by
 cases o with
 | none=>exact (show False from r).elim
 | some u=>exact⟨u,rfl,r⟩
theorem kY.none_of {o:Option Value} (r:kY none o):o=none:=by
 cases o with
 | none=>rfl
 | some u=>exact (show False from r).elim
theorem BH {v:V} (r:RelV v u):PySem.W.handedIn u=true:=by
 cases v with
 | non=>cases (show u=Value.none from r);rfl
 | bl b=>cases (show u=Value.bool b from r);rfl
 | int i=>obtain⟨t,e⟩:=(show ∃ t,u=Value.int i t from r);cases e;rfl
 | str x=>obtain⟨t,e⟩:=(show ∃ t,u=Value.str x t from r);cases e;rfl
 | byt b=>obtain⟨t,e⟩:=(show ∃ t,u=Value.bytes b t from r);cases e;rfl
 | flt b=>obtain⟨t,e⟩:=(show ∃ t,u=Value.float b t from r);cases e;rfl
 | ref a=>cases (show u=Value.ref a from r);rfl
 | ty n=>cases (show u=Value.type n from r);rfl

section
variable {P:Program}{w:World}{H H':Hp}{h h':Heap}{a C dx:Addr}{fs fs':List (Str×V)}
theorem rz (hok:HOk P w H h) (e:H a=some (.ins C dx fs)):∃ mA,yc h a dx C mA/\(∀ f,kY (fs.lookup f) (mA f))/\PySem.Within mA (fs.map (·.1))/\fs.length<=1000/\H dx=some (.own a):=by
 obtain⟨d,z,ne,ob,mA,n,r,q⟩:=(show c8 P w H h a (.ins C dx fs) from hok a _ e)
 exact⟨mA,⟨ob,n,ne⟩,r,q,z,d⟩
end

structure Cls (K:PySem.W.Frag) (C:Addr):Prop where
 pg:PySem.W.plainGet K C Str.empty=true
 hd:PySem.W.hasDictIn K C=true
 po:PySem.W.plainOver K C=true
 sa:PySem.W.findIn K (.ref C) "__setattr__"=some (some (.builtin "object.__setattr__"))
theorem Cls.get (c:Cls K C) (f:Str):PySem.W.plainGet K C f=true:=c.pg
def fQ (K:PySem.W.Frag) (C:Addr) (f:Str):Prop:=PySem.W.findIn K (.ref C) f=some none
theorem fQ.K8 {f:Str} (n:fQ K C f):PySem.W.takerIn K C f=some none:=by
 unfold PySem.W.takerIn
 rw[show PySem.W.findIn K (.ref C) f=some none from n]
 rfl
structure Meth (K:PySem.W.Frag) (C:Addr) (m:Str) (f:Addr):Prop where
 at_:PySem.W.findIn K (.ref C) m=some (some (.ref f))
 fn:PySem.W.isFn K (.ref f)=true
 kp:PySem.W.keepIn K (.ref f)=true

section
variable {X:Cx}{pins:List (Addr×Obj)}{σ:St}{H:Hp}{s:Shared}{a C dx:Addr}{fs:List (Str×V)}{f:Str}{v:V}{A:Around}{E:Value->Shared->Prop}

theorem yO {b:Bool}{Q:Value->Shared->Prop} (I:Inv X pins σ H s) (e:H a=some (.ins C dx fs)) (c:Cls X.K C) (n:fQ X.K C f) (l:fs.lookup f=some v)
  (h:∀ u s',Inv X pins σ H s'->RelV v u->Q u s'):wpAny (model X.prog X.w) A (getAttr (.ref a) f b) Q E s:=by
 obtain⟨mA,O,r,_,_,_⟩:=rz I.hok e
 obtain⟨u,hu,ru⟩:=kY.some_of (v:=v) (o:=mA f) (by rw[←l];exact r f)
 exact get_map I.kIn O (c.get f) c.hd n hu (BH ru) (h u _ (I.tok _) ru)

theorem rW {m:Str}{g:Addr}{pl:Sem Bool}{Q:Value×List Value->Shared->Prop} (I:Inv X pins σ H s) (e:H a=some (.ins C dx fs)) (c:Cls X.K C) (k:Meth X.K C m g) (l:fs.lookup m=none)
  (h:Q (.ref g,[.ref a]) s):wpAny (model X.prog X.w) A (getMethod (.ref a) m pl) Q E s:=by
 obtain⟨mA,O,r,_,_,_⟩:=rz I.hok e
 have hn:mA m=none:=kY.none_of (by rw[←l];exact r m)
 exact DA I.kIn O (c.get m) k.at_ k.fn hn h

theorem zz {y:V}{Q:Unit->Shared->Prop} (I:Inv X pins σ H s) (e:H a=some (.ins C dx fs)) (c:Cls X.K C) (n:fQ X.K C f) (hl:fs.length<1000) (ry:RelV y u)
  (h:∀ s',Inv X pins σ (upd H a (.ins C dx (lh f y fs))) s'->Q () s'):wpAny (model X.prog X.w) A (setAttr (.ref a) f u) Q E s:=by
 obtain⟨mA,O,r,wi,_,ho⟩:=rz I.hok e
 have hz:(fs.map (·.1)).length<=sizeLine:=by rw[aj,eL];omega
 refine GP I.kIn O c.sa c.po n.K8 c.hd wi hz fun h' O' sb=>h _ ?_
 have hd:∃ o,h'.get? dx=some o:=let ⟨o,_,_,e',_⟩:=O'.ns;⟨o,e'⟩
 refine I.write (x:=a) (e:=dx) (by rw[e];exact True.intro) (.inr ho) (fun b q hb z=>(sb.2 b hb).trans z) hd ?_
 refine⟨by rw[aP O.ne];exact ho,?_,O.ne,O'.obj,_,O'.ns,fun g=>?_,fun g hg=>?_⟩
 ·have:=qt f y fs;omega
 ·show kY ((lh f y fs).lookup g) (if g=f then some u else mA g)
  rw[qw]
  by_cases q:g=f
  ·rw[ao q,ao q];exact ry
  ·rw[ai q,ai q];exact r g
 ·by_cases q:g=f
  ·rw[q];exact (pP f y fs).1
  ·refine (pP f y fs).2 g (wi g fun z=>hg ?_)
   show (if g=f then some u else mA g)=none
   rw[ai q];exact z

theorem Inv.made (I:Inv X pins σ H s):Inv X pins σ (upd (upd H s.heap.objs.size (.own (s.heap.objs.size+1))) (s.heap.objs.size+1) (.ins C s.heap.objs.size []))
  { s with heap:=(s.heap.push PySem.W.emptyDict).push (PySem.W.instObj C s.heap.objs.size) }:=by
 have e1:(s.heap.push PySem.W.emptyDict).get? s.heap.objs.size=some PySem.W.emptyDict:=bL s.heap rfl
 have e2:((s.heap.push PySem.W.emptyDict).push (PySem.W.instObj C s.heap.objs.size)).get? (s.heap.objs.size+1)=some (PySem.W.instObj C s.heap.objs.size):=by
  have:=bL (s.heap.push PySem.W.emptyDict) (o:=PySem.W.instObj C s.heap.objs.size) rfl
  rwa [Heap.size_push] at this
 have e3:(s.heap.push PySem.W.emptyDict).Ns s.heap.objs.size (fun _=>none):=⟨PySem.W.emptyDict,#[],_,e1,rfl,(fun e he=>absurd he (by simp)),fun _=>rfl⟩
 have I1:=I.laid (a:=s.heap.objs.size) (o:=.own (s.heap.objs.size+1)) (h':=s.heap.push PySem.W.emptyDict) (t':=s.toks) (fun b u q=>aW _ q) (aA _) ⟨_,e1⟩
 refine I1.laid (a:=s.heap.objs.size+1) (o:=.ins C s.heap.objs.size []) (t':=s.toks) (fun b u q=>aW _ q) (Nat.le_of_eq (Heap.size_push _ _)) ?_
 have ne:s.heap.objs.size≠s.heap.objs.size+1:=bE (gZ _)
 refine⟨by rw[aP ne,aS],bN _,ne,e2,fun _=>none,(Heap.Ns1.of_empty e3).at fun o q=>aW _ q,fun _=>True.intro,fun y hy=>absurd rfl hy⟩

theorem F8 {prog:Program}{w:World}{env:Env}{f:Str}{pos:Pos}{s:Shared}{Q:Value->Shared->Prop} (hb:attributeBase e f env (eval e env)=eval e env)
  (h:wpAny (model prog w) A (eval e env) (fun o s₁=>wpAny (model prog w) A (getAttr o f true) Q E s₁) E s):wpAny (model prog w) A (eval (.Attribute e f pos) env) Q E s :=
 Attribute_any_ h (by rw[arm_eval_Attribute,hb])
end

def Lw (K:PySem.W.Frag) (ta:TE) (f:Str):TE:=fun σ H Q=>ta σ H fun x H1=>∃ a C dx fs v,x=.ref a/\H1 a=some (.ins C dx fs)/\Cls K C/\fQ K C f/\fs.lookup f=some v/\Q v H1
def Lu (K:PySem.W.Frag) (ta tv:TE) (f:Str):TS:=fun D σ H=>tv σ H fun y H1=>ta σ H1 fun x H2=>∃ a C dx fs,x=.ref a/\H2 a=some (.ins C dx fs)/\Cls K C/\fQ K C f/\fs.length<1000 ∧
 D.nx σ (upd H2 a (.ins C dx (lh f y fs)))
section
variable {X:Cx}{o e value:Expr}{f:Str}{pos pos' tpos:Pos}{ta tv:TE}
theorem Jg (he:PE X e ta) (hb:attributeBase e f X.env (eval e X.env)=eval e X.env):PE X (.Attribute e f pos) (Lw X.K ta f):=by
 intro pins s σ H Q I h
 refine F8 hb (thn (he pins s σ H _ I h) fun u s1 ⟨x,H1,I1,rx,a,C,dx,fs,v,ex,ea,c,n,l,q⟩=>?_)
 subst ex
 obtain rfl:u=Value.ref a:=rx
 exact yO I1 ea c n l fun u' s2 I2 ru=>⟨v,H1,I2,ru,q⟩
theorem Jl (ha:PE X o ta) (hv:PE X value tv) (hs:swapsWith value (some (.Attribute o f pos')) pos.line X.env=pure false):PS X (.Assign [.Attribute o f pos'] value pos) (Lu X.K ta tv f):=by
 intro pins s σ H D I h
 refine plainObj_wpAny_Assign_Attribute (thn (hv pins s σ H _ I h) fun u s1 ⟨y,H1,I1,ry,q⟩=>thn (ha pins s1 σ H1 _ I1 q) fun ov s2 ⟨x,H2,I2,rx,a,C,dx,fs,ex,ea,c,n,l,q2⟩=>?_) hs
 subst ex
 obtain rfl:ov=Value.ref a:=rx
 exact zz I2 ea c n l ry fun s3 I3=>⟨σ,_,I3,q2⟩
end

section
variable {X:Cx}{pins:List (Addr×Obj)}{σ:St}{H:Hp}{s:Shared}{A:Around}{E:Value->Shared->Prop}{Q:Value->Shared->Prop}{c:Value}{b:Bool}
inductive mY (K:PySem.W.Frag) (H:Hp):V->Value->Prop where
 | non:mY K H .non (.type "NoneType")
 | bl (x:Bool):mY K H (.bl x) (.type "bool")
 | int (i:Int):mY K H (.int i) (.type "int")
 | str (x:Str):mY K H (.str x) (.type "str")
 | flt (x:UInt64):mY K H (.flt x) (.type "float")
 | lst {a:Addr}{xs:List V} (e:H a=some (.lst xs)):mY K H (.ref a) (.type "list")
 | frz {a:Addr}{o:Obj}{xs:List V} (e:H a=some (.frz o (.lst xs))):mY K H (.ref a) (.type "list")
 | tup {a:Addr}{xs:List V} (e:H a=some (.tup xs)):mY K H (.ref a) (.type "tuple")
 | dK {a:Addr}{kvs:List (Key×V)} (e:H a=some (.dK kvs)):mY K H (.ref a) (.type "dict")
 | dT {a:Addr}{kvs:List (List Key×V)} (e:H a=some (.dT kvs)):mY K H (.ref a) (.type "dict")
 | ins {a C dx:Addr}{fs:List (Str×V)} (e:H a=some (.ins C dx fs)) (cl:Cls K C) (ha:PySem.W.findIn K (.ref C) "__class__"=some (some (.builtin "object.__class__")))
   (hn:PySem.W.specialIn K (.builtin "object.__class__") "__get__"=some (some (.builtin "getset_descriptor.__get__"))) (htk:PySem.W.takesIn K (.builtin "object.__class__")=some true)
   (hm:PySem.W.mroIn K C (.type "object")=some true):mY K H (.ref a) (.ref C)
theorem isinst_ok {x:V}{u t:Value} (I:Inv X pins σ H s) (rx:RelV x u) (ty:mY X.K H x t) (e:PySem.W.kitOne X.K t c=some b) (h:∀ tk,Q (.bool b) { s with toks:=tk }) :
  wpAny (model X.prog X.w) A (call (.builtin "isinstance") [u,c]) Q E s:=by
 cases ty with
 | non=>cases (show u=Value.none from rx);exact eh PySem.W.kitx_none I.kIn True.intro e (fun z=>nomatch z) h
 | bl y=>cases (show u=Value.bool y from rx);exact eh PySem.W.kitx_bool I.kIn True.intro e (fun z=>nomatch z) h
 | int i=>obtain⟨t,q⟩:=(show ∃ t,u=Value.int i t from rx);cases q;exact eh PySem.W.kitx_int I.kIn True.intro e (fun z=>nomatch z) h
 | str y=>obtain⟨t,q⟩:=(show ∃ t,u=Value.str y t from rx);cases q;exact eh PySem.W.kitx_str I.kIn True.intro e (fun z=>nomatch z) h
 | flt y=>obtain⟨t,q⟩:=(show ∃ t,u=Value.float y t from rx);cases q;exact eh PySem.W.kitx_float I.kIn True.intro e (fun z=>nomatch z) h
 | @lst a xs ea =>
  cases (show u=Value.ref a from rx)
  obtain⟨_,_,n,_,h1⟩:=(show c8 X.prog X.w H s.heap a (.lst xs) from I.hok a _ ea)
  exact eh PySem.W.kitx_list I.kIn ⟨_,h1,rfl⟩ e (fun z=>nomatch z) h
 | @frz a ob xs ea =>
  cases (show u=Value.ref a from rx)
  obtain⟨_,_,_,n,_,h1⟩:=(show c8 X.prog X.w H s.heap a (.frz ob (.lst xs)) from I.hok a _ ea)
  exact eh PySem.W.kitx_list I.kIn ⟨_,h1,rfl⟩ e (fun z=>nomatch z) h
 | @tup a xs ea =>
  cases (show u=Value.ref a from rx)
  obtain⟨_,_,_,p⟩:=(show c8 X.prog X.w H s.heap a (.tup xs) from I.hok a _ ea)
  obtain⟨o,h1,h2,_⟩:=p
  exact eh PySem.W.kitx_tuple I.kIn ⟨o,h1,h2⟩ e (fun z=>nomatch z) h
 | @dK a kvs ea =>
  cases (show u=Value.ref a from rx)
  obtain⟨_,_,vs,_,p⟩:=(show c8 X.prog X.w H s.heap a (.dK kvs) from I.hok a _ ea)
  obtain⟨o,es,ep,h1,h2,_⟩:=p
  exact eh PySem.W.kitx_dict I.kIn ⟨o,h1,h2.1⟩ e (fun z=>nomatch z) h
 | @dT a kvs ea =>
  cases (show u=Value.ref a from rx)
  obtain⟨_,_,xs,_,o,es,ep,h1,h2,_⟩:=(show c8 X.prog X.w H s.heap a (.dT kvs) from I.hok a _ ea)
  exact eh PySem.W.kitx_dict I.kIn ⟨o,h1,h2.1⟩ e (fun z=>nomatch z) h
 | @ins a C dx fs ea cl ha hn htk hm =>
  cases (show u=Value.ref a from rx)
  obtain⟨mA,O,_⟩:=rz I.hok ea
  obtain⟨od,J,_⟩:=O.look
  exact eh (PySem.W.kitx_own (cl.get _) cl.hd ha hn htk hm) I.kIn J e (fun z=>nomatch z) h
end
end
section

structure dI (k:Nat) (A:Around):Prop where
 hd:A.handled=none
 dp:A.depth+3*k+5<recursionLimit
 un:A.units+16*k+200<cLine
theorem dI.mono {j k:Nat} (r:dI k A) (h:j<=k):dI j A:=⟨r.hd,by have:=r.dp;omega,by have:=r.un;omega⟩
theorem dI.deeper {k:Nat}{A:Around} (r:dI (k+1) A) (env:Env):dI k (A.deeper env) :=
 ⟨r.hd,by have:=r.dp;show A.depth+1+3*k+5<_;omega,by have:=r.un;show A.units+3+16*k+200<_;omega⟩
theorem dI.in1 {k:Nat}{A:Around} (r:dI (k+1) A):dI k A.in1 :=
 ⟨r.hd,by have:=r.dp;show A.depth+3*k+5<_;omega,by have:=r.un;show A.units+1+16*k+200<_;omega⟩
theorem yT :(A.under (.builtin "type.__call__" ⟨.ref C::us,kw⟩)).depth=A.depth+1:=by
 first | rfl | simp [Around.under,Code.weight,Code.isCreation,Code.isGuard,Code.isCaller,Code.frames,Code.isFrame,guardIds]
theorem yU :(A.under (.builtin "type.__call__" ⟨.ref C::us,kw⟩)).units=A.units+1:=by
 first | rfl | simp [Around.under,Code.cUnits,Code.frames,Code.isFrame]
theorem dI.make {k:Nat} (r:dI (k+1) A) (C:Addr) (us:List Value) (kw:List (Str×Value)):dI k (A.under (.builtin "type.__call__" ⟨.ref C::us,kw⟩)) :=
 ⟨r.hd,by have:=r.dp;rw[yT];omega,by have:=r.un;rw[yU];omega⟩
theorem dI.depth {k:Nat}{A:Around} (r:dI k A):A.depth<recursionLimit:=by have:=r.dp;omega
theorem dI.units {k:Nat}{A:Around} (r:dI k A):A.units+64<cLine:=by have:=r.un;omega
theorem dI.kP {k:Nat} (r:dI k A):A.units<cLine:=by have:=r.un;omega

def xU:TA:=fun _ H Q=>Q [] H
def oT (ta:TE) (tr:TA):TA:=fun σ H Q=>ta σ H fun x H1=>tr σ H1 fun xs H2=>Q (x::xs) H2
section
variable {X:Cx}{e:Expr}{es:List Expr}{te:TE}{t:TA}{pos:Pos}
theorem aa:PA X [] xU:=fun _ _ _ _ H Q I h=>Calls.spliced_nil ⟨[],H,I,.nil,h⟩
theorem Gr (ha:PE X e te) (hr:PA X es t) (hs:starEach (e::es) X.env=(false,eval e X.env)::starEach es X.env:=by rfl):PA X (e::es) (oT te t):=by
 intro pos pins s σ H Q I h
 rw[hs]
 show wpAny _ _ (spliced ((false,eval e X.env)::backTo pos (starEach es X.env))) _ _ s
 refine mR (thn (ha pins s σ H _ I h) fun u s1 ⟨x,H1,I1,r1,q1⟩=>?_)
 exact thn (hr pos pins s1 σ H1 _ I1 q1) fun us s2 ⟨xs,H2,I2,r2,q2⟩=>⟨x::xs,H2,I2,.cons r1 r2,q2⟩

end

abbrev Sp:=List V->Hp->VK->XK->Prop
abbrev CXT:=List Env->Hp->Shared->XK->Value->Shared->Prop

structure rD (P:Program) (w:World) (K:PySem.W.Frag) (mg:Str->Option Value) (base:Heap) (A:Around) (outer:List Env) (s:Shared) (H:Hp):Prop where
 frames:A.frames=some outer
 mod:Mod K mg base
 bs:∀ b o,base.get? b=some o->s.heap.get? b=some o/\H b=none
 bsz:base.objs.size<=s.heap.objs.size
 mU:s.heap.FunFrames base outer
 frf:∀ b∈frs outer,H b=none
 hok:HOk P w H s.heap
 bare:AllBare s.gens
def CE (outer:List Env) (P:Program) (w:World) (H:Hp) (s:Shared) (Q:VK) (u:Value) (s':Shared):Prop :=
 ∃ v H',s'.os=s.os/\AllBare s'.gens/\Un (frs outer) [] H H' s.heap s'.heap/\HOk P w H' s'.heap/\RelV v u/\Q v H'
def CR (CX:CXT) (outer:List Env) (P:Program) (w:World) (H:Hp) (s:Shared) (Q:VK) (E:XK) (r:Result) (s':Shared):Prop :=
 match r with
 | .ok (.ret u)=>CE outer P w H s Q u s'
 | .ok _=>False
 | .error e=>CX outer H s E e s'
structure bI (P:Program) (w:World) (K:PySem.W.Frag) (mg:Str->Option Value) (base:Heap) (CX:CXT) (k:Nat) (f:Addr) (fd:FuncData) (ps:List Str) (sp:Sp):Prop where
 len:∀ vs H Q E,sp vs H Q E->vs.length=ps.length
 run:∀ (A:Around) (outer:List Env) (s:Shared) (H:Hp) (args:Args) (us:List Value) (vs:List V) (Q:VK) (E:XK),dI k A->rD P w K mg base A outer s H->BindsTo s fd args (ps.zip us)->Vals vs us->sp vs H Q E →
  codeAny (model P w) A (.call (.ref f) args) (CR CX outer P w H s Q E) s
theorem bI.mono {P:Program}{w:World}{K:PySem.W.Frag}{mg:Str->Option Value}{base:Heap}{CX:CXT}{j k:Nat}{f:Addr}{fd:FuncData}{ps:List Str}{sp:Sp} (F:bI P w K mg base CX j f fd ps sp) (h:j<=k) :
  bI P w K mg base CX k f fd ps sp:=⟨F.len,fun A outer s H args us vs Q E hr=>F.run A outer s H args us vs Q E (hr.mono h)⟩
theorem bI.imp {CX:CXT}{k:Nat}{f:Addr}{sp sp':Sp} (F:bI P w K mg base CX k f fd ps sp)
  (h:∀ vs H Q E,sp' vs H Q E->sp vs H Q E):bI P w K mg base CX k f fd ps sp' :=
 ⟨fun vs H Q E q=>F.len vs H Q E (h _ _ _ _ q),fun A outer s H args us vs Q E hr he hb hv hs=>F.run A outer s H args us vs Q E hr he hb hv (h _ _ _ _ hs)⟩

theorem rD.make {H:Hp} (e:rD P w K mg base A outer s H) (C:Addr) (us:List Value) (kw:List (Str×Value)) :
  rD P w K mg base (A.under (.builtin "type.__call__" ⟨.ref C::us,kw⟩)) outer s H:=⟨by first | exact e.frames | (simpa [Around.under,Code.envs,Code.isFrame,pushEnvs] using e.frames),e.mod,e.bs,e.bsz,e.mU,e.frf,e.hok,e.bare⟩
theorem rD.in1 {P:Program}{w:World}{K:PySem.W.Frag}{mg:Str->Option Value}{base:Heap}{A:Around}{outer:List Env}{s:Shared}{H:Hp} (e:rD P w K mg base A outer s H) :
  rD P w K mg base A.in1 outer s H:=⟨e.frames,e.mod,e.bs,e.bsz,e.mU,e.frf,e.hok,e.bare⟩

section
variable {X:Cx}{pins:List (Addr×Obj)}{σ:St}{H:Hp}{s s':Shared}
theorem Inv.JW (I:Inv X pins σ H s):rD X.prog X.w X.K X.mg X.base X.A X.stack s H :=
 ⟨I.ok.frames,I.ok.mod,I.bs,bJ I.ok.bsz I.sz,I.stack,I.oR,I.hok,I.bare⟩
theorem Inv.after {Q:VK} (I:Inv X pins σ H s) (h:CE X.stack X.prog X.w H s Q u s'):EP X pins σ Q u s':=by
 obtain⟨v,H',os,bare,un,hok,r,q⟩:=h
 obtain⟨hh,g,d,t,os'⟩:=s'
 obtain rfl:os'=s.os:=os
 exact⟨v,H',I.call (h':=hh) (g':=g) (d':=d) (t':=t) (ch:=[]) un hok bare (fun b z=>absurd z (by simp)),r,q⟩
end

def AM (sp:Sp) (dvs:List V) (E:St->XK) (t:TA):TE:=fun σ H Q=>t σ H fun vs H1=>sp (vs++dvs) H1 Q (E σ)
def Hy (C:Addr) (m:Str) (sp:Sp) (dvs:List V) (E:St->XK) (ta:TE) (t:TA):TE:=fun σ H Q=>ta σ H fun x H1=>∃ a dx fs,x=.ref a/\H1 a=some (.ins C dx fs)/\fs.lookup m=none ∧
 t σ H1 fun vs H2=>sp (x::(vs++dvs)) H2 Q (E σ)
def K0 (C:Addr) (sp:Sp) (dvs:List V) (E:St->XK) (t:TA):TE:=fun σ H Q=>t σ H fun vs H1=>∀ x dx,H1 x=none->H1 dx=none->dx≠x →
 sp (.ref x::(vs++dvs)) (upd (upd H1 dx (.own x)) x (.ins C dx [])) (fun v H2=>v=.non/\Q (.ref x) H2) (E σ)

def Binds (K:PySem.W.Frag) (fd:FuncData) (ps:List Str) (ds:List Value):Prop :=
 ∀ (s:Shared) (us:List Value),K.In s.heap->(us++ds).length=ps.length->BindsTo s fd ⟨us,[]⟩ (ps.zip (us++ds))
theorem Binds.all (h:∀ us:List Value,us.length=ps.length->bindArgs fd ⟨us,[]⟩=pure (ps.zip us)):Binds K fd ps []:=fun s us _ hl=>by
 rw[gW] at hl ⊢
 exact .of_eq (h us hl)

def Passes (CX:CXT) (X:Cx) (E:St->XK):Prop:=∀ (pins:List (Addr×Obj)) (σ:St) (H:Hp) (s:Shared) (e:Value) (s':Shared),Inv X pins σ H s->CX X.stack H s (E σ) e s'->X.xe e s'

section
variable {X:Cx}{CX:CXT}{k:Nat}{f C:Addr}{fd:FuncData}{ps:List Str}{sp:Sp}{dvs:List V}{ds:List Value}{E:St->XK}{x m:Str}{p pos apos:Pos}{e o:Expr}{es:List Expr}{ta:TE}{t:TA}

theorem zr {pins:List (Addr×Obj)}{σ:St}{H:Hp}{s:Shared}{Q:VK}{us:List Value}{vs:List V} (F:bI X.prog X.w X.K X.mg X.base CX k f fd ps sp) (hr:dI k X.A) (hb:Binds X.K fd ps ds) (hd:Vals dvs ds) (hx:Passes CX X E)
  (I:Inv X pins σ H s) (r:Vals vs us) (h:sp (vs++dvs) H Q (E σ)):wpAny (model X.prog X.w) X.A (call (.ref f) us) (EP X pins σ Q) X.xe s:=by
 have r2:Vals (vs++dvs) (us++ds):=r.append hd
 have hl:(us++ds).length=ps.length:=by rw[←r2.length];exact F.len _ _ _ _ h
 refine wpAny_call (codeAny_mono (F.run X.A X.stack s H ⟨us,[]⟩ (us++ds) (vs++dvs) Q (E σ) hr I.JW (hb s us I.kIn hl) r2 h) fun r s' hq=>?_)
 cases r with
 | error e=>exact hx pins σ H s e s' I hq
 | ok fl =>
  cases fl with
  | ret u=>exact I.after hq
  | next=>exact False.elim hq
  | brk=>exact False.elim hq
  | cont=>exact False.elim hq

theorem Gv (F:bI X.prog X.w X.K X.mg X.base CX k f fd ps sp) (hr:dI k X.A) (hg:Gl X x) (hm:X.mg x=some (.ref f)) (hk:PySem.W.keepIn X.K (.ref f)=true) (hb:Binds X.K fd ps ds) (hd:Vals dvs ds) (hx:Passes CX X E)
  (ha:PA X (e::es) t) (hdb:(x==("__debug__":Str))=false:=by decide) (he:starEach (e::es) X.env=(false,eval e X.env)::starEach es X.env:=by rfl) (hpl:(backTo pos (starEach es X.env)).any (·.1)=false:=by rfl) :
  PE X (.Call (.Name x p) (e::es) [] pos) (AM sp dvs E t):=by
 intro pins s σ H Q I h
 refine mC (kz I hg hm ?_ hdb)
 refine PySem.W.callWith_K (h₀:=X.base) I.ok.mod.kin hk (thn (ha pos pins s σ H _ I h) fun us s1 ⟨vs,H1,I1,r,q⟩=>⟨I1.kIn,?_⟩) he hpl
 exact zr F hr hb hd hx I1 r q
theorem A7 {pl:Sem Bool} (he:PE X o ta) (c:Cls X.K C) (hm:Meth X.K C m f) (F:bI X.prog X.w X.K X.mg X.base CX k f fd ps sp) (hr:dI k X.A) (hb:Binds X.K fd ps ds) (hd:Vals dvs ds) (hx:Passes CX X E) (ha:PA X (e::es) t)
  (hst:starEach (e::es) X.env=(false,eval e X.env)::starEach es X.env:=by rfl) (hpl:(backTo pos (starEach es X.env)).any (·.1)=false:=by rfl)
  (ht:eval (.Call (.Attribute o m apos) (e::es) [] pos) X.env=(do
   let ov ←eval o X.env
   standAt apos.atName
   let (f,first) ←holding [ov] (getMethod ov m pl)
   callWith pos f first (backTo pos (starEach (e::es) X.env)) (backToKw pos (keywordEach [] X.env))):=by rfl) :
  PE X (.Call (.Attribute o m apos) (e::es) [] pos) (Hy C m sp dvs E ta t):=by
 intro pins s σ H Q I h
 refine PySem.W.methodCall_KW (pl:=pl) (thn (he pins s σ H _ I h) fun u s1 ⟨x,H1,I1,rx,a,dx,fs,ex,ea,l,q⟩=>?_) ht
 subst ex
 obtain rfl:u=Value.ref a:=rx
 refine rW I1 ea c hm l ?_
 refine PySem.W.callWith_K (first:=[.ref a]) (h₀:=X.base) I.ok.mod.kin hm.kp (thn (ha pos pins s1 σ H1 _ I1 q) fun us s2 ⟨vs,H2,I2,r,q2⟩=>⟨I2.kIn,?_⟩) hst hpl
 exact zr (us:=.ref a::us) (vs:=.ref a::vs) F hr hb hd hx I2 (.cons rfl r) q2
theorem Er {pl:Sem Bool} (he:PE X o ta) (c:Cls X.K C) (hm:Meth X.K C m f) (F:bI X.prog X.w X.K X.mg X.base CX k f fd ps sp) (hr:dI k X.A) (hb:Binds X.K fd ps ds) (hd:Vals dvs ds) (hx:Passes CX X E)
  (ht:eval (.Call (.Attribute o m apos) [] [] pos) X.env=(do
   let ov ←eval o X.env
   standAt apos.atName
   let (f,first) ←holding [ov] (getMethod ov m pl)
   callWith pos f first (backTo pos (starEach [] X.env)) (backToKw pos (keywordEach [] X.env))):=by rfl) :
  PE X (.Call (.Attribute o m apos) [] [] pos) (Hy C m sp dvs E ta xU):=by
 intro pins s σ H Q I h
 refine PySem.W.methodCall_KW (pl:=pl) (thn (he pins s σ H _ I h) fun u s1 ⟨x,H1,I1,rx,a,dx,fs,ex,ea,l,q⟩=>?_) ht
 subst ex
 obtain rfl:u=Value.ref a:=rx
 refine rW I1 ea c hm l ?_
 exact PySem.W.callWith_K0 (first:=[.ref a]) I1.kIn hm.kp (zr (us:=[.ref a]) (vs:=[.ref a]) F hr hb hd hx I1 (.cons rfl .nil) q)

structure Mk (K:PySem.W.Frag) (C f:Addr):Prop where
 makes:PySem.W.makesIn K C=true
 init:PySem.W.findIn K (.ref C) "__init__"=some (some (.ref f))
 fn:PySem.W.isFn K (.ref f)=true
 kp:PySem.W.keepIn K (.ref C)=true

theorem EB {pins:List (Addr×Obj)}{σ:St}{H:Hp}{s:Shared}{Q:VK}{us:List Value}{vs:List V} (M:Mk X.K C f) (F:bI X.prog X.w X.K X.mg X.base CX k f fd ps sp) (hr:dI (k+1) X.A) (hb:Binds X.K fd ps ds) (hd:Vals dvs ds)
  (hx:Passes CX X E) (I:Inv X pins σ H s) (r:Vals vs us)
  (h:∀ x dx,H x=none->H dx=none->dx≠x->sp (.ref x::(vs++dvs)) (upd (upd H dx (.own x)) x (.ins C dx [])) (fun v H2=>v=.non/\Q (.ref x) H2) (E σ)) :
  wpAny (model X.prog X.w) X.A (call (.ref C) us) (EP X pins σ Q) X.xe s:=by
 have hq:=h (s.heap.objs.size+1) s.heap.objs.size (I.hok.fresh (Nat.le_succ _)) (I.hok.fresh (aA _)) (bE (gZ _))
 have I2:=Inv.made (C:=C) I
 have r2:Vals (V.ref (s.heap.objs.size+1)::(vs++dvs)) (Value.ref (s.heap.objs.size+1)::(us++ds)):=.cons rfl (r.append hd)
 have hl:(Value.ref (s.heap.objs.size+1)::us++ds).length=ps.length:=by
  have e:=r2.length
  rw[F.len _ _ _ _ hq] at e
  exact e.symm
 refine wpAny_call (DS (f:=f) I.kIn M.makes M.init (eK.mp M.fn) (codeAny_mono (F.run _ X.stack _ _ ⟨Value.ref (s.heap.objs.size+1)::us,[]⟩ (Value.ref (s.heap.objs.size+1)::(us++ds)) _ _ (E σ) (hr.make C us [])
  (I2.JW.make C us []) (hb _ (Value.ref (s.heap.objs.size+1)::us) I2.kIn hl) r2 hq) fun r s' hq'=>?_))
 cases r with
 | error e=>exact hx pins σ _ _ e s' I2 hq'
 | ok fl =>
  cases fl with
  | ret u =>
   obtain⟨v,H',I3,rv,ev,q3⟩:=I2.after hq'
   subst ev
   exact⟨rv,⟨V.ref (s.heap.objs.size+1),H',I3,rfl,q3⟩⟩
  | next=>exact False.elim hq'
  | brk=>exact False.elim hq'
  | cont=>exact False.elim hq'
theorem Gy (M:Mk X.K C f) (F:bI X.prog X.w X.K X.mg X.base CX k f fd ps sp) (hr:dI (k+1) X.A) (hg:Gl X x) (hm:X.mg x=some (.ref C)) (hb:Binds X.K fd ps ds) (hd:Vals dvs ds) (hx:Passes CX X E)
  (ha:PA X (e::es) t) (hdb:(x==("__debug__":Str))=false:=by decide) (he:starEach (e::es) X.env=(false,eval e X.env)::starEach es X.env:=by rfl) (hpl:(backTo pos (starEach es X.env)).any (·.1)=false:=by rfl) :
  PE X (.Call (.Name x p) (e::es) [] pos) (K0 C sp dvs E t):=by
 intro pins s σ H Q I h
 refine mC (kz I hg hm ?_ hdb)
 refine PySem.W.callWith_K (h₀:=X.base) I.ok.mod.kin M.kp (thn (ha pos pins s σ H _ I h) fun us s1 ⟨vs,H1,I1,r,q⟩=>⟨I1.kIn,?_⟩) he hpl
 exact EB M F hr hb hd hx I1 r q
end

section
variable {X:Cx}{CX:CXT}{k:Nat}{f C:Addr}{fd:FuncData}{ps ks:List Str}{sp:Sp}{E:St->XK}{x m:Str}{p pos apos kpos:Pos}{e o:Expr}{es:List Expr}{kws:List Keyword}{te ta:TE}{t tk:TA}{nm:Option Str}
variable {g:List Value->List Value->List Value}{gV:List V->List V->List V}
end

structure aL (N P:List Str) (sc:Scope):Prop where
 kind:sc.kind=.function
 co:sc.isCoroutine=false
 gen:sc.isGenerator=false
 nd:N.Nodup
 pre:N.take P.length=P
 par:∀ x∈P,sc.names.lookup x=some .local∨sc.names.lookup x=some .cell
 nofree:∀ y∈sc.names,y.2≠.free

theorem uh {kindOf:Str->Option NameKind}{x:Str}:∀ {binds:List (Str×Value)}{m:Str->Option Value},(∀ v,(x,v)∉binds)->bindL kindOf binds m x=m x
 | [],_,_=>rfl
 | (n,v)::r,m,h=>by
  unfold bindL
  rw[uh fun w hw=>h w (bb _ hw)]
  split
  ·have:x≠n:=by rintro rfl;exact h v aR
   simp [this]
  ·rfl
theorem uf {kindOf:Str->Option NameKind}{x:Str}:∀ {binds:List (Str×Value)}{m:Str->Option Value},(∀ v,(x,v)∉binds)->bindC kindOf binds m x=m x
 | [],_,_=>rfl
 | (n,v)::r,m,h=>by
  unfold bindC
  rw[uf fun w hw=>h w (bb _ hw)]
  split
  ·rfl
  ·have:x≠n:=by rintro rfl;exact h v aR
   simp [this]
theorem ug {kindOf:Str->Option NameKind}{x:Str}{v:Value}:∀ {P:List Str}{vs:List Value}{i:Nat}{m:Str->Option Value},P.Nodup->P[i]?=some x->vs[i]?=some v->kindOf x=some .local →
  bindL kindOf (P.zip vs) m x=some v
 | [],_,_,_,_,h,_,_=>by simp at h
 | _::_,[],_,_,_,_,h,_=>by simp at h
 | p::P,w::vs,0,m,nd,h1,h2,hk=>by
  simp at h1 h2;subst h1;subst h2
  show bindL kindOf ((p,w)::P.zip vs) m p=_
  unfold bindL
  rw[uh fun v hv=>(gu.mp nd).1 (my hv).1,ao hk]
  simp
 | p::P,w::vs,i+1,m,nd,h1,h2,hk=>by
  show bindL kindOf ((p,w)::P.zip vs) m x=_
  unfold bindL
  exact ug (i:=i) (gu.mp nd).2 (by simpa using h1) (by simpa using h2) hk
theorem ue {kindOf:Str->Option NameKind}{x:Str}{v:Value}:∀ {P:List Str}{vs:List Value}{i:Nat}{m:Str->Option Value},P.Nodup->P[i]?=some x->vs[i]?=some v->kindOf x≠some .local →
  bindC kindOf (P.zip vs) m x=some v
 | [],_,_,_,_,h,_,_=>by simp at h
 | _::_,[],_,_,_,_,h,_=>by simp at h
 | p::P,w::vs,0,m,nd,h1,h2,hk=>by
  simp at h1 h2;subst h1;subst h2
  show bindC kindOf ((p,w)::P.zip vs) m p=_
  unfold bindC
  rw[uf fun v hv=>(gu.mp nd).1 (my hv).1,ai hk]
  simp
 | p::P,w::vs,i+1,m,nd,h1,h2,hk=>by
  show bindC kindOf ((p,w)::P.zip vs) m x=_
  unfold bindC
  exact ue (i:=i) (gu.mp nd).2 (by simpa using h1) (by simpa using h2) hk

def start (N:List Str) (vs:List V):St:=vs.map some++List.replicate (N.length-vs.length) none

def nR (CX:CXT) (P:Program) (w:World) (K:PySem.W.Frag) (mg:Str->Option Value) (base:Heap) (N:List Str) (qual:Str) (scope:Scope) (f:Addr) (cd:Value) (A:Around) (outer:List Env) (s:Shared) (H:Hp) (E:XK):Cx where
 prog:=P
 w:=w
 K:=K
 mg:=mg
 base:=base
 A:=A.deeper (envOfC qual scope s.heap.objs.size f cd)
 N:=N
 s₀:=s
 H₀:=H
 env:=envOfC qual scope s.heap.objs.size f cd
 outer:=outer
 stack:=envOfC qual scope s.heap.objs.size f cd::outer
 ex:=[]
 calm:=true
 fn:=fun _=>true
 pn:=[]
 xe:=fun e s'=>wpAny (model P w) (A.deeper (envOfC qual scope s.heap.objs.size f cd)) (leaving (envOfC qual scope s.heap.objs.size f cd) e) (fun _ s''=>CX outer H s E e s'') (fun e' s''=>CX outer H s E e' s'') s'

theorem wy {sc:Scope}{n:Nat} (h:sc.names.lookup x=some .cell):∃ c,(cellsFrom n sc.names []).lookup x=some c:=by
 have q:=PySem.W.cellsFrom_some sc.names n [] (.inl h)
 exact pw.mp q

theorem BK {CX:CXT}{P:Program}{w:World}{K:PySem.W.Frag}{mg:Str->Option Value}{base:Heap}{N ps:List Str}{qual:Str}{scope:Scope}{f:Addr}{cd:Value}{A:Around}{outer:List Env}{s s1:Shared}{H:Hp}{E:XK}{us:List Value}{vs:List V}
  (S:aL N ps scope) (hd:A.handled=none) (e0:rD P w K mg base A outer s H) (hl:vs.length=ps.length) (r:Vals vs us)
  (x:InCallC s s.heap.objs.size (bindL (envOfC qual scope s.heap.objs.size f cd).kindOf (ps.zip us) fun _=>none) (cellsFrom (s.heap.objs.size+1) scope.names []) (bindC (envOfC qual scope s.heap.objs.size f cd).kindOf (ps.zip us) fun _=>none) s1) :
  Inv (nR CX P w K mg base N qual scope f cd A outer s H E) [] (start N vs) H s1:=by
 have hpl:ps.length<=N.length:=by have:=aG List.length S.pre;rw[bR] at this;omega
 obtain⟨h1,tk,rfl,hk⟩:=x.done
 have noA:∀ b:Addr,b∉(nR CX P w K mg base N qual scope f cd A outer s H E).ex:=fun b z=>absurd (show b∈([]:List Addr) from z) (by simp)
 refine⟨⟨e0.mod,S.kind,rfl,rfl,aA _,fun y z c h1 h2=>?_,fun y hy=>?_,fun y c _ h=>?_,fun _=>hd,Around.frames_deeper e0.frames,.inr ⟨rfl,rfl⟩,fun b z=>absurd z (noA b),e0.bs,e0.bsz,fun b _ _=>noA b,fun b z=>absurd z (noA b),e0.mU,e0.frf⟩,
  rfl,e0.bare,Un.kept hk,⟨_,x.toInCall.ns,fun i y v h1 h2 h3=>?_⟩,fun y c h=>⟨_,x.cell y c h⟩,e0.hok.fresh (aA _),fun y c h=>?_,fun p hp=>absurd (show p∈([]:List (Addr×Obj)) from hp) (by simp),e0.hok.kept hk,?_⟩
 ·exact name_of_addr x.apart (mB h1) (mB h2)
 ·have hy:scope.names.lookup y=some .cell∨scope.names.lookup y=some .free:=hy
  rcases hy with hy | hy
  ·exact wy hy
  ·exact absurd rfl (S.nofree _ (mB hy))
 ·exact aN (x.above y c (mB h))
 ·have hi:i<vs.length:=by
   unfold start at h2
   by_cases hi:i<vs.length
   ·exact hi
   ·rw[gj (by simpa using hi)] at h2
    rw[List.getElem?_replicate] at h2
    split at h2<;>cases h2
  have ha:vs[i]?=some v:=by
   unfold start at h2
   rw[gi (by simpa using hi),bY] at h2
   cases e:vs[i]? with
   | none=>rw[e] at h2;cases h2
   | some a=>rw[e] at h2;cases h2;rfl
  obtain⟨u,hu,rv⟩:=r.get ha
  have hp:ps[i]?=some y:=by
   rw[←S.pre,List.getElem?_take_of_lt (by omega)];exact h1
  have ndP:ps.Nodup:=by rw[←S.pre];exact S.nd.sublist (List.take_sublist _ _)
  refine⟨u,rv,?_⟩
  rcases S.par y (br hp) with k | k
  ·exact .inl ⟨k,ug ndP hp hu k⟩
  ·obtain⟨c,e⟩:=wy (n:=s.heap.objs.size+1) k
   refine .inr ⟨.inl k,c,e,?_⟩
   have q:=x.cell y c e
   rw[ue ndP hp hu (by show scope.names.lookup y≠_;rw[k];decide)] at q
   exact q
 ·exact e0.hok.fresh (aN (x.above y c (mB h)))
 ·unfold start
  show _=N.length
  rw[ah,aj,List.length_replicate]
  omega

theorem uw {CX:CXT}{P:Program}{w:World}{K:PySem.W.Frag}{mg:Str->Option Value}{base:Heap}{k:Nat}{f:Addr}{name qual:Str}{params:Arguments}{body:List Stmt}{scope:Scope}{dV kV doc pm cdv ct oc:Value}{an od:Option Addr}
  {osl:Array (Option Value)}{N ps:List Str}{sp:Sp} (lk:K.lookup f=some ⟨oc,od,.func (PySem.W.fnOf name qual params body scope dV kV doc pm an cdv ct),osl⟩) (hcd:PySem.W.codeIn K cdv qual=true) (S:aL N ps scope)
  (len:∀ vs H Q E,sp vs H Q E->vs.length=ps.length)
  (hbody:∀ (A:Around) (outer:List Env) (s:Shared) (H:Hp) (vs:List V) (Q:VK) (E:XK),dI k (A.deeper (envOfC qual scope s.heap.objs.size f cdv))->sp vs H Q E →
   ∃ t,PSs (nR CX P w K mg base N qual scope f cdv A outer s H E) body t/\t { nx:=fun _ H'=>Q .non H',rt:=Q } (start N vs) H) :
  bI P w K mg base CX (k+1) f (PySem.W.fnOf name qual params body scope dV kV doc pm an cdv ct) ps sp:=by
 refine⟨len,fun A outer s H args us vs Q E hr e0 hb r hsp=>?_⟩
 have hl:=len _ _ _ _ hsp
 have KX:K.In s.heap:=e0.mod.kin.keeps fun b o e=>(e0.bs b o e).1
 have lim:s.heap.NoLimit:=e0.mod.nolimit.keeps fun b o e=>(e0.bs b o e).1
 have hkind:∀ y∈ps.zip us,scope.names.lookup y.1=some .local∨(scope.names.lookup y.1=some .cell/\((cellsFrom (s.heap.objs.size+1) scope.names []).lookup y.1).isSome=true):=fun ⟨n,v⟩ hy=>by
  rcases S.par n (my hy).1 with q | q
  ·exact .inl q
  ·exact .inr ⟨q,PySem.W.cellsFrom_some _ _ _ (.inl q)⟩
 refine codeAny_call_function hr.depth (KX _ _ lk) rfl S.co S.gen rfl (PySem.W.codeRec_of KX hcd) (hb _ _ _ _ ?_)
 refine wpAny_newFunctionEnv_cells S.kind hkind fun env he s1 x=>?_
 subst he
 refine⟨lim.keeps x.toInCall.keep,codeAny_func ?_⟩
 obtain⟨t,ht,hq⟩:=hbody A outer s H vs Q E (hr.deeper _) hsp
 have I:Inv (nR CX P w K mg base N qual scope f cdv A outer s H E) [] (start N vs) H s1:=BK S hr.hd e0 hl r x
 refine bq (ht [] s1 (start N vs) H _ I hq) (fun fl s' hs=>?_) fun e s' hs=>hs
 have fin:∀ {σ':St}{H':Hp}{v:V}{u:Value},Inv (nR CX P w K mg base N qual scope f cdv A outer s H E) [] σ' H' s'->RelV v u->Q v H'->CE outer P w H s Q u s' :=
  fun {σ' H' v u} J rv q=>⟨v,H',J.os,J.bare,J.base,J.hok,rv,q⟩
 cases fl with
 | ret u =>
  obtain⟨v,σ',H',J,rv,q⟩:=hs
  exact fin J rv q
 | next =>
  obtain⟨σ',H',J,q⟩:=hs
  exact fin (v:=V.non) (u:=Value.none) J rfl q
 | brk =>
  obtain⟨_,_,_,q⟩:=hs
  exact False.elim q
 | cont =>
  obtain⟨_,_,_,q⟩:=hs
  exact False.elim q
end
section
section
variable {X:Cx}{x:Str}{p pos:Pos}{e:Expr}{es:List Expr}{t:TA}{id T:String}{r:List V->Hp->VK->Prop}

def tCB (r:List V->Hp->VK->Prop) (t:TA):TE:=fun σ H Q=>t σ H fun vs H1=>r vs H1 Q
theorem Ei (hc:cW X (.builtin id) r) (hg:Gl X x) (hm:X.mg x=none) (hv:bootBuiltins x=some (.builtin id)) (ha:PA X (e::es) t) (hn:x≠"__name__":=by decide) (hdb:(x==("__debug__":Str))=false:=by decide)
  (he:starEach (e::es) X.env=(false,eval e X.env)::starEach es X.env:=by rfl) (hpl:(backTo pos (starEach es X.env)).any (·.1)=false:=by rfl):PE X (.Call (.Name x p) (e::es) [] pos) (tCB r t):=by
 intro pins s σ H Q I h
 refine mC (nj I hg hm hv ?_ hn hdb)
 exact PyProof.Rows.callWith_builtin1 (thn (ha pos pins s σ H _ I h) fun us s1 ⟨vs,H1,I1,r1,q1⟩=>hc pins s1 σ H1 vs us Q I1 r1 q1) he hpl
theorem Cc (hc:cW X (.type T) r) (hg:Gl X x) (hm:X.mg x=none) (hv:bootBuiltins x=some (.type T)) (ha:PA X (e::es) t) (hn:x≠"__name__":=by decide) (hdb:(x==("__debug__":Str))=false:=by decide)
  (he:starEach (e::es) X.env=(false,eval e X.env)::starEach es X.env:=by rfl) (hpl:(backTo pos (starEach es X.env)).any (·.1)=false:=by rfl):PE X (.Call (.Name x p) (e::es) [] pos) (tCB r t):=by
 intro pins s σ H Q I h
 refine mC (nj I hg hm hv ?_ hn hdb)
 exact m6 (thn (ha pos pins s σ H _ I h) fun us s1 ⟨vs,H1,I1,r1,q1⟩=>hc pins s1 σ H1 vs us Q I1 r1 q1) he hpl
end
end
end L2

namespace HT
open PySem PyProof.Rows

theorem Dm (A:Around) (s:Shared) (a:Int) (t:Tok) (c:Int) (u:Tok):∃ e,SeqAt.EqAt A s (.int a t) (.int c u) e/\(e=true↔a=c) :=
 ⟨(a==c),SeqAt.EqAt.int_int a t c u,by simp⟩
section
open PySem.SeqAt
open PySem.AutoSeq1 (wpAny_loadPart')
open PySem.MeetsSeq PySem.MeetsSeq2 PySem.MeetsSeq3

end

section
variable {prog:Program}{w:World}{A:Around}{E:Value->Shared->Prop}{s:Shared}

def sIx (n d:Nat):Option Int->Nat
 | none=>d
 | some v=>if v<0 then (v+(n:Int)).toNat else min v.toNat n
theorem oG (n d:Nat):sIx n d none=d:=rfl
theorem mO (n d k:Nat):sIx n d (some (k:Int))=min k n:=by
 show (if (k:Int)<0 then ((k:Int)+(n:Int)).toNat else min (k:Int).toNat n)=min k n
 rw[ai (by omega),Int.toNat_natCast]
theorem EE (n d:Nat) (hd:d<=n) (o:Option Int):sIx n d o<=n:=by
 cases o with
 | none=>exact hd
 | some v =>
  show (if v<0 then (v+(n:Int)).toNat else min v.toNat n)<=n
  by_cases hv:v<0
  ·rw[ao hv];omega
  ·rw[ai hv];exact Nat.min_le_right _ _
end
end HT

namespace L2
open PySem PySem.Spec PyProof.Rows
variable {A:Around}{H:Hp}{H':Hp}{P:Program}{Q:Value->Shared->Prop}{X:Cx}{a:Addr}{h':Heap}{i:Int}{j:Nat}{kvs:List (List Key×V)}{pins:List (Addr×Obj)}{s:Shared}{t':Nat}{u:Value}{w:World}{xs:List (List Key×Addr×Value)}{y:V}{α:Type}{σ:St}
section

abbrev TO:=St->Hp->(Option Int->Hp->Prop)->Prop
def PO (X:Cx) (e:Option Expr) (t:TO):Prop :=
 ∀ (pins:List (Addr×Obj)) (s:Shared) (σ:St) (H:Hp) (Q:Option Int->Hp->Prop),Inv X pins σ H s->t σ H Q →
  wpAny (model X.prog X.w) X.A (evalPart e X.env) (fun u s'=>∃ o H',Inv X pins σ H' s'/\IsPart u o/\Q o H') X.xe s
def AO:TO:=fun _ H Q=>Q none H
def H0 (t:TE):TO:=fun σ H Q=>t σ H fun x H1=>∃ i,x=.int i/\Q (some i) H1

theorem intsAre_of {ns:List Int}:∀ {us:List Value},Vals (ns.map V.int) us->IntsAre us ns:=by
 induction ns with
 | nil=>intro us r;rw[List.map_nil] at r;cases r;exact .nil
 | cons n ns ih =>
  intro us r
  rw[aQ] at r
  cases r with
  | cons r1 r2 =>
   obtain⟨t,e⟩:=r1
   subst e
   exact .cons n t (ih r2)

section
variable {X:Cx}{e:Expr}{te:TE}{lo hi:Option Expr}{tl th:TO}{pos p2:Pos}

theorem cH:PO X none AO:=by
 intro pins s σ H Q I h
 rw[evalPart_none]
 exact aO ⟨none,H,I,.none,h⟩
theorem cB (h:PE X e te):PO X (some e) (H0 te):=by
 intro pins s σ H Q I hw
 rw[evalPart_some]
 refine thn (h pins s σ H _ I hw) fun u s1 ⟨x,H1,I1,r1,q1⟩=>?_
 obtain⟨i,rfl,q⟩:=q1
 obtain⟨t,rfl⟩:=r1
 exact⟨some i,H1,I1,.int i t,q⟩

def SlR (X:Cx) (r:V->Option Int->Option Int->Hp->VK->Prop):Prop :=
 ∀ (pins:List (Addr×Obj)) (s:Shared) (σ:St) (H:Hp) (x:V) (v vl vu:Value) (lo hi:Option Int) (sl:Addr) (Q:VK),Inv X pins σ H s->RelV x v->s.heap.IsSliceOf sl vl vu .none->IsPart vl lo->IsPart vu hi->r x lo hi H Q →
  ∃ T id,typeLookup (.type T) "__getitem__"=pure (some (.builtin id))/\s.TypeIs v T/\wpAny (model X.prog X.w) X.A (getItem v (.ref sl)) (EP X pins σ Q) X.xe s
theorem SlR.or {r r':V->Option Int->Option Int->Hp->VK->Prop} (h:SlR X r) (h':SlR X r'):SlR X (fun x lo hi H Q=>r x lo hi H Q∨r' x lo hi H Q):=by
 intro pins s σ H x v vl vu lo hi sl Q I rx hs pl pu q
 rcases q with q | q
 ·exact h pins s σ H x v vl vu lo hi sl Q I rx hs pl pu q
 ·exact h' pins s σ H x v vl vu lo hi sl Q I rx hs pl pu q
def tSl (r:V->Option Int->Option Int->Hp->VK->Prop) (te:TE) (tl th:TO):TE:=fun σ H Q=>te σ H fun x H1=>tl σ H1 fun l H2=>th σ H2 fun u H3=>r x l u H3 Q
theorem bX {r:V->Option Int->Option Int->Hp->VK->Prop} (hr:SlR X r) (he:PE X e te) (hl:PO X lo tl) (hu:PO X hi th):PE X (.Subscript e (.Slice lo hi none p2) pos) (tSl r te tl th):=by
 intro pins s σ H Q I h
 refine Subscript_ (thn (he pins s σ H _ I h) fun v s1 ⟨x,H1,I1,r1,q1⟩=>?_)
 refine wpAny_Slice (thn (hl pins s1 σ H1 _ I1 q1) fun vl s2 ⟨l,H2,I2,pl,q2⟩=>thn (hu pins s2 σ H2 _ I2 q2) fun vu s3 ⟨u,H3,I3,pu,q3⟩=>?_)
 rw[evalPart_none]
 refine aO ?_
 have I4:Inv X pins σ H3 { s3 with heap:=s3.heap.push { cls:=.type "slice",data:=.fields #[vl,vu,.none] } }:=I3.kept (t':=s3.toks) fun b ob q=>aW _ q
 obtain⟨T,id,hT,ht,hg⟩:=hr pins { s3 with heap:=s3.heap.push { cls:=.type "slice",data:=.fields #[vl,vu,.none] } } σ H3 x v vl vu l u s3.heap.objs.size Q I4 r1 (Heap.IsSliceOf.new ..) pl pu q3
 show wpAny (model X.prog X.w) X.A (subscriptTail e (.Slice lo hi none p2) v (.ref s3.heap.objs.size)) (EP X pins σ Q) X.xe { s3 with heap:=s3.heap.push { cls:=.type "slice",data:=.fields #[vl,vu,.none] } }
 exact tail_any (ops:=[.ref s3.heap.objs.size,v]) ht hT hg (by with_unfolding_all rfl)

def kZ (xs:List V) (lo hi:Option Int):List V:=(xs.drop (HT.sIx xs.length 0 lo)).take (HT.sIx xs.length xs.length hi-HT.sIx xs.length 0 lo)
theorem wA (xs:List V) (lo hi:Option Int):(kZ xs lo hi).length<=xs.length:=by
 unfold kZ
 rw[bR,bA]
 omega
end
end
section

def ixN (n:Nat) (i:Int):Option Nat:=if 0<=i then (if i<n then some i.toNat else none) else if -(n:Int)<=i then some (i+n).toNat else none
def atI {α:Type} (xs:List α) (i:Int):Option α:=(ixN xs.length i).bind fun j=>xs[j]?
theorem Al {n:Nat} (h:ixN n i=some j):seqIndex? i n=some j/\j<n/\-(n:Int)<=i/\i<n:=by
 unfold ixN at h
 by_cases h0:0<=i
 ·rw[ao h0] at h
  by_cases h1:i<n
  ·rw[ao h1] at h
   have e:i.toNat=j:=Option.some.inj h
   exact⟨by rw[seqIndex_of h0 h1,e],by omega,by omega,h1⟩
  ·rw[ai h1] at h;cases h
 ·rw[ai h0] at h
  by_cases h1:-(n:Int)<=i
  ·rw[ao h1] at h
   have e:(i+n).toNat=j:=Option.some.inj h
   exact⟨by rw[seqIndex_neg (by omega) h1,e],by omega,h1,by omega⟩
  ·rw[ai h1] at h;cases h
theorem uQ {xs:List α}{v:α} (h:atI xs i=some v):∃ j,seqIndex? i xs.length=some j/\xs[j]?=some v/\j<xs.length/\-(xs.length:Int)<=i/\i<xs.length:=by
 unfold atI at h
 cases e:ixN xs.length i with
 | none=>rw[e] at h;cases h
 | some j =>
  rw[e] at h
  obtain⟨h1,h2,h3,h4⟩:=Al e
  exact⟨j,h1,h,h2,h3,h4⟩
theorem bB {xs:List α}{v:α} (h:xs[j]?=some v):atI xs (j:Int)=some v:=by
 have hj:j<xs.length:=(b9.mp h).1
 have e:ixN xs.length (j:Int)=some j:=by
  unfold ixN
  rw[ao (by omega),ao (by omega)];simp
 unfold atI;rw[e];exact h
def EY (b:Expr):Prop:=∀ o i,subscripted b false o i=operate [o,i] (getItem o i)
def IxR (X:Cx) (r:R2):Prop :=
 ∀ (value slice:Expr) (pins:List (Addr×Obj)) (s:Shared) (σ:St) (H:Hp) (x y:V) (v u:Value) (Q:VK),Inv X pins σ H s->RelV x v->RelV y u->r x y H Q →
  subscripted slice false v u=operate [v,u] (getItem v u)->wpAny (model X.prog X.w) X.A (subscriptTail value slice v u) (EP X pins σ Q) X.xe s
def MtR (X:Cx) (id:String) (r:V->List V->Hp->VK->Prop):Prop :=
 ∀ (pins:List (Addr×Obj)) (s:Shared) (σ:St) (H:Hp) (x:V) (xs:List V) (v:Value) (us:List Value) (Q:VK),Inv X pins σ H s->RelV x v->Vals xs us->r x xs H Q →
  wpAny (model X.prog X.w) X.A (call (.builtin id) (v::us)) (EP X pins σ Q) X.xe s
section
variable {X:Cx}{a b:Expr}{ta tb:TE}{pos:Pos}
theorem IxR.or {r r':R2} (h:IxR X r) (h':IxR X r'):IxR X (fun x y H Q=>r x y H Q∨r' x y H Q):=by
 intro value slice pins s σ H x y v u Q I rx ry q hs
 rcases q with q | q
 ·exact h value slice pins s σ H x y v u Q I rx ry q hs
 ·exact h' value slice pins s σ H x y v u Q I rx ry q hs
theorem MtR.or {id:String}{r r':V->List V->Hp->VK->Prop} (h:MtR X id r) (h':MtR X id r'):MtR X id (fun x xs H Q=>r x xs H Q∨r' x xs H Q):=by
 intro pins s σ H x xs v us Q I rx rs q
 rcases q with q | q
 ·exact h pins s σ H x xs v us Q I rx rs q
 ·exact h' pins s σ H x xs v us Q I rx rs q
theorem cw {r:R2} (hr:IxR X r) (ha:PE X a ta) (hb:PE X b tb) (hs:EY b):PE X (.Subscript a b pos) (tOp r ta tb):=by
 intro pins s σ H Q I h
 exact Subscript_ (Ic ha hb I h fun v u s2 x y H2 I2 rx ry q=>hr a b pins s2 σ H2 x y v u Q I2 rx ry q (hs _ _))

def Ll (K:PySem.W.Frag):R2:=fun x y H Q=>∃ p xs i v,x=.ref p/\y=.int i/\SqL K H p xs/\atI xs i=some v/\Q v H
def Lo (K:PySem.W.Frag):R2:=fun x y H Q=>∃ p xs i v,x=.ref p/\y=.int i/\SqT K H p xs/\atI xs i=some v/\Q v H
def Lm:R2:=fun x y H Q=>∃ z i c,x=.str z/\y=.int i/\z.length<=sizeLine/\atI z.cps.toList i=some c/\Q (.str ⟨#[c]⟩) H
theorem FZ:IxR X (Ll X.K):=by
 intro value slice pins s σ H x y v u Q I rx ry h hs
 obtain⟨p,xs,i,z,rfl,rfl,hq,he,q⟩:=h
 cases rx
 obtain⟨t,rfl⟩:=ry
 obtain⟨its,r,pl,hz⟩:=I.list hq
 obtain⟨j,h1,h2,h3,h4,h5⟩:=uQ he
 obtain⟨w,ew,rw'⟩:=r.get h2
 have hl:=r.length
 have hn:=pQ
 have fin:EP X pins σ Q w s:=⟨z,H,I,rw',q⟩
 by_cases h0:0<=i
 ·have hj:i.toNat=j:=by
   rw[seqIndex_of h0 h5] at h1
   exact Option.some.inj h1
  exact item_listR pl.isList h0 (by omega) (by rw[hj];simpa using ew) fin hs
 ·have hj:(i+(its.toArray.size:Int)).toNat=j:=by
   rw[seqIndex_neg (by omega) h4] at h1
   rw[bz,←hl]
   exact Option.some.inj h1
  exact subscriptTail_builtinR (x:=w) pl.isList.typeIs slot_list_getitem.lookup
   (wpAny_getItem_list_neg (Q:=fun r s'=>r=w/\EP X pins σ Q r s') pl.isList (by omega) (by rw[bz]<;>omega) (by omega) (by rw[hj];simpa using ew) ⟨rfl,fin⟩) hs
theorem Iw:IxR X (Lo X.K):=by
 intro value slice pins s σ H x y v u Q I rx ry h hs
 obtain⟨p,xs,i,z,rfl,rfl,hq,he,q⟩:=h
 cases rx
 obtain⟨t,rfl⟩:=ry
 obtain⟨its,r,pl,hz⟩:=I.tuple hq
 obtain⟨j,h1,h2,h3,h4,h5⟩:=uQ he
 obtain⟨w,ew,rw'⟩:=r.get h2
 have hl:=r.length
 have hn:=pQ
 have fin:EP X pins σ Q w s:=⟨z,H,I,rw',q⟩
 exact subscriptTail_builtinR (x:=w) pl.typeIs slot_tuple_getitem.lookup
  (getItem_tuple (j:=j) (Q:=fun r s'=>r=w/\EP X pins σ Q r s') pl (by omega) (by omega) (by rw[bz,←hl];exact h1) (by simpa using ew) ⟨rfl,fin⟩) hs
theorem Iv:IxR X Lm:=by
 intro value slice pins s σ H x y v u Q I rx ry h hs
 obtain⟨z,i,c,rfl,rfl,hz,he,q⟩:=h
 obtain⟨t,rfl⟩:=rx
 obtain⟨t',rfl⟩:=ry
 obtain⟨j,h1,h2,h3,h4,h5⟩:=uQ he
 have hl:z.cps.toList.length=z.length:=by simp [Str.length]
 rw[hl] at h1 h4 h5
 have hn:=pQ
 exact tail_any (fc s z t) slot_str_getitem.lookup (getItem_str (c:=c) (by
  have e1:decide (i < -(2^63:Int))=false:=aE (by omega)
  have e2:decide (i≥2^63)=false:=aE (by omega)
  rw[e1,e2,Bool.or_false]) (by rw[h1];simpa using h2) ⟨.str ⟨#[c]⟩,H,I.tok _,⟨_,rfl⟩,q⟩) hs
theorem yV (its:List Value) (n j:Nat) (u:Value):Obj.mapSeq (·.setIfInBounds j u) { cls:=.type "list",data:=.seq its.toArray n }={ cls:=.type "list",data:=.seq (its.set j u).toArray n }:=by
 simp [Obj.mapSeq]
theorem Inv.lst {pins:List (Addr×Obj)}{σ:St}{H:Hp}{s:Shared}{p:Addr}{xs:List V} (I:Inv X pins σ H s) (h:H p=some (.lst xs)) :
  ∃ (its:List Value) (n:Nat),Vals xs its/\s.heap.get? p=some { cls:=.type "list",data:=.seq its.toArray n }/\xs.length<=sizeLine:=by
 obtain⟨z,its,n,r,e⟩:=I.hok p _ h
 exact⟨its,n,r,e,z⟩
theorem Inv.IH {p:Addr}{xs ys:List V}{its its':List Value}{n n':Nat}{f:Obj->Obj} (I:Inv X pins σ H s) (h:H p=some (.lst xs))
  (ho:s.heap.get? p=some { cls:=.type "list",data:=.seq its.toArray n }) (hf:f { cls:=.type "list",data:=.seq its.toArray n }={ cls:=.type "list",data:=.seq its'.toArray n' }) (r:Vals ys its') (hz:ys.length<=sizeLine) (t:Nat) :
  Inv X pins σ (upd H p (.lst ys)) { s with heap:=s.heap.update p f,toks:=t }:=by
 have e:(s.heap.update p f).get? p=some { cls:=.type "list",data:=.seq its'.toArray n' }:=by
  rw[kb f ho (by rw[hf]<;>rfl),hf]
 refine I.write (x:=p) (e:=p) (by rw[h];trivial) (.inl rfl) (fun b u hb q=>(eU _ _ (Ne.symm hb)).trans q) ⟨_,e⟩ ?_
 exact⟨hz,its',n',r,e⟩
def Ku:V->V->V->Hp->(Hp->Prop)->Prop:=fun o i v H Q=>∃ p xs k j,o=.ref p/\i=.int k/\H p=some (.lst xs)/\ixN xs.length k=some j/\Q (upd H p (.lst (xs.set j v)))
theorem set_list:HJ X Ku:=by
 intro pins s σ H o i v ov iv u Q I ro ri rv h
 obtain⟨p,xs,k,j,rfl,rfl,hp,hj,q⟩:=h
 cases ro
 obtain⟨t,rfl⟩:=ri
 obtain⟨its,n,r,ho,hz⟩:=I.lst hp
 obtain⟨h1,h2,h3,h4⟩:=Al hj
 have hl:=r.length
 have hn:=pQ
 have I':Inv X pins σ (upd H p (.lst (xs.set j v))) { s with heap:=s.heap.update p (Obj.mapSeq (·.setIfInBounds j u)) } :=
  I.IH hp ho (yV its n j u) (r.set rv j) (by rw[List.length_set];exact hz) s.toks
 by_cases h0:0<=k
 ·have hk:k.toNat=j:=by
   rw[seqIndex_of h0 h4] at h1
   exact Option.some.inj h1
  exact PySem.W.ki_setAt ho h0 (by omega) (by rw[bz,←hl];exact h4) (by rw[hk];exact⟨_,I',q⟩)
 ·have hk:(k+(its.toArray.size:Int)).toNat=j:=by
   rw[seqIndex_neg (by omega) h3] at h1
   rw[bz,←hl]
   exact Option.some.inj h1
  exact PySem.W.ki_setBack ho (by omega) (by rw[bz,←hl];exact h3) (by omega) (by rw[hk];exact⟨_,I',q⟩)

theorem vX (lo hi:Option Int) (n:Nat):(sliceBounds lo hi none n).1=((HT.sIx n 0 lo:Nat):Int)/\(sliceBounds lo hi none n).2.1=((HT.sIx n n hi:Nat):Int)/\(sliceBounds lo hi none n).2.2=1:=by
 refine⟨?_,?_,rfl⟩
 ·cases lo with
  | none=>simp [sliceBounds,HT.sIx]
  | some i =>
   simp only[sliceBounds,HT.sIx,Option.getD_none,show (1:Int)>0 by decide,if_true]
   by_cases h:i<0
   ·simp only[h,if_true]<;>omega
   ·simp only[h,hV]<;>omega
 ·cases hi with
  | none=>simp [sliceBounds,HT.sIx]
  | some i =>
   simp only[sliceBounds,HT.sIx,Option.getD_none,show (1:Int)>0 by decide,if_true]
   by_cases h:i<0
   ·simp only[h,if_true]<;>omega
   ·simp only[h,hV]<;>omega
theorem ub (its:List Value) (lo hi:Option Int):slicePick its.toArray lo hi none=((its.drop (HT.sIx its.length 0 lo)).take (HT.sIx its.length its.length hi-HT.sIx its.length 0 lo)).toArray:=by
 obtain⟨h1,h2,h3⟩:=vX lo hi its.toArray.size
 unfold slicePick
 rw[h1,h2,h3]
 simp only[sliceRange_one,pick_run,bz]<;>rfl
def Ls (K:PySem.W.Frag):V->Option Int->Option Int->Hp->VK->Prop:=fun x lo hi H Q=>∃ a xs,x=.ref a/\SqL K H a xs/\∀ p,H p=none->Q (.ref p) (upd H p (.lst (kZ xs lo hi)))
theorem GQ:SlR X (Ls X.K):=by
 intro pins s σ H x v vl vu lo hi sl Q I rx hs pl pu h
 obtain⟨a,xs,rfl,hx,q⟩:=h
 cases rx
 obtain⟨its,r,ht,hz⟩:=I.list hx
 have hlen:=r.length
 refine⟨"list",_,slot_list_getitem.lookup,ht.isList.typeIs,?_⟩
 refine wpAny_getItem_list_slice ht.isList hs pl pu .none (by simp) ?_ (by rw[bz]<;>omega)
 rw[ub,←hlen]
 refine⟨.ref s.heap.objs.size,_,I.laid (t':=s.toks) (o:=.lst (kZ xs lo hi)) (fun b ob q=>aW _ q) (aA _) ?_,rfl,q _ (I.hok.fresh (aA _))⟩
 exact⟨bJ (wA xs lo hi) hz,_,0,(r.drop (HT.sIx xs.length 0 lo)).take (HT.sIx xs.length xs.length hi-HT.sIx xs.length 0 lo),bL _ rfl⟩

def dX:V->Bool
 | .non=>true
 | .bl _=>true
 | .int _=>true
 | .str _=>true
 | _=>false
def eqV:V->V->Bool
 | .non,.non=>true
 | .bl a,.bl b=>a==b
 | .bl a,.int b=>(if a then 1 else 0)==b
 | .int a,.bl b=>a==(if b then 1 else 0)
 | .int a,.int b=>a==b
 | .str a,.str b=>a==b
 | _,_=>false
theorem ng {y x:V}{u v:Value} (ry:RelV y u) (rx:RelV x v) (fy:dX y=true) (fx:dX x=true):SeqAt.EqAt A s u v (eqV y x):=by
 cases y with
 | non =>
  cases ry
  cases x with
  | non=>cases rx;exact SeqAt.EqAt.same _
  | bl b=>cases rx;exact SeqAt.EqAt.none_bool b
  | int b=>obtain⟨t,rfl⟩:=rx;exact SeqAt.EqAt.none_int b t
  | str b=>obtain⟨t,rfl⟩:=rx;exact SeqAt.EqAt.none_str b t
  | _=>exact absurd (show false=true from fx) cf
 | bl a =>
  cases ry
  cases x with
  | non=>cases rx;exact SeqAt.EqAt.bool_none a
  | bl b=>cases rx;exact SeqAt.EqAt.bool_bool a b
  | int b=>obtain⟨t,rfl⟩:=rx;exact SeqAt.EqAt.bool_int a b t
  | str b=>obtain⟨t,rfl⟩:=rx;exact SeqAt.EqAt.bool_str a b t
  | _=>exact absurd (show false=true from fx) cf
 | int a =>
  obtain⟨t',rfl⟩:=ry
  cases x with
  | non=>cases rx;exact SeqAt.EqAt.int_none a t'
  | bl b=>cases rx;exact SeqAt.EqAt.int_bool a t' b
  | int b=>obtain⟨t,rfl⟩:=rx;exact SeqAt.EqAt.int_int a t' b t
  | str b=>obtain⟨t,rfl⟩:=rx;exact SeqAt.EqAt.int_str a t' b t
  | _=>exact absurd (show false=true from fx) cf
 | str a =>
  obtain⟨t',rfl⟩:=ry
  cases x with
  | non=>cases rx;exact SeqAt.EqAt.str_none a t'
  | bl b=>cases rx;exact SeqAt.EqAt.str_bool a t' b
  | int b=>obtain⟨t,rfl⟩:=rx;exact SeqAt.EqAt.str_int a t' b t
  | str b=>obtain⟨t,rfl⟩:=rx;exact SeqAt.EqAt.str_str a t' b t
  | _=>exact absurd (show false=true from fx) cf
 | _=>exact absurd (show false=true from fy) cf
def eqU (x:V) (u:Value):Bool:=match u with
 | .none=>eqV .non x
 | .bool b=>eqV (.bl b) x
 | .int i _=>eqV (.int i) x
 | .str z _=>eqV (.str z) x
 | _=>false
theorem Dn {x y:V} (r:RelV y u) (f:dX y=true):eqU x u=eqV y x:=by
 cases y with
 | non=>cases r;rfl
 | bl b=>cases r;rfl
 | int i=>obtain⟨t,rfl⟩:=r;rfl
 | str z=>obtain⟨t,rfl⟩:=r;rfl
 | _=>exact absurd (show false=true from f) cf
theorem uP {x:V}:∀ {xs:List V}{us:List Value},Vals xs us->xs.all dX=true->us.any (eqU x)=xs.any fun y=>eqV y x
 | _,_,.nil,_=>rfl
 | y::xs,u::us,.cons r t,f=>by
  rw[iO,bS] at f
  rw[iP,iP,Dn r f.1,uP t f.2]
theorem sq {A:Around}{s:Shared}{x:V}{v:Value} (rx:RelV x v) (fx:dX x=true):∀ {xs:List V}{us:List Value},Vals xs us->xs.all dX=true->∀ u∈us,SeqAt.EqAt A s u v (eqU x u)
 | _,_,.nil,_=>fun u hu=>by cases hu
 | y::xs,u::us,.cons r t,f=>fun u' hu=>by
  rw[iO,bS] at f
  rcases aH.mp hu with rfl | hu
  ·rw[Dn r f.1];exact ng r rx f.1 fx
  ·exact sq rx fx t f.2 u' hu
def inV (x:V) (xs:List V):Bool:=xs.any fun y=>eqV y x
def rIn (K:PySem.W.Frag) (neg:Bool):R2:=fun x y H Q=>∃ p xs,y=.ref p/\(SqL K H p xs∨SqT K H p xs)/\dX x=true/\xs.all dX=true/\Q (.bl (if neg then !inV x xs else inV x xs)) H
theorem BZ:OpR X (compareOp .In) (rIn X.K false):=by
 intro pins s σ H x y v u Q I rx ry h
 obtain⟨p,xs,rfl,hq,fx,fs,q⟩:=h
 cases ry
 rcases hq with hq | hq
 ·obtain⟨its,r,pl,hz⟩:=I.list hq
  refine SeqAt.in_listAt (eqU x) pl.isList (fun w hw=>sq rx fx r fs w (by simpa using hw)) ⟨.bl _,H,I,rfl,?_⟩
  rw[show its.toArray.any (eqU x)=its.any (eqU x) by simp,uP r fs]
  exact q
 ·obtain⟨its,r,pl,hz⟩:=I.tuple hq
  refine SeqAt.in_tupleAt (eqU x) pl (fun w hw=>sq rx fx r fs w (by simpa using hw)) ⟨.bl _,H,I,rfl,?_⟩
  rw[show its.toArray.any (eqU x)=its.any (eqU x) by simp,uP r fs]
  exact q
theorem uU:cW X (.builtin "len") (fun xs H Q=>∃ p ys,xs=[.ref p]/\(SqL X.K H p ys∨SqT X.K H p ys)/\Q (.int ys.length) H):=by
 intro pins s σ H xs us Q I r h
 obtain⟨p,ys,rfl,hq,q⟩:=h
 obtain⟨u,rfl,rx⟩:=vals1 r
 cases rx
 have hn:=pQ
 rcases hq with hq | hq
 ·obtain⟨its,r',pl,hz⟩:=I.list hq
  have hlen:=r'.length
  exact Calls.call_len_list pl.isList (by simp only[bz]<;>omega) ⟨.int ys.length,H,I.tok _,⟨s.toks+1,by rw[bz,hlen]⟩,q⟩
 ·obtain⟨its,r',pl,hz⟩:=I.tuple hq
  have hlen:=r'.length
  exact len_tuple pl (by simp only[bz]<;>omega) ⟨.int ys.length,H,I.tok _,⟨s.toks+1,by rw[bz,hlen]⟩,q⟩
theorem uV:cW X (.builtin "len") (fun xs H Q=>∃ z,xs=[.str z]/\z.length<=sizeLine/\Q (.int z.length) H):=by
 intro pins s σ H xs us Q I r h
 obtain⟨z,rfl,hz,q⟩:=h
 obtain⟨u,rfl,t,rfl⟩:=vals1 r
 have hn:=pQ
 exact len_str (by omega) ⟨.int z.length,H,I.tok _,⟨_,rfl⟩,q⟩
theorem cW.or {f:Value}{r r':List V->Hp->VK->Prop} (h:cW X f r) (h':cW X f r'):cW X f (fun xs H Q=>r xs H Q∨r' xs H Q):=by
 intro pins s σ H xs us Q I rs q
 rcases q with q | q
 ·exact h pins s σ H xs us Q I rs q
 ·exact h' pins s σ H xs us Q I rs q
theorem uX:cW X (.type "list") (fun xs H Q=>∃ p ys,xs=[.ref p]/\(SqL X.K H p ys∨SqT X.K H p ys)/\∀ l,H l=none->Q (.ref l) (upd H l (.lst ys))):=by
 intro pins s σ H xs us Q I r h
 obtain⟨p,ys,rfl,hq,q⟩:=h
 obtain⟨u,rfl,rx⟩:=vals1 r
 cases rx
 have fin:∀ (its:List Value),Vals ys its->ys.length<=sizeLine->∀ (h':Heap) (c':Nat),(∀ b o',s.heap.get? b=some o'->h'.get? b=some o') →
   h'.get? s.heap.objs.size=some { cls:=.type "list",dict:=none,data:=.seq its.toArray c',slots:=#[] }->EP X pins σ Q (.ref s.heap.objs.size) { s with heap:=h' }:=fun its r' hz h' c' kp e =>
  ⟨.ref s.heap.objs.size,_,I.laid (t':=s.toks) kp (aA _) (show c8 X.prog X.w _ h' _ (.lst ys) from ⟨hz,its,c',r',e⟩),rfl,q _ (I.hok.fresh (aA _))⟩
 rcases hq with hq | hq
 ·obtain⟨its,r',pl,hz⟩:=I.list hq
  have hlen:=r'.length
  obtain⟨o,ho,hc,n,hd⟩:=pl.isList
  exact call_list_seq p (.inl rfl) ho hc hd (fun h' c' kp e=>fin its r' hz h' c' kp e) (by simp only[bz]<;>omega)
 ·obtain⟨its,r',pl,hz⟩:=I.tuple hq
  have hlen:=r'.length
  obtain⟨o,ho,hc,n,hd⟩:=pl
  exact call_list_seq p (.inr rfl) ho hc hd (fun h' c' kp e=>fin its r' hz h' c' kp e) (by simp only[bz]<;>omega)
def tyV (K:PySem.W.Frag) (T:String) (x:V) (H:Hp):Prop:=match x with
 | .str _=>T="str"
 | .int _=>T="int"
 | .ref p=>(T="list"/\∃ xs,SqL K H p xs)∨(T="tuple"/\∃ o,K.lookup p=some o/\o.cls=.type "tuple"/\o.dict=none) ∨
   (T="dict"/\((∃ kvs,H p=some (.dK kvs))∨∃ kvs,H p=some (.dT kvs)))∨(T="set"/\∃ S n,H p=some (.set S n))
 | _=>False
theorem Jy {T:String}{x:V}{v:Value} (I:Inv X pins σ H s) (r:RelV x v) (ty:tyV X.K T x H) :
  s.TypeIs v T/\∀ a,v=.ref a->∃ ob,s.heap.get? a=some ob/\ob.dict=none:=by
 cases x with
 | str z =>
  obtain⟨t,rfl⟩:=r
  cases (show T="str" from ty)
  exact⟨fc s z t,fun _ e=>nomatch e⟩
 | int i =>
  obtain⟨t,rfl⟩:=r
  cases (show T="int" from ty)
  exact⟨typeIs_int s i t,fun _ e=>nomatch e⟩
 | ref p =>
  cases r
  rcases ty with ⟨rfl,xs,hq⟩ | ⟨rfl,o,hk,hc,hd⟩ | ⟨rfl,hk⟩ | ⟨rfl,S,n,hk⟩
  ·obtain⟨its,_,pl,_⟩:=I.list hq
   refine⟨pl.isList.typeIs,fun a e=>?_⟩
   cases e
   obtain⟨o,n,e,c,hd,_⟩:=pl
   exact⟨o,e,hd⟩
  ·refine⟨⟨o,I.kIn p o hk,hc⟩,fun a e=>?_⟩
   cases e
   exact⟨o,I.kIn _ o hk,hd⟩
  ·have z:∃ o,s.heap.get? p=some o/\o.ExactDict:=by
    rcases hk with ⟨kvs,hk⟩ | ⟨kvs,hk⟩
    ·obtain⟨_,_,_,_,o,_,_,e,ex,_⟩:=I.hok p _ hk
     exact⟨o,e,ex⟩
    ·obtain⟨_,_,_,_,o,_,_,e,ex,_⟩:=I.hok p _ hk
     exact⟨o,e,ex⟩
   obtain⟨o,e,ex⟩:=z
   refine⟨⟨o,e,ex.1⟩,fun a e2=>?_⟩
   cases e2
   exact⟨o,e,ex.2.1⟩
  ·obtain⟨o,_,_,_,e,ex,_⟩:=I.hok p _ hk
   refine⟨⟨o,e,ex.1⟩,fun a e2=>?_⟩
   cases e2
   exact⟨o,e,ex.2.1⟩
 | _=>exact False.elim ty
def tBM (K:PySem.W.Frag) (T:String) (r:V->List V->Hp->VK->Prop) (to:TE) (t:TA):TE:=fun σ H Q=>to σ H fun x H1=>tyV K T x H1/\t σ H1 fun xs H2=>r x xs H2 Q
variable {o e:Expr}{es:List Expr}{to:TE}{t:TA}{name:Str}{apos cpos:Pos}{T id:String}{r:V->List V->Hp->VK->Prop}
theorem Kn (pa:PlainAttrs T) (slot:Slot T name id) (hty:typeOf (.builtin id)=pure (.type "method_descriptor")) (hm:MtR X id r) (ho:PE X o to) (ha:PA X (e::es) t)
  (hbase:attributeBase o name X.env (eval o X.env)=eval o X.env:=by rfl)
  (hfew:((backTo cpos (starEach (e::es) X.env)).all (fun x=>!x.1)&&(backToKw cpos (keywordEach [] X.env)).all (fun x=>x.1.isSome)
   && decide ((e::es).length+([]:List Keyword).length+(if ([]:List Keyword).isEmpty then 0 else 1)<30))=true:=by rfl)
  (hline:(apos.endLine==cpos.line)=true:=by rfl) (hs:starEach (e::es) X.env=(false,eval e X.env)::starEach es X.env:=by rfl) (hplain:(backTo cpos (starEach es X.env)).any (·.1)=false:=by rfl) :
  PE X (.Call (.Attribute o name apos) (e::es) [] cpos) (tBM X.K T r to t):=by
 intro pins s σ H Q I h
 refine wpAny_Call_method_late hbase hfew hline rfl (thn (ho pins s σ H _ I h) fun v s1 ⟨x,H1,I1,r1,ty,q1⟩=>?_)
 obtain⟨h1,h2⟩:=Jy I1 r1 ty
 refine⟨T,id,pa,slot,hty,h1,h2,?_⟩
 have hA:=ha cpos pins s1 σ H1 _ I1 q1
 rw[hs] at hA ⊢
 refine Calls.callWith_builtin (by show (false||(backTo cpos (starEach es X.env)).any (·.1))=false;rw[hplain]<;>rfl) (pE ?_)
 exact thn hA fun us s2 ⟨vs,H2,I2,r2,q2⟩=>hm pins s2 σ H2 x vs v us Q I2 r1 r2 q2
end
end
section

def MtM (X:Cx) (id:String) (r:V->List V->Hp->VK->Prop):Prop :=
 ∀ (pins:List (Addr×Obj)) (s:Shared) (σ:St) (H:Hp) (x:V) (xs:List V) (v:Value) (us:List Value) (Q:VK),Inv X pins σ H s->RelV x v->Vals xs us->r x xs H Q →
  wpAny (model X.prog X.w) X.A (call (.builtin id) (v::us)) (EP X pins σ Q) X.xe s

theorem Vals.one:∀ {x:V}{us:List Value},Vals [x] us->∃ u,us=[u]/\RelV x u
 | _,_,.cons r .nil=>⟨_,rfl,r⟩
theorem Vals.two:∀ {x y:V}{us:List Value},Vals [x,y] us->∃ u v,us=[u,v]/\RelV x u/\RelV y v
 | _,_,_,.cons r (.cons q .nil)=>⟨_,_,rfl,r,q⟩
theorem Vals.zero:∀ {us:List Value},Vals [] us->us=[]
 | _,.nil=>rfl
theorem Vals.dropLast {xs:List V}{us:List Value} (h:Vals xs us):Vals xs.dropLast us.dropLast:=by
 induction h with
 | nil=>exact .nil
 | cons r t ih =>
  cases t with
  | nil=>exact .nil
  | cons q t'=>exact .cons r ih
theorem Vals.reverse {xs:List V}{us:List Value} (h:Vals xs us):Vals xs.reverse us.reverse:=by
 induction h with
 | nil=>exact .nil
 | cons r t ih=>rw[List.reverse_cons,List.reverse_cons];exact Vals.append ih (.cons r .nil)
theorem Vals.rep {xs:List V}{us:List Value} (h:Vals xs us):∀ k:Nat,Vals (List.replicate k xs).flatten (List.replicate k us).flatten
 | 0=>.nil
 | k+1=>by
  rw[mz,mz,mm,mm]
  exact Vals.append h (Vals.rep h k)
theorem foldl_rep (its:List Value):∀ (k:Nat) (acc:List Value),
  List.foldl (fun x1 x2=>x1++x2) acc.toArray (List.replicate k its.toArray)=(acc++(List.replicate k its).flatten).toArray
 | 0,acc=>by simp
 | k+1,acc=>by
  have e:acc.toArray++its.toArray=(acc++its).toArray:=by simp
  have e2:(acc++its)++(List.replicate k its).flatten=acc++(List.replicate (k+1) its).flatten:=by
   rw[mz,mm,gU]
  rw[←e2,←foldl_rep its k (acc++its),←e,mz,List.foldl_cons]

section
variable {X:Cx}{pins:List (Addr×Obj)}{σ:St}{H:Hp}{s:Shared}{l b:Addr}{xs ys zs:List V}

theorem Inv.Kd {its its':List Value}{n:Nat}{f:Array Value->Array Value}{t':Nat} (I:Inv X pins σ H s) (hH:H l=some (.lst xs))
  (e:s.heap.get? l=some { cls:=.type "list",data:=.seq its.toArray n }) (hf:f its.toArray=its'.toArray) (hv:Vals ys its') (hz:ys.length<=sizeLine) :
  Inv X pins σ (upd H l (.lst ys)) { s with heap:=s.heap.update l (Obj.mapSeq f),toks:=t' }:=by
 have q:=PySem.IsL.update e f
 rw[hf] at q
 refine I.write (x:=l) (e:=l) (by rw[hH];exact trivial) (.inl rfl) (fun b' u hb hu=>(eU s.heap (Obj.mapSeq f) (Ne.symm hb)).trans hu) ⟨_,q⟩ ?_
 exact⟨hz,its',_,hv,q⟩
theorem Inv.Kc {its:List Value}{t':Nat} (I:Inv X pins σ H s) (hv:Vals ys its) (hz:ys.length<=sizeLine) :
  Inv X pins σ (upd H s.heap.objs.size (.lst ys)) { s with heap:=s.heap.push { cls:=.type "list",data:=.seq its.toArray },toks:=t' } :=
 I.laid (fun _ _ q=>aW _ q) (aA _) ⟨hz,its,0,hv,bL _ rfl⟩
theorem Inv.fresh (I:Inv X pins σ H s):H s.heap.objs.size=none:=I.hok.fresh (aA _)
theorem Inv.DR (I:Inv X pins σ H s) (hH:H l=some (.lst xs)):xs.length<=sizeLine/\∃ (its:List Value) (n:Nat),Vals xs its/\xs.length=its.length/\s.heap.get? l=some { cls:=.type "list",data:=.seq its.toArray n }:=by
 obtain⟨z,its,n,r,e⟩:=I.hok l _ hH
 exact⟨z,its,n,r,r.length,e⟩

theorem DY {n:Nat} (h:n<=sizeLine):Builtin.List.listTooLong n=false:=by
 unfold Builtin.List.listTooLong
 exact aE (by omega)
end

section
variable {X:Cx}

def GI:V->List V->Hp->VK->Prop:=fun x vs H Q=>∃ l xs y,x=.ref l/\vs=[y]/\H l=some (.lst xs)/\xs.length<sizeLine/\Q .non (upd H l (.lst (xs++[y])))
theorem i6:MtM X "list.append" GI:=by
 intro pins s σ H x vs v us Q I rx rv h
 obtain⟨l,xs,y,rfl,rfl,hH,hz,q⟩:=h
 cases rx
 obtain⟨u,rfl,ru⟩:=rv.one
 obtain⟨z,its,n,r,hl,e⟩:=I.DR hH
 refine gx F.slot_list_append ⟨_,e,rfl⟩ F.entry_list_append (F.args_list_append_2 _ _) (PySem.list_append l its.toArray n u (by rw[bz];omega)) ⟨e,?_⟩
 refine⟨.non,_,I.Kd (its':=its++[u]) hH e (by simp) (r.append (.cons ru .nil)) ?_,rfl,q⟩
 rw[ah,gY]
 omega

def Lh:R2:=fun x y H Q=>∃ l b xs zs,x=.ref l/\y=.ref b/\H l=some (.lst xs)/\H b=some (.lst zs)/\xs.length+zs.length<=sizeLine/\∀ p,H p=none->Q (.ref p) (upd H p (.lst (xs++zs)))
theorem IS:OpR X (binaryOp .Add) Lh:=by
 intro pins s σ H x y v u Q I rx ry h
 obtain⟨l,b,xs,zs,rfl,rfl,hH,hB,hz,q⟩:=h
 cases rx
 cases ry
 obtain⟨z,its,n,r,hl,e⟩:=I.DR hH
 obtain⟨z2,its2,n2,r2,hl2,e2⟩:=I.DR hB
 refine PySem.P.add_list e e2 ?_ (by rw[bz,bz];omega)
 have ea:its.toArray++its2.toArray=(its++its2).toArray:=by simp
 rw[ea]
 exact⟨.ref _,_,I.Kc (t':=s.toks) (r.append r2) (by rw[ah];omega),rfl,q _ I.fresh⟩
def Lr:R2:=fun x y H Q=>∃ l k xs,x=.ref l/\y=.int k/\H l=some (.lst xs)/\-(2^63)<=k/\k<2^63/\xs.length*k.toNat<=sizeLine ∧
 ∀ p,H p=none->Q (.ref p) (upd H p (.lst (List.replicate k.toNat xs).flatten))
theorem len_rep (xs:List α) (k:Nat):(List.replicate k xs).flatten.length=k*xs.length:=by
 induction k with
 | zero=>simp
 | succ k ih=>rw[mz,mm,ah,ih,Nat.succ_mul,Nat.add_comm]
theorem Jd:OpR X (binaryOp .Mult) Lr:=by
 intro pins s σ H x y v u Q I rx ry h
 obtain⟨l,k,xs,rfl,rfl,hH,h1,h2,hz,q⟩:=h
 cases rx
 obtain⟨t,rfl⟩:=ry
 obtain⟨z,its,n,r,hl,e⟩:=I.DR hH
 have hlen:its.toArray.size*k.toNat<=sizeLine:=by rw[bz,←hl];exact hz
 have hcap:¬ its.toArray.size*k.toNat>(2^63-1)/8:=by
  have:(sizeLine:Nat)<=(2^63-1)/8:=by decide
  omega
 have hfit:¬ (!Builtin.List.listFitsIndex k)=true:=by
  rw[fitsIndex_both h1 h2]
  exact cf
 have hlong:¬ Builtin.List.listTooLong (its.toArray.size*k.toNat)=true:=by
  rw[DY hlen]
  exact cf
 have hnew:List.foldl (fun x1 x2=>x1++x2) #[] (List.replicate (if its.toArray.isEmpty=true then 0 else k.toNat) its.toArray)=(List.replicate k.toNat its).flatten.toArray:=by
  have f0:∀ m:Nat,List.foldl (fun x1 x2=>x1++x2) #[] (List.replicate m its.toArray)=(List.replicate m its).flatten.toArray:=fun m=>by
   have:=foldl_rep its m []
   rw[kg] at this
   exact this
  rw[f0]
  cases its with
  | nil=>simp
  | cons a r'=>rw[ai (by simp)]
 refine wpAny_binaryOp_repeat_ref (T:="list") (U:="int") (by decide) ⟨_,e,rfl⟩ (fun s'=>typeIs_int s' k t) noFill_list_mul F.fills_int_mul F.slot_int_rmul repeat_list F.slot_int_index.lookup
  (gx F.slot_int_rmul (typeIs_int s k t) F.entry_int_rmul (F.args_int_rmul_2 _ _) (int___rmul___int_list k t l its.toArray n)
   ⟨e,rfl,⟨_,e,rfl⟩,gx F.slot_list_mul ⟨_,e,rfl⟩ F.entry_list_mul (F.args_list_mul_2 _ _) (AutoListH.list___mul___list_int_3 l its.toArray n k t hfit hcap hlong) ⟨e,?_⟩⟩)
 rw[hnew]
 exact⟨.ref _,_,I.Kc (t':=s.toks) (r.rep k.toNat) (by rw[len_rep,Nat.mul_comm];exact hz),rfl,q _ I.fresh⟩

end

section
variable {prog:Program}{w:World}{A:Around}{E:Value->Shared->Prop}{s:Shared}
end

section
variable {X:Cx}
end
end
section

section
variable {κ:Type} [DecidableEq κ]
def iY (kvs:List (κ×V)) (k:κ):Option V:=(kvs.find? fun kv=>decide (kv.1=k)).map (·.2)
def putK (kvs:List (κ×V)) (k:κ) (v:V):List (κ×V) :=
 if (kvs.any fun kv=>decide (kv.1=k))=true then kvs.map (fun kv=>if kv.1=k then (kv.1,v) else kv) else kvs++[(k,v)]
def GY (kvs:List (κ×V)) (k:κ):List (κ×V):=kvs.filter fun kv=>decide (kv.1≠k)

theorem tR {p:κ×V}{r:List (κ×V)}{k:κ} (e:p.1=k):iY (p::r) k=some p.2:=by simp [iY,gX,e]
theorem tQ {p:κ×V}{r:List (κ×V)}{k:κ} (e:¬ p.1=k):iY (p::r) k=iY r k:=by simp [iY,gX,e]
theorem tP (k:κ):∀ kvs:List (κ×V),(kvs.any fun kv=>decide (kv.1=k))=(iY kvs k).isSome
 | []=>rfl
 | p::r=>by
  rw[iP]
  by_cases e:p.1=k
  ·simp only[tR e,aC e,Bool.true_or,Option.isSome_some]
  ·rw[tQ e,aE e,Bool.false_or];exact tP k r
theorem qu (kvs:List (κ×V)) (k:κ) (v:V):(putK kvs k v).length<=kvs.length+1:=by
 unfold putK
 split
 ·rw[aj];omega
 ·rw[ah,ag,ax];omega
theorem kY.pO {o:Option V}{u:Option Value} (r:kY o u):o.isSome=u.isSome:=by
 cases o with
 | none=>cases u with
  | none=>rfl
  | some _=>exact (show False from r).elim
 | some _=>cases u with
  | none=>exact (show False from r).elim
  | some _=>rfl
theorem kY.getD {o:Option V}{u:Option Value}{d:V}{d':Value} (r:kY o u) (rd:RelV d d'):RelV (o.getD d) (u.getD d'):=by
 cases o with
 | none=>cases u with
  | none=>exact rd
  | some _=>exact (show False from r).elim
 | some _=>cases u with
  | none=>exact (show False from r).elim
  | some _=>exact r

theorem KV.val {kvs:List (κ×V)}{vs:List (κ×Value)} (r:KV kvs vs) (k:κ):kY (iY kvs k) (valueAt vs k):=by
 unfold KV at r
 induction r with
 | nil=>exact True.intro
 | @cons p q ps qs h t ih =>
  obtain⟨h1,h2⟩:=h
  by_cases e:p.1=k
  ·have e':q.1=k:=h1.symm.trans e
   have b:valueAt (q::qs) k=some q.2:=by simp [valueAt,gX,e']
   rw[tR e,b];exact h2
  ·have e':¬ q.1=k:=fun z=>e (h1.trans z)
   have b:valueAt (q::qs) k=valueAt qs k:=by simp [valueAt,gX,e']
   rw[tQ e,b];exact ih
theorem KV.any {kvs:List (κ×V)}{vs:List (κ×Value)} (r:KV kvs vs) (k:κ):(kvs.any fun kv=>decide (kv.1=k))=vs.any fun kv=>decide (kv.1=k):=by
 unfold KV at r
 induction r with
 | nil=>rfl
 | cons h t ih=>rw[iP,iP,ih,h.1]
theorem KV.Jq {kvs:List (κ×V)}{vs:List (κ×Value)} (r:KV kvs vs) (k:κ)  (ry:RelV y u) :
  KV (kvs.map fun kv=>if kv.1=k then (kv.1,y) else kv) (vs.map fun kv=>if kv.1=k then (kv.1,u) else kv):=by
 unfold KV at r ⊢
 induction r with
 | nil=>exact .nil
 | @cons p q ps qs h t ih =>
  rw[aQ,aQ]
  refine .cons ?_ ih
  obtain⟨h1,h2⟩:=h
  by_cases e:p.1=k
  ·rw[ao e,ao (h1.symm.trans e)];exact⟨h1,ry⟩
  ·rw[ai e,ai (fun z=>e (h1.trans z))];exact⟨h1,h2⟩
theorem KV.put {kvs:List (κ×V)}{vs:List (κ×Value)} (r:KV kvs vs) (k:κ)  (ry:RelV y u):KV (putK kvs k y) (stored vs k u):=by
 unfold putK stored
 rw[r.any k]
 by_cases e:(vs.any fun kv=>decide (kv.1=k))=true
 ·rw[ao e,ao e];exact r.Jq k ry
 ·rw[ai e,ai e];exact Paired.snoc r ⟨rfl,ry⟩
theorem KV.drop {kvs:List (κ×V)}{vs:List (κ×Value)} (r:KV kvs vs) (k:κ):KV (GY kvs k) (without vs k):=by
 unfold KV at r ⊢
 unfold GY without
 induction r with
 | nil=>exact .nil
 | @cons p q ps qs h t ih =>
  obtain⟨h1,h2⟩:=h
  rw[List.filter_cons,List.filter_cons]
  by_cases e:p.1=k
  ·have a:¬ decide (p.1≠k)=true:=by simp [e]
   have b:¬ decide (q.1≠k)=true:=by simp [h1.symm.trans e]
   rw[ai a,ai b];exact ih
  ·have e':¬ q.1=k:=fun z=>e (h1.trans z)
   have a:decide (p.1≠k)=true:=by simp [e]
   have b:decide (q.1≠k)=true:=by simp [e']
   rw[ao a,ao b];exact .cons ⟨h1,h2⟩ ih
theorem KV.keys {kvs:List (κ×V)}{vs:List (κ×Value)} (r:KV kvs vs):kvs.map (·.1)=vs.map (·.1):=by
 unfold KV at r
 induction r with
 | nil=>rfl
 | cons h t ih=>rw[aQ,aQ,ih,h.1]
theorem KV.length {kvs:List (κ×V)}{vs:List (κ×Value)} (r:KV kvs vs):kvs.length=vs.length:=Paired.length r
end


theorem wW {k:Key} (r:RelV (kV k) u):(bH P w).is k u=true:=by
 cases k with
 | inl i=>obtain⟨t,e⟩:=(show ∃ t,u=Value.int i t from r);subst e;exact xc P w i t
 | inr x=>obtain⟨t,e⟩:=(show ∃ t,u=Value.str x t from r);subst e;exact xf P w x t
theorem IA {a b:Key} (e:kV a=kV b):a=b:=by
 cases a with
 | inl i=>cases b with
  | inl j=>have e':V.int i=V.int j:=e;injection e' with e';rw[e']
  | inr y=>exact nomatch (show V.int i=V.str y from e)
 | inr x=>cases b with
  | inl j=>exact nomatch (show V.str x=V.int j from e)
  | inr y=>have e':V.str x=V.str y:=e;injection e' with e';rw[e']
theorem nZ:∀ {a b:List Key},a.map kV=b.map kV->a=b
 | [],[],_=>rfl
 | [],_::_,e=>by simp at e
 | _::_,[],e=>by simp at e
 | x::xs,y::ys,e=>by
  rw[aQ,aQ] at e
  injection e with e1 e2
  rw[IA e1,nZ e2]
theorem u5 {P:Program}{w:World}:∀ {ks:List Key}{us:List Value},Vals (ks.map kV) us->ItemsAre (bH P w) ks us
 | [],_,r=>by rw[List.map_nil] at r;cases r;exact .nil
 | k::ks,_,r=>by
  rw[aQ] at r
  cases r with
  | cons h t=>exact .cons (wW h) (u5 t)

abbrev KT (H:Hp):List (List Key×V)->List (List Key×Addr×Value)->Prop:=Paired fun p q=>p.1=q.1/\H q.2.1=some (.tup (p.1.map kV))/\RelV p.2 q.2.2
theorem KT.val (r:KT H kvs xs) (k:List Key):kY (iY kvs k) ((atKey xs k).map (·.2)):=by
 induction r with
 | nil=>exact True.intro
 | @cons p q ps qs h t ih =>
  obtain⟨h1,_,h2⟩:=h
  by_cases e:p.1=k
  ·have e':q.1=k:=h1.symm.trans e
   have b:atKey (q::qs) k=some q.2:=by simp [atKey,gX,e']
   rw[tR e,b];exact h2
  ·have e':¬ q.1=k:=fun z=>e (h1.trans z)
   have b:atKey (q::qs) k=atKey qs k:=by simp [atKey,gX,e']
   rw[tQ e,b];exact ih
theorem KT.Jq (r:KT H kvs xs) (k:List Key)  (ry:RelV y u) :
  KT H (kvs.map fun kv=>if kv.1=k then (kv.1,y) else kv) (xs.map (putAt k u)):=by
 induction r with
 | nil=>exact .nil
 | @cons p q ps qs h t ih =>
  rw[aQ,aQ]
  refine .cons ?_ ih
  obtain⟨h1,h2,h3⟩:=h
  unfold putAt
  by_cases e:p.1=k
  ·rw[ao e,ao (h1.symm.trans e)];exact⟨h1,h2,ry⟩
  ·rw[ai e,ai (fun z=>e (h1.trans z))];exact⟨h1,h2,h3⟩
theorem KT.put (r:KT H kvs xs) (k:List Key) {b:Addr} (hb:H b=some (.tup (k.map kV))) (ry:RelV y u) :
  KT H (putK kvs k y) (storedH xs k b u):=by
 have e:(kvs.any fun kv=>decide (kv.1=k))=(atKey xs k).isSome:=by
  rw[tP,(r.val k).pO,Option.isSome_map]
 unfold putK storedH
 rw[e]
 by_cases q:(atKey xs k).isSome=true
 ·rw[ao q,ao q];exact r.Jq k ry
 ·rw[ai q,ai q];exact Paired.snoc r ⟨rfl,hb,ry⟩
theorem KT.keeps {H H':Hp} (r:KT H kvs xs) (ht:∀ b ys,H b=some (.tup ys)->H' b=some (.tup ys)):KT H' kvs xs :=
 Paired.II r fun _ _ z=>⟨z.1,ht _ _ z.2.1,z.2.2⟩

section
variable {P:Program}{w:World}{H:Hp}{h:Heap}{a:Addr}
theorem Hr {u:HO} (ok:HOk P w H h) (e:Rd H a u):c8 P w H h a u:=e.ok ok
theorem nT {kvs:List (Key×V)} (ok:HOk P w H h) (e:Rd H a (.dK kvs)):kvs.length<=sizeLine/\(a==sysModules)=false/\∃ vs,KV kvs vs/\h.DictOf (bH P w) a vs :=
 show c8 P w H h a (.dK kvs) from Hr ok e
theorem JU {kvs:List (Key×V)} (ok:HOk P w H h) (e:H a=some (.dK kvs)):kvs.length<=sizeLine/\(a==sysModules)=false/\∃ vs,KV kvs vs/\h.DictOf (bH P w) a vs:=nT ok (.inl e)
theorem sj {ks:List Key} (ok:HOk P w H h) (e:H a=some (.tup (ks.map kV))):(tupleKind (bH P w)).is h ks a:=by
 obtain⟨_,its,r,o,h1,h2,n,h3⟩:=(show c8 P w H h a (.tup (ks.map kV)) from ok a _ e)
 exact⟨o,its.toArray,n,h1,h2,h3,by simpa using u5 r⟩
theorem ur (ok:HOk P w H h) (e:Rd H a (.dT kvs)):kvs.length<=sizeLine/\(a==sysModules)=false ∧
  ∃ xs,KT H kvs xs/\h.DictOfH (tupleKind (bH P w)) a xs:=by
 obtain⟨z,y,xs,r,o,es,ep,h1,h2,h3,h4,h5⟩:=(show c8 P w H h a (.dT kvs) from Hr ok e)
 refine⟨z,y,xs,r,o,es,ep,h1,h2,h3,h4,fun x hx=>?_,h5⟩
 have all:∀ {l:List (List Key×V)}{m:List (List Key×Addr×Value)},KT H l m->∀ x∈m,(tupleKind (bH P w)).is h x.1 x.2.1:=by
  intro l m q
  induction q with
  | nil=>intro x hx;exact nomatch hx
  | @cons p q ps qs hq t ih =>
   intro x hx
   rcases aH.mp hx with e | hx
   ·subst e
    exact sj ok (by rw[←hq.1];exact hq.2.1)
   ·exact ih x hx
 exact all r x hx
theorem JV (ok:HOk P w H h) (e:H a=some (.dT kvs)):kvs.length<=sizeLine/\(a==sysModules)=false ∧
  ∃ xs,KT H kvs xs/\h.DictOfH (tupleKind (bH P w)) a xs:=ur ok (.inl e)
end

def lj (H:Hp) (a:Addr) (y:V) (r:Option V):Prop :=
 (∃ kvs k,Rd H a (.dK kvs)/\y=kV k/\r=iY kvs k)∨∃ kvs k b,Rd H a (.dT kvs)/\y=.ref b/\H b=some (.tup (k.map kV))/\r=iY kvs k
def ya (H:Hp) (a:Addr) (y v:V) (H':Hp):Prop :=
 (∃ kvs k,H a=some (.dK kvs)/\y=kV k/\kvs.length<sizeLine/\H'=upd H a (.dK (putK kvs k v))) ∨
 ∃ kvs k b,H a=some (.dT kvs)/\y=.ref b/\H b=some (.tup (k.map kV))/\kvs.length<sizeLine/\H'=upd H a (.dT (putK kvs k v))
theorem lj.k {H:Hp}{a:Addr}{kvs:List (Key×V)}{k:Key} (e:H a=some (.dK kvs)):lj H a (kV k) (iY kvs k):=.inl ⟨kvs,k,.inl e,rfl,rfl⟩
theorem lj.t {a b:Addr}{k:List Key} (e:H a=some (.dT kvs)) (eb:H b=some (.tup (k.map kV))):lj H a (.ref b) (iY kvs k):=.inr ⟨kvs,k,b,.inl e,rfl,eb,rfl⟩
theorem ya.k {H:Hp}{a:Addr}{kvs:List (Key×V)}{k:Key}{v:V} (e:H a=some (.dK kvs)) (hl:kvs.length<sizeLine):ya H a (kV k) v (upd H a (.dK (putK kvs k v))):=.inl ⟨kvs,k,e,rfl,hl,rfl⟩
theorem ya.t {a b:Addr}{k:List Key}{v:V} (e:H a=some (.dT kvs)) (eb:H b=some (.tup (k.map kV))) (hl:kvs.length<sizeLine) :
  ya H a (.ref b) v (upd H a (.dT (putK kvs k v))):=.inr ⟨kvs,k,b,e,rfl,eb,hl,rfl⟩


section
variable {X:Cx}{pins:List (Addr×Obj)}{σ:St}{H:Hp}{s:Shared}{a:Addr}{y v:V}{u r:Value}{o:Option V}{A:Around}{E:Value->Shared->Prop}

theorem Inv.big (I:Inv X pins σ H s):sysModules<s.heap.objs.size:=by
 have h:mainGlobals<s.heap.objs.size:=(I.mod.glob.keeps I.bk).lt
 exact Nat.lt_trans (by decide) h

theorem Bn (hu:A.units+1<cLine) (I:Inv X pins σ H s) (g:lj H a y (some v)) (ry:RelV y u) (h:∀ w' s',Inv X pins σ H s'->RelV v w'->Q w' s') :
  wpAny (model X.prog X.w) A (getItem (.ref a) u) Q E s:=by
 rcases g with ⟨kvs,k,e,ey,l⟩ | ⟨kvs,k,b,e,ey,eb,l⟩
 ·subst ey
  obtain⟨z,hd,vs,rel,dd⟩:=nT I.hok e
  obtain⟨w',hw,rw'⟩:=kY.some_of (v:=v) (o:=valueAt vs k) (by rw[l];exact rel.val k)
  exact wpAny_getItem_of (wW ry) dd.mapOf hw (h w' _ (I.tok _) rw')
 ·subst ey
  cases (show u=Value.ref b from ry)
  obtain⟨z,hd,xs,rel,dd⟩:=ur I.hok e
  obtain⟨w',hw,rw'⟩:=kY.some_of (v:=v) (o:=(atKey xs k).map (·.2)) (by rw[l];exact rel.val k)
  obtain⟨p,hp,hp2⟩:=fB.mp hw
  refine wpAny_getItem_heap (tupleKind_room_in1 hu) (sj I.hok eb) dd hp ?_
  rw[hp2]
  exact h w' _ (I.tok _) rw'
theorem La (hu:A.units+1<cLine) (I:Inv X pins σ H s) (g:lj H a y o) (ry:RelV y u) (h:∀ s',Inv X pins σ H s'->Q (.bool o.isSome) s') :
  wpAny (model X.prog X.w) A (compareOp .In u (.ref a)) Q E s:=by
 rcases g with ⟨kvs,k,e,ey,l⟩ | ⟨kvs,k,b,e,ey,eb,l⟩
 ·subst ey
  obtain⟨z,hd,vs,rel,dd⟩:=nT I.hok e
  refine wpAny_in_of (wW ry) hd dd.mapOf ?_
  rw[←(rel.val k).pO,←l]
  exact h _ (I.tok _)
 ·subst ey
  cases (show u=Value.ref b from ry)
  obtain⟨z,hd,xs,rel,dd⟩:=ur I.hok e
  refine wpAny_in_heap (tupleKind_room_in1 hu) (sj I.hok eb) hd dd ?_
  have q:=(rel.val k).pO
  rw[Option.isSome_map] at q
  rw[←q,←l]
  exact h _ (I.tok _)
theorem zT {t':Nat}{ob:HO} (I:Inv X pins σ H s) (mu:Mut (H a)) (hs:Heap.SameBut a s.heap h') (he:∃ q,h'.get? a=some q) (new:c8 X.prog X.w (upd H a ob) h' a ob) :
  Inv X pins σ (upd H a ob) { s with heap:=h',toks:=t' } :=
 I.write (x:=a) (e:=a) mu (.inl rfl) (fun b q hb z=>(hs.2 b hb).trans z) he new
theorem Ik {H':Hp}{kvs:List (Key×V)}{vs:List (Key×Value)} (z:kvs.length<=sizeLine) (hd:(a==sysModules)=false) (rel:KV kvs vs) (dd:h'.DictOf (bH P w) a vs) :
  c8 P w H' h' a (.dK kvs):=⟨z,hd,vs,rel,dd⟩
theorem Bo {Q:Unit->Shared->Prop} (hu:A.units+1<cLine) (I:Inv X pins σ H s) (g:ya H a y v H') (ry:RelV y u) (rv:RelV v r) (h:∀ s',Inv X pins σ H' s'->Q () s') :
  wpAny (model X.prog X.w) A (setItem (.ref a) u r) Q E s:=by
 rcases g with ⟨kvs,k,e,ey,l,eH⟩ | ⟨kvs,k,b,e,ey,eb,l,eH⟩
 ·subst ey eH
  obtain⟨z,hd,vs,rel,dd⟩:=JU I.hok e
  have hz:vs.length<=sizeLine:=by rw[←rel.length];exact z
  have hl:(putK kvs k v).length<=sizeLine:=by have:=qu kvs k v;omega
  refine wpAny_setItem_pairs (hsz:=hz) (wW ry) dd fun h' dd' hs=>h _ ?_
  have he:∃ q,h'.get? a=some q:=let ⟨q,_,_,hq,_⟩:=dd';⟨q,hq⟩
  exact zT I (by rw[e];exact True.intro) hs he (Ik hl hd (rel.put k rv) dd')
 ·subst ey eH
  cases (show u=Value.ref b from ry)
  obtain⟨z,hd,xs,rel,dd⟩:=JV I.hok e
  have hz:xs.length<=sizeLine:=by rw[←Paired.length rel];exact z
  have hl:(putK kvs k v).length<=sizeLine:=by have:=qu kvs k v;omega
  refine wpAny_setItem_heap (hsz:=hz) (tupleKind_room_in1 hu) (sj I.hok eb) dd fun h' dd' hs=>h _ ?_
  obtain⟨q,es,ep,hq,h2,h3,h4,_,h5⟩:=dd'
  refine zT I (by rw[e];exact True.intro) hs ⟨q,hq⟩ ⟨hl,hd,_,(rel.put k eb rv).keeps fun c ys ec=>?_,q,es,ep,hq,h2,h3,h4,h5⟩
  rw[aP (qx ec e (fun z=>nomatch z))]
  exact ec
end

section
variable {X:Cx}{pins:List (Addr×Obj)}{σ:St}{H:Hp}{s:Shared}{a:Addr}{kvs:List (Key×V)}{k:Key}{u:Value}{A:Around}{E:Value->Shared->Prop}
theorem JS (I:Inv X pins σ H s) (e:Rd H a (.dK kvs)) (h:∀ t s',Inv X pins σ H s'->Q (.int kvs.length t) s'):wpAny (model X.prog X.w) A (call (.builtin "len") [.ref a]) Q E s:=by
 obtain⟨z,hd,vs,rel,dd⟩:=nT I.hok e
 refine call_len_dict hd dd (by rw[←rel.length];rw[eL] at z;omega) ?_
 rw[←rel.length]
 exact h _ _ (I.tok _)
end


def HI (i:Expr):Prop:=∀ ov iv,subscripted i false ov iv=operate [ov,iv] (getItem ov iv)
theorem GW {prog:Program}{w:World}{A:Around}{E:Value->Shared->Prop}{s:Shared}{env:Env}{value slice:Expr}{pos:Pos}{T id:String}{Q:Value->Shared->Prop}
  (hl:typeLookup (.type T) "__getitem__"=pure (some (.builtin id))) (hs:HI slice)
  (h:wpAny (model prog w) A (eval value env) (fun o s₁=>wpAny (model prog w) A (eval slice env) (fun i s₂=>s₂.TypeIs o T/\wpAny (model prog w) A (getItem o i) Q E s₂) E s₁) E s) :
  wpAny (model prog w) A (eval (.Subscript value slice pos) env) Q E s:=by
 refine Subscript_ (bq h (fun o s₁ h₁=>bq h₁ (fun i s₂ h₂=>?_) fun _ _ x=>x) fun _ _ x=>x)
 obtain⟨hT,h₂⟩:=h₂
 unfold subscriptTail
 refine ar ?_
 rw[getitemInPython_of_ne hT.not_modules]
 refine ar (wpAny_specialOf hT hl ?_)
 have fin:wpAny (model prog w) A (subscripted slice false o i) (fun r s₃=>wpAny (model prog w) A (letTemporaryGo value o r >>= fun _=>pure r) Q E s₃) E s₂:=by
  rw[hs o i]
  exact wpAny_operating (bq h₂ (fun r s₃ h₃=>ar (wpAny_letTemporaryGo (aO h₃))) fun _ _ x=>x)
 first
  | exact aO (ar fin)
  | exact ar (aO (ar fin))
  | exact ar fin

theorem wD {o:Option V} (I:Inv X pins σ H s) (g:lj H a y o):s.TypeIs (.ref a) "dict":=by
 rcases g with ⟨kvs,k,e,_,_⟩ | ⟨kvs,k,b,e,_,_,_⟩
 ·obtain⟨_,_,vs,_,dd⟩:=nT I.hok e
  exact dd.typeIs
 ·obtain⟨_,_,xs,_,dd⟩:=ur I.hok e
  exact dd.typeIs
def EJ (td ty:TE):TE:=fun σ H Q=>td σ H fun x H1=>ty σ H1 fun y H2=>∃ a v,x=.ref a/\lj H2 a y (some v)/\Q v H2
def ED (td ty tv:TE):TS:=fun D σ H=>tv σ H fun v H1=>td σ H1 fun x H2=>ty σ H2 fun y H3=>∃ a H4,x=.ref a/\ya H3 a y v H4/\D.nx σ H4
section
variable {X:Cx}{o i e value:Expr}{pos pos' tpos:Pos}{td ty tv:TE}
theorem Gw (hu:X.A.units+1<cLine) (ho:PE X o td) (hi:PE X i ty) (hs:HI i):PE X (.Subscript o i pos) (EJ td ty):=by
 intro pins s σ H Q I h
 refine GW PySem.F.slot_dict_getitem.lookup hs (thn (ho pins s σ H _ I h) fun u s1 ⟨x,H1,I1,rx,q1⟩=>thn (hi pins s1 σ H1 _ I1 q1) fun iv s2 ⟨y,H2,I2,ry,a,v,ex,g,q2⟩=>?_)
 subst ex
 obtain rfl:u=Value.ref a:=rx
 exact⟨wD I2 g,Bn hu I2 g ry fun w' s3 I3 rw'=>⟨v,H2,I3,rw',q2⟩⟩
theorem GF (hu:X.A.units+1<cLine) (ho:PE X o td) (hi:PE X i ty) (hv:PE X value tv) (hs:swapsWith value (some (.Subscript o i pos')) pos.line X.env=pure false) :
  PS X (.Assign [.Subscript o i pos'] value pos) (ED td ty tv):=by
 intro pins s σ H D I h
 refine wpAny_Assign_Subscript (thn (hv pins s σ H _ I h) fun r s1 ⟨v,H1,I1,rv,q1⟩=>thn (ho pins s1 σ H1 _ I1 q1) fun u s2 ⟨x,H2,I2,rx,q2⟩=>thn (hi pins s2 σ H2 _ I2 q2) fun iv s3 ⟨y,H3,I3,ry,a,H4,ex,g,q3⟩=>?_) hs
 subst ex
 obtain rfl:u=Value.ref a:=rx
 exact Bo hu I3 g ry rv fun s4 I4=>⟨σ,H4,I4,q3⟩
end


theorem Dg (h:Heap) (hb:sysModules<h.objs.size):c8 P w H (h.push { cls:=.type "dict",data:=.dict #[] }) h.objs.size (.dK []) :=
 ⟨bN _,km.mpr (Ne.symm (bE hb)),[],.nil,Heap.DictOf.new h⟩
theorem Dh (h:Heap) (hb:sysModules<h.objs.size):c8 P w H (h.push { cls:=.type "dict",data:=.dict #[] }) h.objs.size (.dT []) :=
 ⟨bN _,km.mpr (Ne.symm (bE hb)),[],.nil,_,#[],0,bL _ rfl,⟨rfl,rfl,rfl⟩,rfl,rfl,List.nodup_nil⟩
def Js:TE:=fun _ H Q=>∀ p,H p=none->Q (.ref p) (upd H p (.dK []))
def Jt:TE:=fun _ H Q=>∀ p,H p=none->Q (.ref p) (upd H p (.dT []))
section
variable {X:Cx}{pos:Pos}
theorem En:PE X (.Dict [] [] pos) Js:=fun pins s σ H Q I h =>
 wpAny_Dict_empty ⟨.ref s.heap.objs.size,_,I.laid (a:=s.heap.objs.size) (o:=.dK []) (t':=s.toks) (fun _ _ q=>aW _ q) (aA _) (Dg s.heap I.big),rfl,h _ (I.hok.fresh (aA _))⟩
theorem Eo:PE X (.Dict [] [] pos) Jt:=fun pins s σ H Q I h =>
 wpAny_Dict_empty ⟨.ref s.heap.objs.size,_,I.laid (a:=s.heap.objs.size) (o:=.dT []) (t':=s.toks) (fun _ _ q=>aW _ q) (aA _) (Dh s.heap I.big),rfl,h _ (I.hok.fresh (aA _))⟩
end

structure M1 (X:Cx) (o:Expr) (m:Str) (apos:Pos) (e:Expr) (cpos:Pos):Prop where
 base:attributeBase o m X.env (eval o X.env)=eval o X.env
 few:((backTo cpos (starEach [e] X.env)).all (fun x=>!x.1)&&(backToKw cpos (keywordEach [] X.env)).all (fun x=>x.1.isSome)
  && decide (([e]:List Expr).length+([]:List Keyword).length+(if ([]:List Keyword).isEmpty then 0 else 1)<30))=true
 line:(apos.endLine==cpos.line)=true
 trees:backTo cpos (starEach [e] X.env)=[(false,eval e X.env)]
def IsD (H:Hp) (a:Addr):Prop:=(∃ kvs,Rd H a (.dK kvs))∨∃ kvs,Rd H a (.dT kvs)
theorem Iu (I:Inv X pins σ H s) (d:IsD H a) :
  s.TypeIs (.ref a) "dict"/\(∀ b,Value.ref a=.ref b->∃ ob,s.heap.get? b=some ob/\ob.dict=none)/\(a==sysModules)=false:=by
 rcases d with ⟨kvs,e⟩ | ⟨kvs,e⟩
 ·obtain⟨_,hd,vs,_,dd⟩:=nT I.hok e
  refine⟨dd.typeIs,fun b q=>?_,hd⟩
  cases q
  obtain⟨ob,_,_,h1,h2,_⟩:=dd
  exact⟨ob,h1,h2.2.1⟩
 ·obtain⟨_,hd,xs,_,dd⟩:=ur I.hok e
  refine⟨dd.typeIs,fun b q=>?_,hd⟩
  cases q
  obtain⟨ob,_,_,h1,h2,_⟩:=dd
  exact⟨ob,h1,h2.2.1⟩

section
variable {X:Cx}{pins:List (Addr×Obj)}{σ:St}{H:Hp}{s:Shared}{a:Addr}{y d:V}{u r:Value}{o:Option V}{A:Around}{E:Value->Shared->Prop}
theorem Ij (hu:A.units+1<cLine) (I:Inv X pins σ H s) (g:lj H a y o) (ry:RelV y u) (h:∀ w' s',Inv X pins σ H s'->RelV (o.getD .non) w'->Q w' s') :
  wpAny (model X.prog X.w) A (call (.builtin "dict.get") [.ref a,u]) Q E s:=by
 rcases g with ⟨kvs,k,e,ey,l⟩ | ⟨kvs,k,b,e,ey,eb,l⟩
 ·subst ey
  obtain⟨z,hd,vs,rel,dd⟩:=nT I.hok e
  refine call_meetsIn PySem.F.slot_dict_get dd.typeIs PySem.F.entry_dict_get (PySem.F.args_dict_get_2 _ _) (meets_dict_get (bH X.prog X.w) a (wW ry) hd) ⟨_,dd.mapOf,h _ _ (I.tok _) ?_⟩
  rw[l]
  exact (rel.val k).getD rfl
 ·subst ey
  cases (show u=Value.ref b from ry)
  obtain⟨z,hd,xs,rel,dd⟩:=ur I.hok e
  refine call_meetsIn PySem.F.slot_dict_get dd.typeIs PySem.F.entry_dict_get (PySem.F.args_dict_get_2 _ _) (meetsH_dict_get (tupleKind (bH X.prog X.w)) a b hd) ⟨tupleKind_room_in1 hu,k,xs,sj I.hok eb,dd,h _ _ (I.tok _) ?_⟩
  rw[l]
  exact (rel.val k).getD rfl
end

def zD (td ty:TE):TE:=fun σ H Q=>td σ H fun x H1=>∃ a,x=.ref a/\IsD H1 a/\ty σ H1 fun y H2=>∃ o,lj H2 a y o/\Q (o.getD .non) H2
section
variable {X:Cx}{o e f:Expr}{apos cpos:Pos}{td ty tx:TE}
theorem El (hu:X.A.units+1<cLine) (ho:PE X o td) (he:PE X e ty) (m:M1 X o "get" apos e cpos):PE X (.Call (.Attribute o "get" apos) [e] [] cpos) (zD td ty):=by
 intro pins s σ H Q I h
 refine wpAny_Call_method m.base m.few m.line PySem.F.plainAttrs_dict PySem.F.slot_dict_get PySem.F.type_dict_get (thn (ho pins s σ H _ I h) fun u s1 ⟨x,H1,I1,rx,a,ex,d,q1⟩=>?_)
 subst ex
 obtain rfl:u=Value.ref a:=rx
 obtain⟨t1,t2,_⟩:=Iu I1 d
 refine⟨t1,t2,?_⟩
 rw[m.trees]
 refine Calls.callWith_builtin rfl (pE (mR (thn (he pins s1 σ H1 _ I1 q1) fun iv s2 ⟨y,H2,I2,ry,ov,g,q2⟩=>Calls.spliced_nil ?_)))
 exact Ij hu I2 g ry fun w' s3 I3 rw'=>⟨_,H2,I3,rw',q2⟩
end

section
variable {X:Cx}{pins:List (Addr×Obj)}{σ:St}{H:Hp}{s:Shared}{a:Addr}{kvs:List (Key×V)}{A:Around}{E:Value->Shared->Prop}
end


section
variable {X:Cx}{pins:List (Addr×Obj)}{σ:St}{H:Hp}{s:Shared}{a:Addr}{y:V}{u:Value}{A:Around}{E:Value->Shared->Prop}
end
end
end L2


namespace Att
open PySem PySem.W PySem.Calls PyProof.Rows
variable {P:Params}{h:Heap}

theorem qN :∀ (ns:List Int) (vs:List Value),WellAll P h vs (ns.map WData.int)->IntsAre vs ns:=by
 intro ns
 induction ns with
 | nil =>
  intro vs w
  rw[List.map_nil] at w
  cases w
  exact .nil
 | cons n ns ih =>
  intro vs w
  rw[aQ] at w
  cases w with
  | cons a b =>
   cases a
   exact .cons _ _ (ih _ b)

theorem Cn {l:OpenLaw}{n:Nat} (hn:l.most=some n) {P:Params}{h:Heap}{args:List WData}{vals:List Value}
  (hpre:l.row.toRowW.claim.pre args=true) (hwl:WellAll P h vals args) :
  ∃ a vs ns,vals=[Value.ref a]/\args=[WData.list (ns.map WData.int)]/\h.get? a=some { cls:=.type "list",data:=.seq vs.toArray }/\IntsAre vs ns/\ns.length<=n:=by
 have hsh:WShape.hasAll [] args [.list .int]=true:=(pre_splitW hpre).1
 have hc:l.pre.holds [] { args:=args }=true:=(pre_splitW hpre).2
 obtain⟨d,r,rfl,h1,h2⟩:=hasAllW_cons hsh
 obtain rfl:=hasAllW_nil h2
 obtain⟨xs,rfl,h3⟩:=hasW_list h1
 obtain⟨ns,rfl⟩:=items_int h3
 have hlen:ns.length<=n:=by
  unfold OpenLaw.pre at hc
  have h4:(WTm.not (.lt (.lit (.int (n:Int))) (.len (.arg 0)))).holds [] { args:=[.list (ns.map .int)] }=true:=by
   have h4:=(holds_andW hc).1
   rw[hn] at h4
   exact h4
  have h5:=condW_of h4 (w_not (w_lt w_lit (w_len_list (w_arg rfl))))
  rw[aj] at h5
  refine Nat.le_of_not_lt fun q=>?_
  have q':(n:Int)<((ns.length:Nat):Int):=by omega
  first
   | (rw[aC q'] at h5;exact absurd h5 (by decide))
   | (simp at h5;omega)
 cases hwl with
 | cons w1 w2 =>
  cases w2
  cases w1 with
  | list ho hall=>exact⟨_,_,ns,rfl,rfl,ho,qN ns _ hall,hlen⟩

theorem Cg (l:OpenLaw) (args:List WData):l.row.toRowW.claim.post args (.bool true) args=true :=
 postW_of (r:=l.row.toRowW) (X:=(true==true))
  (show WShape.has [] (.bool true) .bool=true by first | rfl | decide | simp [WShape.has,WShape.arms,WShape.armsAll])
  (show (WTm.eq .res (.lit (.bool true))).value [] { args:=args,res:=some (.bool true),after:=args }=some (.bool (true==true)) from w_eq_bool (w_res rfl) w_lit) rfl

theorem wx {l:OpenLaw}{n:Nat}{q:Program}{loose:List Str}{XP:(Str->Option Value)->Heap->Prop}{YP:World->Heap->Prop}{d:DefRec}
  (hn:l.most=some n) (hdf:d.params.defaults=[])
  (call:∀ (w:World) (s₀ s₁:Shared) (mg mb:Str->Option Value) (fa:Addr) (o:Obj) (pm cd doc:Value) (a:Addr) (vs:List Value) (ns:List Int),
   Ground q loose [] XP w s₀ mg mb s₁.heap->YP w s₁.heap →
   s₁.heap.get? fa=some o->o.data=.func (docDef d.name d.params d.body d.scope pm cd doc)->s₁.heap.CodeRec cd d.name->mg d.name=some (.ref fa) →
   s₁.heap.get? a=some { cls:=.type "list",data:=.seq vs.toArray }->IntsAre vs ns->ns.length<=n->s₁.gens=#[] →
   codeAny (model l.prog w) callerA (.call (.ref fa) ⟨[.ref a],[]⟩) (fun r s'=>r=.ok (.ret (.bool true))/\OldK s₁.heap s'.heap/\s'.os=s₁.os/\AllBare s'.gens) s₁) :
  WalkO q loose XP YP l.row.toRowW d [] (fun f vs=>PySem.call f vs):=by
 intro w s₀ s₁ mg mb G Y fa o pm cd doc dV kV ho hd hcd hD hmg hg args vals as hpre hlay hrd hwl hlo
 obtain rfl:dV=.none:=Dflts.none hD hdf
 obtain rfl:kV=.none:=Dflts.noKw hD
 obtain⟨a,vs,ns,rfl,rfl,hobj,hints,hlen⟩:=Cn hn hpre hwl
 refine enter_call (codeAny_mono (call w s₀ s₁ mg mb fa o pm cd doc a vs ns G Y ho (fd_plain hd) hcd hmg hobj hints hlen hg) fun r s' hq=>?_)
 obtain⟨rfl,h2,h3,h4⟩:=hq
 exact⟨.inl ⟨.bool true,.bool true,[],rfl,fun _=>rfl,.bool true,Cg l _,fun _=>⟨List.Pairwise.nil,fun _ hm=>(nomatch hm)⟩⟩,h2,h3,h4⟩

section
variable {prog:Program}{w:World}{A:Around}{E:Value->Shared->Prop}{s:Shared}{K:Frag}

def ledger (h:Heap) (L d:Addr):List (Addr×Obj):=(List.range h.objs.size).filterMap fun a=>if a=L∨a=d then none else (h.get? a).map fun o=>(a,o)
end
end Att

namespace L2
open PySem PySem.Spec PyProof.Rows
variable {A:Around}{f:Addr}{fd:FuncData}{st:Stmt}
section

theorem uM:∀ {vs:List Value}{ns:List Int},IntsAre vs ns->Vals (ns.map V.int) vs
 | _,_,.nil=>.nil
 | _,_,.cons n t h=>.cons ⟨t,rfl⟩ (uM h)

end
section

end
section

def inClass (s:Stmt) (j:Nat):Stmt:=match s with
 | .ClassDef _ _ _ body _ _ _ _ _ _ _=>body.getD j (.Pass ⟨0,0,0,0⟩)
 | _=>.Pass ⟨0,0,0,0⟩
def dD (s:Stmt):Arguments:=match s with
 | .FunctionDef _ a _ _ _ _ _ _ _ _=>a
 | _=>{ posonlyargs:=[],args:=[],vararg:=none,kwonlyargs:=[],kw_defaults:=[],kwarg:=none,defaults:=[] }
def cE (s:Stmt):List Stmt:=match s with
 | .FunctionDef _ _ b _ _ _ _ _ _ _=>b
 | _=>[]
def ay (s:Stmt):Scope:=match s with
 | .FunctionDef _ _ _ _ _ _ sc _ _ _=>sc
 | _=>{ kind:=.function,names:=[],isGenerator:=false,isCoroutine:=false }

abbrev CX0:CXT:=fun _ _ _ _ _ _=>False
abbrev E0:St->XK:=fun _ _ _ _=>False
structure Fun (K:PySem.W.Frag) (x qual:Str) (st:Stmt) (f:Addr) (fd:FuncData):Prop where
 ex:∃ (oc:Value) (od:Option Addr) (kV doc pm:Value) (an:Option Addr) (cdv ct:Value) (osl:Array (Option Value)),
  fd=PySem.W.fnOf x qual (dD st) (cE st) (ay st) .none kV doc pm an cdv ct/\K.lookup f=some ⟨oc,od,.func fd,osl⟩/\PySem.W.codeIn K cdv qual=true
 kp:PySem.W.keepIn K (.ref f)=true
section
variable {P:Program}{w:World}{K:PySem.W.Frag}{mg:Str->Option Value}{base:Heap}
theorem Fun.ok {x qual:Str}{N ps:List Str}{k:Nat}{sp:Sp} (F:Fun K x qual st f fd) (S:aL N ps (ay st)) (len:∀ vs H Q E,sp vs H Q E->vs.length=ps.length)
  (hbody:∀ (cdv:Value) (A:Around) (outer:List Env) (s:Shared) (H:Hp) (vs:List V) (Q:VK) (E:XK),dI k (A.deeper (envOfC qual (ay st) s.heap.objs.size f cdv))->sp vs H Q E →
   ∃ t,PSs (nR CX0 P w K mg base N qual (ay st) f cdv A outer s H E).nox (cE st) t/\t { nx:=fun _ H'=>Q .non H',rt:=Q } (start N vs) H):bI P w K mg base CX0 (k+1) f fd ps sp:=by
 obtain⟨oc,od,kV,doc,pm,an,cdv,ct,osl,rfl,lk,hcd⟩:=F.ex
 refine uw lk hcd S len fun A outer s H vs Q E hr hsp=>?_
 obtain⟨t,h,q⟩:=hbody cdv A outer s H vs Q E hr hsp
 exact⟨t,h.nox,q⟩
theorem Fun.binds {x qual:Str}{ps:List Str} (F:Fun K x qual st f fd)
  (h:∀ (kV doc pm:Value) (an:Option Addr) (cdv ct:Value) (us:List Value),us.length=ps.length->bindArgs (PySem.W.fnOf x qual (dD st) (cE st) (ay st) .none kV doc pm an cdv ct) ⟨us,[]⟩=pure (ps.zip us)):Binds K fd ps []:=by
 obtain⟨oc,od,kV,doc,pm,an,cdv,ct,osl,rfl,lk,hcd⟩:=F.ex
 exact .all (h kV doc pm an cdv ct)
theorem rV {x qual:Str}{oc:Value}{od an:Option Addr}{osl:Array (Option Value)}{kV doc pm cdv ct:Value} (l:K.lookup f=some ⟨oc,od,.func (PySem.W.fnOf x qual (dD st) (cE st) (ay st) .none kV doc pm an cdv ct),osl⟩)
  (c:PySem.W.codeIn K cdv qual=true) (k:PySem.W.keepIn K (.ref f)=true):Fun K x qual st f (PySem.W.fnOf x qual (dD st) (cE st) (ay st) .none kV doc pm an cdv ct):=⟨⟨oc,od,kV,doc,pm,an,cdv,ct,osl,rfl,l,c⟩,k⟩
end
theorem qp {k:Nat} (hr:dI k A):A.units+1<cLine:=gw (Nat.add_le_add_left (by decide:1<=64) _) hr.units
section
variable {X:Cx}
theorem pv (i:Nat) {x:Str}{pos:Pos} (hN:X.N[i]?=some x:=by rfl) (hv:Vis X.env.scope x:=by first | exact Or.inl rfl | exact Or.inr (Or.inl rfl) | exact Or.inr (Or.inr rfl)) (hd:(x==("__debug__":Str))=false:=by decide)
  (hcd:(x==("__classdict__":Str))=false:=by decide):PE X (.Name x pos) (tN i):=ze hN hv hd hcd
end

def aD (H H':Hp):Prop:=∀ b o,H b=some o->H' b=some o
theorem aD.refl (H:Hp):aD H H:=fun _ _ h=>h
theorem aD.trans {H H1 H2:Hp} (a:aD H H1) (b:aD H1 H2):aD H H2:=fun c o h=>b c o (a c o h)
theorem aD.free {H H':Hp} (e:aD H H') {l:Addr} (h:H' l=Option.none):H l=Option.none:=by
 cases q:H l with
 | none=>rfl
 | some o =>
  rw[e l o q] at h
  cases h
theorem aD.seq {K:PySem.W.Frag}{H H':Hp}{a:Addr}{xs:List V} (e:aD H H') (h:SqL K H a xs):SqL K H' a xs:=by
 rcases h with (h | ⟨o,h⟩) | h
 ·exact .inl (.inl (e _ _ h))
 ·exact .inl (.inr ⟨o,e _ _ h⟩)
 ·exact .inr h

end
section
section
variable {κ:Type} [DecidableEq κ]
theorem vp:∀ {l:List κ}{k:κ},l.Nodup->¬ k∈l->(l++[k]).Nodup
 | [],k,_,_=>by simp
 | a::r,k,h,hk=>by
  obtain⟨h1,h2⟩:=gu.mp h
  show (a::(r++[k])).Nodup
  refine gu.mpr ⟨fun m=>?_,vp h2 fun m=>hk (aH.mpr (Or.inr m))⟩
  rcases bw.mp m with q | q
  ·exact h1 q
  ·exact hk (aH.mpr (Or.inl (bt.mp q).symm))
end
end
section
def uO (o:Option Value) (H:Hp):Prop:=o=none∨∃ ea φ,o=some (Value.ref ea)/\H ea=some (HO.ext φ)/\∀ h:Heap,φ h->∃ ob vs,h.get? ea=some ob/\ob.data=.fields vs/\vs[2]?=some Value.none
structure i8 (k:Nat) (A:Around):Prop where
 dp:A.depth+3*k+5<recursionLimit
 un:A.units+16*k+200<cLine
theorem i8.mono {j k:Nat} (r:i8 k A) (h:j<=k):i8 j A:=⟨by have:=r.dp;omega,by have:=r.un;omega⟩
theorem i8.deeper {k:Nat}{A:Around} (r:i8 (k+1) A) (env:Env):i8 k (A.deeper env):=⟨by have:=r.dp;show A.depth+1+3*k+5<_;omega,by have:=r.un;show A.units+3+16*k+200<_;omega⟩
theorem i8.depth {k:Nat}{A:Around} (r:i8 k A):A.depth<recursionLimit:=by have:=r.dp;omega
theorem i8.kP {k:Nat} (r:i8 k A):A.units<cLine:=by have:=r.un;omega
theorem dI.n {k:Nat} (r:dI k A):i8 k A:=⟨r.dp,r.un⟩
structure CA (P:Program) (w:World) (K:PySem.W.Frag) (mg:Str->Option Value) (base:Heap) (CX:CXT) (k:Nat) (f:Addr) (fd:FuncData) (ps:List Str) (sp:Sp):Prop where
 len:∀ vs H Q E,sp vs H Q E->vs.length=ps.length
 run:∀ (A:Around) (outer:List Env) (s:Shared) (H:Hp) (args:Args) (us:List Value) (vs:List V) (Q:VK) (E:XK),i8 k A->uO A.handled H->rD P w K mg base A outer s H->BindsTo s fd args (ps.zip us)->Vals vs us->sp vs H Q E →
  codeAny (model P w) A (.call (.ref f) args) (CR CX outer P w H s Q E) s
section
variable {X:Cx}{CX:CXT}{k:Nat}{f C:Addr}{fd:FuncData}{ps:List Str}{sp:Sp}{dvs:List V}{ds:List Value}{E:St->XK}{x m:Str}{p pos apos:Pos}{e o:Expr}{es:List Expr}{ta:TE}{t:TA}
end
end
end L2
set_option Elab.async false
set_option linter.all false
set_option maxRecDepth 100000
set_option maxHeartbeats 4000000
set_option exponentiation.threshold 2000
namespace Mk
variable {al:List Nat}{m:Int}{p:Int}{x:Int}
section
def cop (m n:Int):Bool:=decide (Int.gcd n m=1)
def dif (ws:List Int):List Int:=(ws.zip (ws.drop 1)).map fun p=>p.2-p.1
def safe (m:Int) (ws:List Int):Bool:=(ws++dif ws).all (cop m)
theorem iG {ws:List Int}:safe m ws=true↔(∀ w∈ws,cop m w=true)/\∀ (j:Nat) a b,ws[j]?=some a->ws[j+1]?=some b->cop m (b-a)=true:=by
 unfold safe
 rw[List.all_append,bS,bM,bM]
 refine and_congr Iff.rfl ⟨fun h j a b ha hb=>?_,fun h x hx=>?_⟩
 ·refine h (b-a) (aM.mpr ⟨(a,b),?_,rfl⟩)
  refine br (i:=j) ?_
  rw[List.getElem?_zip_eq_some]
  exact⟨ha,by rw[mw,Nat.add_comm];exact hb⟩
 ·unfold dif at hx
  obtain⟨⟨a,b⟩,hp,rfl⟩:=aM.mp hx
  obtain⟨j,hj⟩:=List.getElem?_of_mem hp
  rw[List.getElem?_zip_eq_some] at hj
  exact h j a b hj.1 (by have:=hj.2;rw[mw,Nat.add_comm] at this;exact this)
def big:Int:=314159265358979323846264338327950288419716939937510582097494
def ofN (n:Nat):List Int:=(List.range n).map fun (k:Nat)=>(k:Int)
theorem Gh (n:Nat):(ofN n).length=n:=by simp [ofN]
theorem mJ {n:Nat}:x∈ofN n↔0<=x/\x<n:=by
 unfold ofN
 rw[aM]
 constructor
 ·rintro⟨k,hk,rfl⟩
  have:=gm.mp hk
  omega
 ·rintro⟨h1,h2⟩
  exact⟨x.toNat,gm.mpr (by omega),by omega⟩
def CY (m:Int) (found:List Int):List Int:=(ofN m.toNat).filter fun w=>cop m w&&(found.isEmpty||cop m (w-found.getLastD 0))
def Kq (m:Int) (found:List Int):List Int:=if CY m found=[] then ofN m.toNat else CY m found
def HG (m:Int):Nat->Int->List Int->List Int
 | 0,_,found=>found
 | n+1,c,found=>HG m n (c/7) (found++[(Kq m found).getD (c%((Kq m found).length:Int)).toNat 0])
def wts (c m:Int) (n:Nat):List Int:=HG m n c []
def JT (m:Int):Nat->Int->List Int
 | 0,_=>[]
 | n+1,c=>c%m::JT m n (c/31)
def w1 (n m:Int):List Int:=wts (n/100) m (3+n%6).toNat
def w2 (n m:Int):List Int:=if n/6%4=1 then (w1 n m).set (n/24%((w1 n m).length:Int)).toNat (n/200%m) else w1 n m
def w3 (n m:Int):List Int:=if n/6%4=2 then JT m (w2 n m).length (n/100) else w2 n m
def w4 (n m:Int):List Int:=if n/6%4=3/\n/24%2=1 then List.replicate (w3 n m).length (n/48%m) else w3 n m
def JD (k:Nat):Int:=if k%2=0 then 1 else 2
def alt (n:Nat):List Int:=(List.range n).map JD
theorem Bk:∀ m:Nat,m<27->3<=m->cop (m:Int) 0=false/\cop (m:Int) 1=true/\cop (m:Int) (-1)=true/\cop (m:Int) 2=decide (m%2=1):=by decide +kernel
def fits (m:Int) (ws:List Int):List Int:=(ofN m.toNat).filter fun w=>safe m (ws.drop (ws.length-1)++[w])
end
section
def dot:List Int->List Int->Int
 | a::r,b::t=>a*b+dot r t
 | _,_=>0
theorem Ab:∀ (ws ps:List Int),((ws.zip ps).map fun p=>p.1*p.2).sum=dot ws ps
 | [],_=>by simp [dot]
 | _::_,[]=>by simp [dot]
 | a::r,b::t=>by rw[List.zip_cons_cons,aQ,fb,Ab r t];rfl
theorem wF:∀ (ws ps:List Int) (a b:Int),ws.length=ps.length->dot (ws++[a]) (ps++[b])=dot ws ps+a*b
 | [],[],a,b,_=>by simp [dot]
 | [],_::_,_,_,h=>by simp at h
 | _::_,[],_,_,h=>by simp at h
 | x::r,y::t,a,b,h=>by
  show x*y+dot (r++[a]) (t++[b])=x*y+dot r t+a*b
  rw[wF r t a b (by simpa using h),Int.add_assoc]
def plc (al w:List Nat):List Int:=w.map fun c=>((al.idxOf c:Nat):Int)
def dJ (al:List Nat) (n:Int) (z:List Nat):Bool:=decide ((z.length:Int)=n)&&z.all fun c=>decide (c∈al)
def good (m:Int) (ws:List Int) (r:Int) (ps:List Int):Bool:=decide ((dot ws ps-r)%m=0)
def fe (al:List Nat) (ws:List Int) (r:Int) (z:List Nat):Bool:=dJ al ws.length z&&good al.length ws r (plc al z)
def gC (al:List Nat) (ps:List Int):List Nat:=ps.map fun p=>al.getD p.toNat 0
theorem qh (al:List Nat) (ps:List Int):(gC al ps).length=ps.length:=by simp [gC]
theorem AD (al w:List Nat):(plc al w).length=w.length:=by simp [plc]
theorem getD_at (h:0<=p/\p<al.length):al[p.toNat]?=some (al.getD p.toNat 0):=by
 rw[cU,bu (by omega)];rfl
theorem getD_mem (h:0<=p/\p<al.length):al.getD p.toNat 0∈al:=br (getD_at h)
theorem ux (nd:al.Nodup) {i c:Nat} (h:al[i]?=some c):al.idxOf c=i:=by
 obtain⟨hi,e⟩:=b9.mp h
 subst e
 exact List.Nodup.idxOf_getElem nd i hi
theorem pW {al:List Nat} (nd:al.Nodup):∀ {ps:List Int},(∀ p∈ps,0<=p/\p<al.length)->plc al (gC al ps)=ps
 | [],_=>rfl
 | p::r,h=>by
  show ((al.idxOf (al.getD p.toNat 0):Nat):Int)::plc al (gC al r)=p::r
  rw[pW nd (fun q hq=>h q (bb _ hq)),ux nd (getD_at (h p aR))]
  rw[md (h p aR).1]
theorem vM {al w:List Nat} (h:∀ c∈w,c∈al):∀ p∈plc al w,0<=p/\p<al.length:=by
 intro p hp
 obtain⟨c,hc,rfl⟩:=aM.mp hp
 exact⟨Int.natCast_nonneg _,by exact_mod_cast mx (h c hc)⟩
theorem uJ {al:List Nat}:∀ {w:List Nat},(∀ c∈w,c∈al)->gC al (plc al w)=w
 | [],_=>rfl
 | c::r,h=>by
  show al.getD ((al.idxOf c:Nat):Int).toNat 0::gC al (plc al r)=c::r
  rw[uJ (fun q hq=>h q (bb _ hq)),Int.toNat_natCast,cU]
  have hi:=mx (h c aR)
  rw[bu hi,List.getElem_idxOf];rfl
theorem zA {ps:List Int} (h:∀ p∈ps,0<=p/\p<al.length):dJ al ps.length (gC al ps)=true:=by
 unfold dJ
 rw[qh,aC rfl,fG,bM]
 intro c hc
 obtain⟨p,hp,rfl⟩:=aM.mp hc
 exact aC (getD_mem (h p hp))
theorem yQ {n:Int}{z:List Nat}:dJ al n z=true↔(z.length:Int)=n/\∀ c∈z,c∈al:=by
 unfold dJ
 rw[bS,bP,bM]
 refine and_congr Iff.rfl ⟨fun h c hc=>gy (h c hc),fun h c hc=>aC (h c hc)⟩
def sml (xs:List Int):Prop:=∀ x∈xs,0<=x/\x<1000
theorem Jr {xs:List Int} (h:∀ x∈xs,0<=x/\x<m) (hm:m<=1000):sml xs:=fun x hx=>⟨(h x hx).1,Int.lt_of_lt_of_le (h x hx).2 hm⟩
theorem yP {ws ps:List Int}{r:Int} (nd:al.Nodup) (hl:ps.length=ws.length) (h:∀ p∈ps,0<=p/\p<al.length):fe al ws r (gC al ps)=good al.length ws r ps:=by
 unfold fe
 rw[pW nd h,←hl,zA h,fG]
end
section
def iX (m:Int):Nat->Int->List Int
 | 0,_=>[]
 | n+1,k=>iX m n (k/m)++[k%m]
theorem jO (m:Int):∀ (n:Nat) (k:Int),(iX m n k).length=n
 | 0,_=>rfl
 | n+1,k=>by unfold iX;rw[ah,jO];rfl
theorem rR {m:Int} (hm:0<m):∀ (n:Nat) (k:Int),∀ x∈iX m n k,0<=x/\x<m
 | 0,_,x,h=>by cases h
 | n+1,k,x,h=>by
  unfold iX at h
  rcases bw.mp h with h | h
  ·exact rR hm n _ x h
  ·rw[bt.mp h];exact⟨cA _ (by omega),df _ hm⟩
theorem uv {m:Int} (hm:0<m):∀ (n:Nat) (k:Int),iX m (n+1) k=(k/m^n)%m::iX m n k
 | 0,k=>by simp [iX]
 | n+1,k=>by
  show iX m (n+1) (k/m)++[k%m]=_
  rw[uv hm n (k/m),oV (eV hm),←Int.pow_succ']
  rfl
def numOf (m:Int) (ps:List Int):Int:=ps.foldl (fun k p=>k*m+p) 0
theorem k7 (m:Int) (ps:List Int) (p:Int):numOf m (ps++[p])=numOf m ps*m+p:=by unfold numOf;rw[List.foldl_append];rfl
theorem sy {m:Int} (hm:0<m):∀ (n:Nat) (k:Int),0<=k->k<m^n->numOf m (iX m n k)=k
 | 0,k,h0,h1=>by
  have:k=0:=by simp at h1;omega
  subst this;rfl
 | n+1,k,h0,h1=>by
  unfold iX
  rw[k7,sy hm n (k/m) (ma h0 (eV hm)) (Int.ediv_lt_of_lt_mul hm (by rw[←Int.pow_succ];exact h1))]
  have:=oW k m
  rw[Int.mul_comm];exact this
theorem oj (hm:0<m):∀ (ps:List Int),(∀ p∈ps,0<=p/\p<m)->0<=numOf m ps/\numOf m ps<m^ps.length:=by
 intro ps
 rw[←List.reverse_reverse ps]
 generalize ps.reverse=rs
 induction rs with
 | nil=>intro _;simp [numOf]
 | cons a r ih =>
  intro h
  rw[List.reverse_cons] at h ⊢
  have ih:=ih fun p hp=>h p (fA _ hp)
  have ha:=h a (eJ _ aR)
  rw[k7,ah,gY,Int.pow_succ]
  refine⟨Int.add_nonneg (Int.mul_nonneg ih.1 (eV hm)) ha.1,?_⟩
  have h2:(numOf m r.reverse+1)*m<=m^r.reverse.length*m:=Int.mul_le_mul_of_nonneg_right (by omega) (eV hm)
  rw[Int.add_mul,Int.one_mul] at h2
  omega
theorem yM (hm:0<m):∀ (ps:List Int),(∀ p∈ps,0<=p/\p<m)->iX m ps.length (numOf m ps)=ps:=by
 intro ps
 rw[←List.reverse_reverse ps]
 generalize ps.reverse=rs
 induction rs with
 | nil=>intro _;rfl
 | cons a r ih =>
  intro h
  rw[List.reverse_cons] at h ⊢
  have ih:=ih fun p hp=>h p (fA _ hp)
  have ha:=h a (eJ _ aR)
  rw[k7,ah,gY]
  unfold iX
  have e1:(numOf m r.reverse*m+a)/m=numOf m r.reverse:=by
   rw[Int.add_comm,Int.add_mul_ediv_right _ _ (by omega),Int.ediv_eq_zero_of_lt ha.1 ha.2,Int.zero_add]
  have e2:(numOf m r.reverse*m+a)%m=a:=by
   rw[Int.add_comm,Int.add_mul_emod_self_right,Int.emod_eq_of_lt ha.1 ha.2]
  rw[e1,e2,ih]
theorem BJ:∀ m:Nat,m<27->0<m->∀ w:Nat,w<m->Nat.gcd w m=1->∃ v:Nat,v<m/\(w*v)%m=1%m:=by decide +kernel
theorem Ir {m w:Int} (h0:0<m) (h26:m<=26) (hw:0<=w/\w<m) (hc:cop m w=true):∃ v t:Int,w*v=1+m*t:=by
 obtain⟨M,rfl⟩:=cC (eV h0)
 obtain⟨W,rfl⟩:=cC hw.1
 have hg:Nat.gcd W M=1:=gy hc
 obtain⟨v,_,e⟩:=BJ M (by omega) (by omega) W (by omega) hg
 refine⟨v,((W*v:Nat):Int)/(M:Int)-(1:Int)/(M:Int),?_⟩
 have e1:=oW ((W*v:Nat):Int) (M:Int)
 have e2:=oW (1:Int) (M:Int)
 have e3:((W*v:Nat):Int)%(M:Int)=(1:Int)%(M:Int):=by exact_mod_cast e
 rw[e3] at e1
 rw[Int.mul_sub]
 have e4:((W*v:Nat):Int)=(W:Int)*(v:Int):=by push_cast;rfl
 omega
def Ao (m:Int) (ws:List Int) (r:Int) (ps:List Int):List Int:=(ofN m.toNat).filter fun x=>good m ws r (ps++[x])
def qr (m:Int) (ws:List Int) (r:Int) (ps:List Int):Int:=(Ao m ws r ps).headD 0
theorem BF {m w r x:Int}{ws ps:List Int} (hl:ws.length=ps.length):good m (ws++[w]) r (ps++[x])=decide ((dot ws ps+w*x-r)%m=0):=by
 unfold good;rw[wF _ _ _ _ hl]
theorem Eb {m w r:Int}{ws ps:List Int} (h0:0<m) (h26:m<=26) (hw:0<=w/\w<m) (hc:cop m w=true) (hl:ws.length=ps.length):∃ x,0<=x/\x<m/\∀ y,0<=y->y<m->(good m (ws++[w]) r (ps++[y])=true↔y=x):=by
 obtain⟨v,t,hv⟩:=Ir h0 h26 hw hc
 have hx0:=cA ((r-dot ws ps)*v) (show m≠0 by omega)
 have hx1:=df ((r-dot ws ps)*v) h0
 have hq:=oW ((r-dot ws ps)*v) m
 generalize ((r-dot ws ps)*v)%m=x at hx0 hx1 hq
 generalize ((r-dot ws ps)*v)/m=q at hq
 generalize hd:dot ws ps=d at hq
 refine⟨x,hx0,hx1,fun y hy0 hy1=>?_⟩
 rw[BF hl,bP,hd]
 constructor
 ·intro h
  obtain⟨s,hs⟩:=Int.dvd_of_emod_eq_zero h
  have key:y-x=m*(v*s-t*y+q):=by grind
  have hb:-m<y-x/\y-x<m:=by omega
  generalize v*s-t*y+q=z at key
  have hz:z=0:=by
   rcases Int.lt_trichotomy z 0 with hz | hz | hz
   ·have:m*z<=m*(-1):=Int.mul_le_mul_of_nonneg_left (by omega) (eV h0)
    omega
   ·exact hz
   ·have:m*1<=m*z:=Int.mul_le_mul_of_nonneg_left (by omega) (eV h0)
    omega
  rw[hz,Int.mul_zero] at key
  omega
 ·intro h
  subst h
  have:d+w*y-r=m*(t*(r-d)-w*q):=by grind
  rw[this]
  exact Int.mul_emod_right _ _
theorem yN {l:List Int} (hn:l.Nodup) {p:Int->Bool} (hx:x∈l) (h:∀ y∈l,(p y=true↔y=x)):l.filter p=[x]:=by
 induction l with
 | nil=>cases hx
 | cons a r ih =>
  rw[gu] at hn
  rw[List.filter_cons]
  by_cases e:a=x
  ·subst e
   rw[ao ((h a aR).mpr rfl)]
   congr 1
   rw[List.filter_eq_nil_iff]
   intro y hy hp
   exact hn.1 ((h y (bb _ hy)).mp hp ▸ hy)
  ·rw[ai (fun z=>e ((h a aR).mp z))]
   refine ih hn.2 ?_ fun y hy=>h y (bb _ hy)
   rcases aH.mp hx with z | z
   ·exact absurd z.symm e
   ·exact z
theorem BX (n:Nat):(ofN n).Nodup:=by
 unfold ofN
 refine List.pairwise_map.mpr (List.Pairwise.imp ?_ List.pairwise_lt_range)
 intro a b h e
 omega
theorem mH {m r:Int}{ws ps:List Int} (h0:0<m) (h26:m<=26) (hm:∀ x∈ws,0<=x/\x<m) (hc:∀ x∈ws,cop m x=true) (hl:ps.length+1=ws.length) :
  Ao m ws r ps=[qr m ws r ps]/\0<=qr m ws r ps/\qr m ws r ps<m/\∀ y,0<=y->y<m->(good m ws r (ps++[y])=true↔y=qr m ws r ps):=by
 have hne:ws≠[]:=fun e=>by rw[e] at hl;simp at hl
 obtain⟨wi,w,rfl⟩:∃ wi w,ws=wi++[w]:=⟨ws.dropLast,ws.getLast hne,(oX hne).symm⟩
 have hl2:wi.length=ps.length:=by simp at hl;omega
 obtain⟨x,x0,x1,hx⟩:=Eb (r:=r) h0 h26 (hm w (by simp)) (hc w (by simp)) hl2
 have e:Ao m (wi++[w]) r ps=[x]:=by
  unfold Ao
  refine yN (BX _) (mJ.mpr ⟨x0,by omega⟩) fun y hy=>?_
  have:=mJ.mp hy
  exact hx y this.1 (by omega)
 have e2:qr m (wi++[w]) r ps=x:=by unfold qr;rw[e];rfl
 rw[e2]
 exact⟨e,x0,x1,hx⟩
def ir (m:Int) (ws:List Int) (r k:Int):List Int:=iX m (ws.length-1) k++[qr m ws r (iX m (ws.length-1) k)]
end
section
theorem Cm {m x:Int}{l:List Int} (h:safe m l=true) (hx:cop m x=true) (hl:l=[]∨cop m (x-l.getLastD 0)=true):safe m (l++[x])=true:=by
 rw[iG] at h ⊢
 refine⟨fun w hw=>?_,fun j a b ha hb=>?_⟩
 ·rcases bw.mp hw with hw | hw
  ·exact h.1 w hw
  ·rw[bt.mp hw];exact hx
 ·by_cases h1:j+1<l.length
  ·rw[gi (by omega)] at ha
   rw[gi h1] at hb
   exact h.2 j a b ha hb
  ·have hj:=(b9.mp hb).1
   rw[ah,gY] at hj
   have e:j+1=l.length:=by omega
   rw[gi (by omega)] at ha
   rw[gj (by omega),e,Nat.sub_self] at hb
   have hne:l≠[]:=fun e2=>by rw[e2] at e;simp at e
   have e3:l.getLastD 0=a:=by
    rw[List.getLastD_eq_getLast?,List.getLast?_eq_getElem?,show l.length-1=j by omega,ha];rfl
   have e4:x=b:=by simpa using hb
   subst e4
   rw[←e3]
   exact hl.resolve_left hne
theorem DW:∀ m:Nat,m<27->3<=m->m%2=1->∀ w:Nat,w<m->cop (m:Int) (w:Int)=true->(cop (m:Int) (((2*w)%m:Nat):Int)&&cop (m:Int) ((((2*w)%m:Nat):Int)-(w:Int)))=true:=by decide +kernel
theorem CZ (h3:3<=m) (h26:m<=26) (ho:m%2=1) {l:List Int} (hb:∀ x∈l,0<=x/\x<m) (hc:∀ x∈l,cop m x=true):CY m l≠[]:=by
 obtain⟨M,rfl⟩:=cC (show 0<=m by omega)
 intro e
 unfold CY at e
 rw[List.filter_eq_nil_iff] at e
 by_cases hl:l=[]
 ·subst hl
  exact e 1 (mJ.mpr ⟨by decide,by omega⟩) (by rw[(Bk M (by omega) (by omega)).2.1];rfl)
 ·have hm:l.getLastD 0∈l:=by
   rw[List.getLastD_eq_getLast?,List.getLast?_eq_some_getLast hl]
   exact List.getLast_mem hl
  have h1:=hb _ hm
  have h2:=hc _ hm
  generalize l.getLastD 0=w at e h1 h2
  obtain⟨W,rfl⟩:=cC h1.1
  have h4:=DW M (by omega) (by omega) (by omega) W (by omega) h2
  rw[bS] at h4
  refine e (((2*W)%M:Nat):Int) (mJ.mpr ⟨by omega,?_⟩) ?_
  ·have:=Nat.mod_lt (2*W) (show 0<M by omega)
   omega
  ·rw[h4.1,h4.2,Bool.or_true];rfl
section
variable {m r k:Int}{ws:List Int} (h0:0<m) (h26:m<=26) (hm:∀ x∈ws,0<=x/\x<m) (hs:safe m ws=true) (hl:1<=ws.length)
theorem Cy (hl:1<=ws.length):(ir m ws r k).length=ws.length:=by
 unfold ir
 rw[ah,jO,gY];omega
include h0 h26 hm hs hl
theorem Cz:∀ x∈ir m ws r k,0<=x/\x<m:=by
 obtain⟨_,l2,l3,-⟩:=mH (r:=r) h0 h26 hm (iG.mp hs).1 (show (iX m (ws.length-1) k).length+1=ws.length by rw[jO];omega)
 unfold ir
 intro x hx
 rcases bw.mp hx with hx | hx
 ·exact rR h0 _ _ x hx
 ·rw[bt.mp hx];exact⟨l2,l3⟩
theorem zK:good m ws r (ir m ws r k)=true:=by
 obtain⟨_,l2,l3,l4⟩:=mH (r:=r) h0 h26 hm (iG.mp hs).1 (show (iX m (ws.length-1) k).length+1=ws.length by rw[jO];omega)
 exact (l4 _ l2 l3).mpr rfl
omit h26 hm hs hl in
theorem C5 (hk:0<=k) (hk2:k<m^(ws.length-1)):numOf m (ir m ws r k).dropLast=k:=by
 unfold ir
 rw[mf,sy h0 _ _ hk hk2]
end
end
section
end
section
def aZ (c:Nat):List Nat->List (List Nat)
 | []=>[[]]
 | a::l=>if a=c then []::aZ c l else match aZ c l with
  | []=>[[a]]
  | w::ws=>(a::w)::ws
def b7 (c:Nat):List (List Nat)->List Nat
 | []=>[]
 | [w]=>w
 | w::v::ws=>w++c::b7 c (v::ws)
theorem kX {c:Nat}:∀ (w l:List Nat),c∉w->aZ c (w++c::l)=w::aZ c l
 | [],l,_=>by simp [aZ]
 | a::w,l,h=>by
  have ha:a≠c:=fun e=>h (by rw[e];exact aR)
  have ih:=kX w l fun hc=>h (bb _ hc)
  show (if a=c then _ else match aZ c (w++c::l) with | []=>[[a]] | w::ws=>(a::w)::ws)=_
  rw[ai ha,ih]
theorem uK {c:Nat}:∀ (w:List Nat),c∉w->aZ c w=[w]
 | [],_=>rfl
 | a::w,h=>by
  have ha:a≠c:=fun e=>h (by rw[e];exact aR)
  have ih:=uK w fun hc=>h (bb _ hc)
  show (if a=c then _ else match aZ c w with | []=>[[a]] | w::ws=>(a::w)::ws)=_
  rw[ai ha,ih]
theorem cT {c:Nat}:∀ (ws:List (List Nat)),ws≠[]->(∀ w∈ws,c∉w)->aZ c (b7 c ws)=ws
 | [],h,_=>absurd rfl h
 | [w],_,h=>uK w (h w aR)
 | w::v::ws,_,h=>by
  show aZ c (w++c::b7 c (v::ws))=_
  rw[kX w _ (h w aR),cT (v::ws) (by simp) fun x hx=>h x (bb _ hx)]
theorem gK {c:Nat}:∀ (l:List Nat),(aZ c l).length<=l.length+1/\∀ w∈aZ c l,w.length<=l.length
 | []=>by simp [aZ]
 | a::l=>by
  obtain⟨h1,h2⟩:=gK (c:=c) l
  have e:aZ c (a::l)=if a=c then []::aZ c l else match aZ c l with | []=>[[a]] | w::ws=>(a::w)::ws:=rfl
  by_cases ha:a=c
  ·rw[e,ao ha,ag,ag]
   refine⟨by omega,fun w hw=>?_⟩
   rcases aH.mp hw with rfl | hw
   ·exact bN _
   ·have:=h2 w hw;omega
  ·rw[e,ai ha,ag]
   cases hs:aZ c l with
   | nil=>exact⟨by simp,fun w hw=>by rw[bt.mp hw];simp⟩
   | cons v vs =>
    rw[hs] at h1 h2
    refine⟨by simp only[ag] at h1 ⊢;omega,fun w hw=>?_⟩
    rcases aH.mp hw with rfl | hw
    ·have:=h2 v aR
     rw[ag];omega
    ·have:=h2 w (bb _ hw);omega
theorem jR {c:Nat}:∀ (ws:List (List Nat)),(b7 c ws).length<=(ws.map fun w=>w.length+1).sum
 | []=>by simp [b7]
 | [w]=>by simp [b7]
 | w::v::ws=>by
  have ih:=jR (c:=c) (v::ws)
  show (w++c::b7 c (v::ws)).length<=_
  rw[ah,ag,aQ,fb]
  omega
end
section
end
section
def bZ (c:Nat):Nat->List Nat->List Nat->List (List Nat)
 | 0,seg,l=>[seg++l]
 | _+1,seg,[]=>[seg]
 | n+1,seg,x::l=>if x=c then seg::bZ c n [] l else bZ c (n+1) (seg++[x]) l
def oz (c:Nat):Nat->List Nat->List Nat
 | _,[]=>[]
 | i,x::l=>if x=c then i::oz c (i+1) l else oz c (i+1) l
def ym (l:List Nat):Nat->List Nat->List (List Nat)
 | i,[]=>[l.drop i]
 | i,q::qs=>(l.drop i).take (q-i)::ym l (q+1) qs
theorem jo {c:Nat}:∀ (n:Nat) (seg l:List Nat),c∉l->bZ c n seg l=[seg++l]
 | 0,_,_,_=>by rw[bZ]
 | _+1,seg,[],_=>by rw[bZ,gW]
 | n+1,seg,x::l,h=>by
  rw[aH,not_or] at h
  rw[bZ,ai fun e=>h.1 e.symm,jo (n+1) _ l h.2,gU];rfl
theorem dC {c:Nat} (n:Nat) (r:List Nat):∀ (seg w:List Nat),c∉w->bZ c (n+1) seg (w++c::r)=(seg++w)::bZ c n [] r
 | seg,[],_=>by rw[kg,bZ,ao rfl,gW]
 | seg,x::w,h=>by
  rw[aH,not_or] at h
  rw[List.cons_append,bZ,ai fun e=>h.1 e.symm,dC n r _ w h.2,gU];rfl
theorem xB {c:Nat}:∀ (i:Nat) (l:List Nat),oz c i l=[]->c∉l
 | _,[],_=>fun h=>by cases h
 | i,x::l,h=>by
  unfold oz at h
  split at h
  ·cases h
  ·rename_i hx
   intro hm
   rcases aH.mp hm with e | hm
   ·exact hx e.symm
   ·exact xB (i+1) l h hm
theorem yn {c:Nat} (l:List Nat):∀ (n:Nat) (suf pre seg:List Nat),l=pre++(seg++suf)->ym l pre.length ((oz c (pre.length+seg.length) suf).take n)=bZ c n seg suf:=by
 intro n suf
 induction suf generalizing n with
 | nil =>
  intro pre seg e
  have h0:l.drop pre.length=seg++[]:=by rw[e,List.drop_left]
  have:(oz c (pre.length+seg.length) []).take n=[]:=by rw[oz,List.take_nil]
  rw[this,ym,h0]
  cases n with
  | zero=>rfl
  | succ n=>rw[bZ,gW]
 | cons x suf ih =>
  intro pre seg e
  have h0:l.drop pre.length=seg++x::suf:=by rw[e,List.drop_left]
  cases n with
  | zero=>rw[List.take_zero,ym,h0];rfl
  | succ n =>
   rw[oz,bZ]
   by_cases hx:x=c
   ·rw[ao hx,ao hx,pk,ym,h0,show pre.length+seg.length-pre.length=seg.length by omega,List.take_left]
    have:=ih n (pre++seg++[x]) [] (by rw[e];simp)
    simp only[ah,ag,ax,Nat.zero_add,Nat.add_zero] at this
    rw[this]
   ·rw[ai hx,ai hx]
    have:=ih (n+1) pre (seg++[x]) (by rw[e];simp)
    rw[ah,show pre.length+(seg.length+[x].length)=pre.length+seg.length+1 from rfl] at this
    exact this
def dgN (m:Nat):List Nat:=(Nat.toDigits 10 m).map Char.toNat
theorem dW:∀ m:Nat,m<26->1<=(dgN m).length/\(dgN m).length<=2/\(∀ c∈dgN m,48<=c/\c<58)/\((dgN m).length=2->(dgN m)[0]?≠some 48):=by decide
end
end Mk




namespace L2
open PySem PySem.Spec PyProof.Rows
variable {A:Around}{C:Addr}{CX:CXT}{D:Ends}{E:Value->Shared->Prop}{H:Hp}{H1:Hp}{J:It}{K:PySem.W.Frag}{M:Model}{P:Program}{Q:VK}{T:String}{X:Cx}{a:Addr}{bmB:List Value}{c:Addr}{ch:List Addr}{cl:List (Str×Addr)}{d:Option Addr}{e:Expr}{elts:List Expr}{env:Env}{es:List Expr}{f:Addr}{fd:FuncData}{fp:List Addr}{frn:List Str}{g:TG}{h:Heap}{h':Heap}{i:Nat}{ifs:List Expr}{items:Array Value}{js:List Nat}{lo:Int}{m:Str}{pins:List (Addr×Obj)}{pl:Sem Bool}{pos:Pos}{prog:Program}{ps:List Str}{r:V->List V->Hp->VK->Prop}{s:Shared}{scope:Scope}{sp:Sp}{t':Nat}{ta:TA}{tb:TS}{tc:TT}{te:TE}{tl:TE}{to:TE}{tpos:Pos}{w:World}{wi:TI}{x:Str}{xe:Value->Shared->Prop}{xs:List V}{α:Type}{σ:St}
section
def clo (cells:List (Str×Addr)):List (Str×NameKind)->List (Str×Addr)->Option (List (Str×Addr))
 | [],acc=>some acc
 | (n,k)::r,acc=>if k==.free then (match cells.lookup n with | some c=>clo cells r ((n,c)::acc) | none=>none) else clo cells r acc
theorem rK {env:Env}:∀ (names:List (Str×NameKind)) (acc cl:List (Str×Addr)),clo env.cells names acc=some cl →
  (forIn names acc fun (x:Str×NameKind) (cs:List (Str×Addr))=>(if x.2==.free then do let c ←cellOf env x.1;pure (ForInStep.yield ((x.1,c)::cs)) else pure (ForInStep.yield cs):Sem (ForInStep (List (Str×Addr)))))=pure cl
 | [],acc,cl,h=>by
  have e:acc=cl:=Option.some.inj h
  subst e;rfl
 | (n,k)::r,acc,cl,h=>by
  rw[List.forIn_cons]
  unfold clo at h
  by_cases hk:(k==NameKind.free)=true
  ·rw[ao hk] at h
   cases hc:env.cells.lookup n with
   | none=>rw[hc] at h;cases h
   | some c =>
    rw[hc] at h
    have ih:=rK (env:=env) r ((n,c)::acc) cl h
    have e1:cellOf env n=pure c:=by unfold cellOf;rw[hc]
    simp only[hk,if_true,e1,pure_bind]
    exact ih
  ·rw[ai hk] at h
   have ih:=rK (env:=env) r acc cl h
   simp only[hk,hV,pure_bind,mQ]
   exact ih
theorem iA (h:clo env.cells scope.names []=some cl):closureFor scope env=pure cl:=by
 have e:=rK (env:=env) scope.names [] cl h
 unfold closureFor
 simp only[bind_pure]
 first
  | exact e
  | (simp only[bind_pure_comp,map_pure] at e ⊢;exact e)
  | (rw[show (fun (x:Str×NameKind) (r:List (Str×Addr))=>_)=_ from rfl];exact e)
theorem rh {cells:List (Str×Addr)}:∀ (names:List (Str×NameKind)) (acc cl:List (Str×Addr)),clo cells names acc=some cl →
  (∀ x c,acc.lookup x=some c->cells.lookup x=some c)->∀ x c,cl.lookup x=some c->cells.lookup x=some c
 | [],acc,cl,h,ha=>by
  have e:acc=cl:=Option.some.inj h
  subst e;exact ha
 | (n,k)::r,acc,cl,h,ha=>by
  unfold clo at h
  by_cases hk:(k==NameKind.free)=true
  ·rw[ao hk] at h
   cases hc:cells.lookup n with
   | none=>rw[hc] at h;cases h
   | some c =>
    rw[hc] at h
    refine rh r ((n,c)::acc) cl h fun x c' e=>?_
    rw[eZ] at e
    by_cases hx:(x==n)=true
    ·rw[hx] at e
     have e':c=c':=Option.some.inj e
     subst e'
     have:x=n:=eq_of_beq hx
     subst this;exact hc
    ·rw[jq] at hx
     rw[hx] at e
     exact ha x c' e
  ·rw[ai hk] at h
   exact rh r acc cl h ha
theorem rJ {cells:List (Str×Addr)}:∀ (names:List (Str×NameKind)) (acc cl:List (Str×Addr)),clo cells names acc=some cl->∀ x,(∃ c,acc.lookup x=some c)->∃ c,cl.lookup x=some c
 | [],acc,cl,h,x,hx=>by
  have e:acc=cl:=Option.some.inj h
  subst e;exact hx
 | (n,k)::r,acc,cl,h,x,hx=>by
  unfold clo at h
  by_cases hk:(k==NameKind.free)=true
  ·rw[ao hk] at h
   cases hc:cells.lookup n with
   | none=>rw[hc] at h;cases h
   | some c =>
    rw[hc] at h
    refine rJ r ((n,c)::acc) cl h x ?_
    rw[eZ]
    by_cases hxn:(x==n)=true
    ·rw[hxn];exact⟨c,rfl⟩
    ·rw[jq] at hxn
     rw[hxn];exact hx
  ·rw[ai hk] at h
   exact rJ r acc cl h x hx
theorem rg {cells:List (Str×Addr)}:∀ (names:List (Str×NameKind)) (acc cl:List (Str×Addr)),clo cells names acc=some cl->∀ x,(x,NameKind.free)∈names->∃ c,cl.lookup x=some c
 | [],_,_,_,x,hx=>by cases hx
 | (n,k)::r,acc,cl,h,x,hx=>by
  unfold clo at h
  by_cases hk:(k==NameKind.free)=true
  ·rw[ao hk] at h
   cases hc:cells.lookup n with
   | none=>rw[hc] at h;cases h
   | some c =>
    rw[hc] at h
    rcases aH.mp hx with e | hx
    ·have e1:x=n:=aG Prod.fst e
     subst e1
     exact rJ r ((x,c)::acc) cl h x ⟨c,by rw[eZ,beq_self_eq_true]⟩
    ·exact rg r _ cl h x hx
  ·rw[ai hk] at h
   rcases aH.mp hx with e | hx
   ·cases e
    exact absurd (by rfl) hk
   ·exact rg r acc cl h x hx
theorem kD {env:Env}:∀ {names:List (Str×NameKind)}{x:Str}{k':NameKind},
  (names.map fun (n,k)=>if (k==NameKind.free&&env.scope.kind==.function&&env.kindOf n==some .cell) then (n,NameKind.cell) else (n,k)).lookup x=some k'->(x,k')∈names∨(k'=.cell/\(x,NameKind.free)∈names)
 | [],_,_,h=>by cases h
 | (n,k)::r,x,k',h=>by
  have ih:=@kD env r x k'
  by_cases hc:(k==NameKind.free&&env.scope.kind==.function&&env.kindOf n==some .cell)=true
  ·have h2:(((n,NameKind.cell)::(r.map fun (n,k)=>if (k==NameKind.free&&env.scope.kind==.function&&env.kindOf n==some .cell) then (n,NameKind.cell) else (n,k))).lookup x)=some k':=by
    rw[←h,aQ];simp only[hc,if_true]
   rw[eZ] at h2
   by_cases hx:(x==n)=true
   ·rw[hx] at h2
    have e:NameKind.cell=k':=Option.some.inj h2
    have e2:x=n:=eq_of_beq hx
    have e3:k=.free:=by
     simp only[bS] at hc
     exact eq_of_beq hc.1.1
    subst e e2 e3
    exact .inr ⟨rfl,aR⟩
   ·rw[jq] at hx
    rw[hx] at h2
    rcases ih h2 with q | ⟨e,q⟩
    ·exact .inl (bb _ q)
    ·exact .inr ⟨e,bb _ q⟩
  ·have h2:(((n,k)::(r.map fun (n,k)=>if (k==NameKind.free&&env.scope.kind==.function&&env.kindOf n==some .cell) then (n,NameKind.cell) else (n,k))).lookup x)=some k':=by
    rw[←h,aQ];simp only[hc,hV,mQ]
   rw[eZ] at h2
   by_cases hx:(x==n)=true
   ·rw[hx] at h2
    have e:k=k':=Option.some.inj h2
    have e2:x=n:=eq_of_beq hx
    subst e e2
    exact .inl aR
   ·rw[jq] at hx
    rw[hx] at h2
    rcases ih h2 with q | ⟨e,q⟩
    ·exact .inl (bb _ q)
    ·exact .inr ⟨e,bb _ q⟩
abbrev Cx.blk (X:Cx) (N':List Str) (scope:Scope) (cl:List (Str×Addr)) (C:Addr) (s₀:Shared) (H₀:Hp) (ex:List Addr):Cx :=
 { X with N:=N',s₀:=s₀,H₀:=H₀,env:=compEnvC scope cl C X.env,outer:=X.stack,stack:=X.stack,ex:=ex,fn:=fun _=>false,pn:=[],xe:=fun _ _=>False }
inductive rE (X:Cx):List Str->List Nat->Prop
 | nil:rE X [] []
 | cons {x:Str}{j:Nat}{xs:List Str}{js:List Nat}:X.N[j]?=some x->(X.env.kindOf x=some .cell∨X.env.kindOf x=some .free)->rE X xs js->rE X (x::xs) (j::js)
theorem rE.get {X:Cx}:∀ {xs:List Str}{js:List Nat}{i:Nat}{x:Str},rE X xs js->xs[i]?=some x->∃ j,js[i]?=some j/\X.N[j]?=some x/\(X.env.kindOf x=some .cell∨X.env.kindOf x=some .free)
 | _,_,_,_,.nil,e=>by simp at e
 | _,_,0,_,.cons a b _,e=>by simp at e;subst e;exact⟨_,rfl,a,b⟩
 | _,_,i+1,x,.cons _ _ t,e=>by
  obtain⟨j,h1,h2⟩:=rE.get (i:=i) (x:=x) t (by simpa using e)
  exact⟨j,by simpa using h1,h2⟩
theorem rE.len {X:Cx}:∀ {xs:List Str}{js:List Nat},rE X xs js->xs.length=js.length
 | _,_,.nil=>rfl
 | _,_,.cons _ _ t=>by rw[ag,ag,t.len]
def i9 (k:Nat) (js:List Nat) (σ:St):St:=List.replicate k none++js.map fun j=>(σ[j]?).join
def PIf (X:Cx) (ifs:List Expr) (t:TT):Prop :=
 ∀ (pins:List (Addr×Obj)) (s:Shared) (σ:St) (H:Hp) (Q:Bool->Hp->Prop),Inv X pins σ H s->t σ H Q →
  wpAny (model X.prog X.w) X.A (forIn ifs true fun c r=>if r=true then do let ok ←isTrue c X.env (eval c X.env);pure (ForInStep.yield ok) else pure (ForInStep.yield r)) (TP X pins σ Q) X.xe s
def Cr:TT:=fun _ H Q=>Q true H
theorem dM :PIf X [] Cr:=fun _ _ _ H _ I h=>wpAny_tests_nil ⟨H,I,h⟩
theorem vL {c:Expr}{t:TT} (h:PT X c t):PIf X [c] t:=fun pins s σ H Q I q=>wpAny_tests_one (h pins s σ H Q I q)
section
variable {prog:Program}{w:World}{A:Around}{R:Result->Shared->Prop}{s:Shared}
theorem w6 {elt target iter:Expr}{ifs:List Expr}{scope:Scope}{pos:Pos}{it acc:Value}{env:Env} (I:Nat->Shared->Prop)
  (turn:∀ n s,I n s->wpAny (model prog w) A (pyNext it) (fun r s₁=>match r with
   | none=>R (.ok .next) s₁
   | some v=>wpAny (model prog w) A (letOwnedTupleGo target it v) (fun _ s₀=>wpAny (model prog w) A (assign target env v) (fun _ s₂ =>
     wpAny (model prog w) A (forIn ifs true fun c r=>if r=true then do let ok ←isTrue c env (eval c env);pure (ForInStep.yield ok) else pure (ForInStep.yield r)) (fun ok s₃ =>
      if ok=true then wpAny (model prog w) A (eval elt env) (fun x s₄ =>
       wpAny (model prog w) A (call (.builtin "list.append") [acc,x]) (fun _ s₅=>∃ m,m<n/\I m s₅) (fun _ _=>False) s₄) (fun _ _=>False) s₃
      else ∃ m,m<n/\I m s₃) (fun _ _=>False) s₂) (fun _ _=>False) s₀) (fun _ _=>False) s₁) (fun _ _=>False) s)
  (n:Nat) (h:I n s) :
  codeAny (model prog w) A (.compLoop (.ListComp elt [⟨target,iter,ifs,0⟩] scope pos) 0 it acc env) R s:=by
 refine codeAny_loop rfl I (fun n s hI=>?_) n h
 show wpAny _ A ((compTurn (.ListComp elt [⟨target,iter,ifs,0⟩] scope pos) 0 it acc env).onRaise (fun x=>do noteFrame x env;theTreesLotGoes x)) _ _ s
 refine wpAny_noted ?_
 rw[compTurn_list]
 refine ar (gz (ar (bq (turn n s hI) (fun r s₁ h₁=>?_) fun _ _ h'=>h'.elim)))
 cases r with
 | none=>exact aO h₁
 | some v =>
  refine ar (bq h₁ (fun _ s₀ h₀=>?_) fun _ _ h'=>h'.elim)
  refine ar (bq h₀ (fun _ s₂ h₂=>ar (bq h₂ (fun ok s₃ h₃=>?_) fun _ _ h'=>h'.elim)) fun _ _ h'=>h'.elim)
  cases ok with
  | false=>exact aO ⟨rfl,h₃⟩
  | true =>
   exact ar (ar (bq h₃ (fun x s₄ h₄=>ar (bq h₄ (fun _ s₅ h₅=>aO (aO ⟨rfl,h₅⟩)) fun _ _ h'=>h'.elim)) fun _ _ h'=>h'.elim))
end
def fD (g:TG) (tc:TT) (te:TE) (σ':St) (J:It) (H1:Hp) (Q:VK):Prop :=
 ∀ D,H1 D=none->∃ W:Nat->Nat->List V->St->Hp->Prop,(∃ m,W 0 m [] σ' (upd H1 D (.lst [])))/\∀ i m ys σ1 H,W i m ys σ1 H->H D=some (.lst ys)/\ys.length<sizeLine ∧
  ((J.stop i H/\Q (.ref D) H)∨(J.go i H/\∀ x H',J.yld i H x H'->g x σ1 H' fun σ2 H2=>tc σ2 H2 fun b H3 =>
   if b=true then te σ2 H3 fun v H4=>H4 D=some (.lst ys)/\∃ m',m'<m/\W (i+1) m' (ys++[v]) σ2 (upd H4 D (.lst (ys++[v]))) else ∃ m',m'<m/\W (i+1) m' ys σ2 H3))
structure zL (X:Cx) (scope:Scope) (cl:List (Str×Addr)):Prop where
 clo:L2.clo X.env.cells scope.names []=some cl
 cell:∀ y∈scope.names,y.2≠.cell
 kind:scope.kind=.function
 names:∀ y∈scope.names,y.2=.local->scope.names.lookup y.1=some .local
section
variable {X:Cx}{pins:List (Addr×Obj)}{σ:St}{H1:Hp}{s₂:Shared}{E:Value->Shared->Prop}
theorem Inv.JR {N':List Str} (I:Inv X pins σ H1 s₂) (B:zL X scope cl) (hC:s₂.heap.objs.size<=C) (hf:∀ b∈fp,qK X pins H1 b)
  (ho:∀ b∈fp,∃ o,s₂.heap.get? b=some o):(X.blk N' scope cl C s₂ H1 fp).Ok:=by
 have sub:=rh scope.names [] cl B.clo (fun x c e=>by cases e)
 refine⟨I.ok.mod,B.kind,I.ok.glob,I.ok.blt,hC,fun x y c h1 h2=>I.ok.inj x y c (sub x c h1) (sub y c h2),fun x hx=>?_,fun x c h=>?_,I.ok.hd,I.ok.frames,.inl rfl,fun b hb=>⟨?_,fun x c e=>?_⟩,I.bs,
  bJ I.ok.bsz I.sz,fun b o e hb=>?_,fun b hb hs=>?_,I.stack,I.oR⟩
 ·have hx':(compEnvC scope cl C X.env).kindOf x=some .cell∨(compEnvC scope cl C X.env).kindOf x=some .free:=hx
  have key:∀ k',(compEnvC scope cl C X.env).kindOf x=some k'->(k'=.cell∨k'=.free)->∃ c,cl.lookup x=some c:=fun k' e hk=>by
   have e':(scope.names.map fun (n,k)=>if (k==NameKind.free&&X.env.scope.kind==.function&&X.env.kindOf n==some .cell) then (n,NameKind.cell) else (n,k)).lookup x=some k':=e
   rcases kD e' with q | ⟨_,q⟩
   ·rcases hk with rfl | rfl
    ·exact absurd rfl (B.cell _ q)
    ·exact rg scope.names [] cl B.clo x q
   ·exact rg scope.names [] cl B.clo x q
  rcases hx' with hx' | hx'
  ·exact key _ hx' (.inl rfl)
  ·exact key _ hx' (.inr rfl)
 ·exact absurd h cf
 ·obtain⟨o,e⟩:=ho b hb
  exact bE (bD (aT e) hC)
 ·exact (hf b hb).2.2.2.2.1 x c (sub x c e)
 ·rcases (hf b hb).2.2.2.1 with z | z
  ·exact I.ok.noex b o e z
  ·exact absurd (bD (aT e) (bJ I.ok.bsz z)) (gv _)
 ·rcases aH.mp (I.vY b hs) with z | z
  ·exact (hf b hb).2.1 z
  ·exact (hf b hb).2.2.1 z
theorem zP {elt target iter:Expr}{ifs:List Expr}{scope:Scope}{pos:Pos}{cl:List (Str×Addr)}{own frn:List Str}{js:List Nat}{g:TG}{tc:TT}{te:TE}{Q:VK}{it:Addr}{fp:List Addr}{tn:Nat->Heap->Prop}{J:It}
  {RR:Value->Addr->Result->Shared->Prop} (hc:X.calm=true) (B:zL X scope cl) (hfr:rE X frn js) (hloc:∀ x∈frn,scope.names.lookup x≠some .local)
  (hg:∀ C s₀ H₀ ex,PG (X.blk (own++frn) scope cl C s₀ H₀ ex) target g) (hi:∀ C s₀ H₀ ex,PIf (X.blk (own++frn) scope cl C s₀ H₀ ex) ifs tc) (he:∀ C s₀ H₀ ex,PE (X.blk (own++frn) scope cl C s₀ H₀ ex) elt te)
  (I:Inv X pins σ H1 s₂) (T:Turn X.prog X.w X.K target J fp it tn) (st0:tn 0 s₂.heap) (hf:∀ b∈fp,qK X pins H1 b) (hq:fD g tc te (i9 own.length js σ) J H1 Q)
  (fin:∀ D C s' H' m,s₂.heap.objs.size<=C->Inv X pins σ H' s'->s'.heap.Ns C m->qK X pins H' C->Q (.ref D) H'->RR (.ref D) C (.ok .next) s') :
  wpAny (model X.prog X.w) X.A (newList []) (fun acc s₃=>wpAny (model X.prog X.w) X.A (newFunctionEnv scope X.env.globals cl [] X.env.qual none .none (some X.env)) (fun cenv s₄ =>
   codeAny (model X.prog X.w) X.A (.compStart (.ListComp elt [⟨target,iter,ifs,0⟩] scope pos) 0 (.ref it) acc { cenv with scope:=relabel scope X.env }) (RR acc cenv.locals) s₄) E s₃) E s₂:=by
 have sub:=rh scope.names [] cl B.clo (fun x c e=>by cases e)
 refine wpAny_newObj_type (wpAny_newFunctionEnv B.cell (by intro y hy;simp at hy) (fun h₁ hns₁ hsb₁=>?_) B.kind)
 dsimp only at hns₁ hsb₁ ⊢
 generalize hH2:s₂.heap.push { cls:=.type "list",dict:=none,data:=.seq ([]:List Value).toArray }=H2 at hns₁ hsb₁ ⊢
 have hC:H2.objs.size=s₂.heap.objs.size+1:=by rw[←hH2,Heap.size_push]
 have hDC:s₂.heap.objs.size≠H2.objs.size:=by rw[hC];exact bE (gZ _)
 have hCle:s₂.heap.objs.size<=H2.objs.size:=by rw[hC];exact Nat.le_succ _
 have below:∀ b,b<s₂.heap.objs.size->b≠H2.objs.size/\b≠s₂.heap.objs.size:=fun b hb=>⟨by rw[hC];exact bE (iV hb),bE hb⟩
 have old:∀ b o,s₂.heap.get? b=some o->h₁.get? b=some o:=fun b o e=>hsb₁.extBut b o (below b (aT e)).1 (aW _ (hH2 ▸ aW _ e))
 have hacc:h₁.get? s₂.heap.objs.size=some { cls:=.type "list",dict:=none,data:=.seq ([]:List Value).toArray }:=hsb₁.extBut _ _ hDC (aW _ (hH2 ▸ bL _ rfl))
 have hfo:∀ b∈fp,∃ o,s₂.heap.get? b=some o/\∀ v,o.data≠.cell v:=T.obj 0 _ st0
 have D0:H1 s₂.heap.objs.size=none:=I.hok.fresh (aA _)
 have C0:H1 H2.objs.size=none:=I.hok.fresh hCle
 obtain⟨W,⟨m0,w0⟩,turn⟩:=hq _ D0
 have okX:(X.blk (own++frn) scope cl H2.objs.size s₂ H1 fp).Ok:=I.JR (N':=own++frn) B hCle hf fun b hb=>let ⟨o,e,_⟩:=hfo b hb;⟨o,e⟩
 have I0:Inv (X.blk (own++frn) scope cl H2.objs.size s₂ H1 fp) [] (i9 own.length js σ) (upd H1 s₂.heap.objs.size (.lst [])) { s₂ with heap:=h₁,toks:=s₂.toks+([]:List (Str×Value)).length }:=by
  obtain⟨m,hn,hl⟩:=id I.loc
  refine⟨okX,rfl,I.bare,Un.laid old (aA _) D0,⟨_,hns₁,fun i x v e1 e2 e3=>?_⟩,fun x c e=>?_,?_,fun x c e=>?_,fun p hp=>?_,?_,?_⟩
  ·have e1:(own++frn)[i]?=some x:=e1
   unfold i9 at e2
   by_cases hik:i<own.length
   ·rw[gi (by simpa using hik),List.getElem?_replicate,ao hik] at e2
    cases e2
   ·rw[gj (by simpa using hik),List.length_replicate,bY] at e2
    rw[gj (by omega)] at e1
    obtain⟨j,hj,hNj,hk⟩:=hfr.get e1
    rw[hj] at e2
    have e2':(σ[j]?).join=some v:=Option.some.inj e2
    have e2'':σ[j]?=some (some v):=by
     cases q:σ[j]? with
     | none=>rw[q] at e2';cases e2'
     | some o=>rw[q] at e2';cases o with
      | none=>cases e2'
      | some y=>have:y=v:=Option.some.inj e2';rw[this]
    obtain⟨u,r,lk⟩:=hl j x v hNj e2'' (hk.elim (fun z=>.inr (.inl z)) fun z=>.inr (.inr z))
    refine⟨u,r,?_⟩
    rcases lk with ⟨k1,_⟩ | ⟨_,c,hcl,hcell⟩
    ·rcases hk with z | z<;>(rw[k1] at z;cases z)
    ·have hx3:(compEnvC scope cl H2.objs.size X.env).kindOf x=some .local∨(compEnvC scope cl H2.objs.size X.env).kindOf x=some .cell∨(compEnvC scope cl H2.objs.size X.env).kindOf x=some .free:=e3
     rcases hx3 with z | z
     ·exfalso
      have z':(scope.names.map fun (n,k)=>if (k==NameKind.free&&X.env.scope.kind==.function&&X.env.kindOf n==some .cell) then (n,NameKind.cell) else (n,k)).lookup x=some .local:=z
      rcases kD z' with q | ⟨q,_⟩
      ·exact hloc x (br e1) (B.names _ q rfl)
      ·cases q
     ·obtain⟨c',hc'⟩:=okX.has x z
      have q:=sub x c' hc'
      rw[hcl] at q
      have q':c=c':=Option.some.inj q
      subst q'
      refine .inr ⟨z,c,hc',?_⟩
      obtain⟨o,ho,hd⟩:=hcell
      exact⟨o,old _ _ ho,hd⟩
  ·obtain⟨v,o,ho,hd⟩:=I.cell x c (sub x c e)
   exact⟨v,o,old _ _ ho,hd⟩
  ·show upd H1 _ _ H2.objs.size=none
   rw[aP (Ne.symm hDC)];exact C0
  ·obtain⟨v,o,ho,hd⟩:=I.cell x c (sub x c e)
   rw[aP (below c (aT ho)).2];exact I.freeC x c (sub x c e)
  ·cases hp
  ·exact I.hok.laid old (aA _) ⟨bN _,[],_,.nil,hacc⟩
  ·unfold i9
   show _=(own++frn).length
   rw[ah,ah,List.length_replicate,aj,hfr.len]
 -- the iterator's objects in the block
 have fpx:∀ {H:Hp},(∀ b∈fp,H b=none)->∀ b∈fp,qK (X.blk (own++frn) scope cl H2.objs.size s₂ H1 fp) [] H b:=fun {H} hn b hb=>by
  obtain⟨f0,f1,f2,f3,f4,f5⟩:=hf b hb
  obtain⟨o,e,_⟩:=hfo b hb
  refine⟨hn b hb,(below b (aT e)).1,fun z=>?_,.inl hb,fun x c e=>f4 x c (sub x c e),fun p hp=>by cases hp⟩
  rcases aH.mp (I.vY b z) with z | z
  ·exact f1 z
  ·exact f2 z
 have st1:tn 0 h₁:=T.keep _ _ _ st0 fun b _ o e=>old b o e
 have fr0:∀ b∈fp,upd H1 s₂.heap.objs.size (.lst []) b=none:=fun b hb=>by
  obtain⟨o,e,_⟩:=hfo b hb
  rw[aP (below b (aT e)).2];exact (hf b hb).1
 have loop:codeAny (model X.prog X.w) X.A (.compLoop (.ListComp elt [⟨target,iter,ifs,0⟩] scope pos) 0 (.ref it) (.ref s₂.heap.objs.size) (compEnvC scope cl H2.objs.size X.env))
   (RR (.ref s₂.heap.objs.size) H2.objs.size) { s₂ with heap:=h₁,toks:=s₂.toks+([]:List (Str×Value)).length }:=by
  refine w6 (fun n s'=>∃ i ys σ1 H,Inv (X.blk (own++frn) scope cl H2.objs.size s₂ H1 fp) [] σ1 H s'/\tn i s'.heap/\(∀ b∈fp,H b=none)/\W i n ys σ1 H) ?_ m0 ⟨0,[],_,_,I0,st1,fr0,w0⟩
  rintro n s3 ⟨i,ys,σ3,H3,I3,st3,fr3,w3⟩
  obtain⟨hD3,hsz,alt⟩:=turn i n ys σ3 H3 w3
  rcases alt with ⟨stop,qn⟩ | ⟨go,step⟩
  ·refine thn (T.done (X.blk (own++frn) scope cl H2.objs.size s₂ H1 fp) rfl rfl rfl hc i [] s3 σ3 H3 _ I3 (fpx fr3) st3 stop) fun r s4 ⟨hr,I4⟩=>?_
   subst hr
   obtain⟨m,hn,_⟩:=id I4.loc
   have hch:∀ b∈fp,(b∈X.ex∨X.s₀.heap.objs.size<=b)/\b≠X.env.locals/\(∀ x c,X.env.cells.lookup x=some c->c≠b)/\∀ p∈X.pn++pins,p.1≠b:=fun b hb=>by
    obtain⟨f0,f1,f2,f3,f4,f5⟩:=hf b hb
    exact⟨f3,f1,f4,f5⟩
   have IX:Inv X pins σ H3 s4:=I.uk I4.os I4.base I4.hok I4.bare hch
   exact fin _ _ s4 H3 m hCle IX hn (I.wQ hCle I4.free) qn
  ·refine thn (T.item (X.blk (own++frn) scope cl H2.objs.size s₂ H1 fp) rfl rfl rfl hc i [] s3 σ3 H3 _ I3 (fpx fr3) st3 go) fun r s4 ⟨u,hr,h4⟩=>?_
   subst hr
   refine thn h4 fun _ s5 ⟨x,H5,I5,r5,y5,st5,fr5⟩=>?_
   have I5':=I5.pinned (fpx fr5) (T.obj _ _ st5)
   refine thn (hg _ _ _ _ _ s5 σ3 H5 x u _ I5' r5 (step x H5 y5)) fun _ s6 ⟨σ6,H6,I6,q6⟩=>?_
   refine thn (hi _ _ _ _ _ s6 σ6 H6 _ I6 q6) fun b s7 ⟨H7,I7,q7⟩=>?_
   have again:∀ {ys':List V}{H8:Hp}{s8:Shared}{m':Nat},Inv (X.blk (own++frn) scope cl H2.objs.size s₂ H1 fp) ([]++sV fp s5.heap) σ6 H8 s8->m'<n->W (i+1) m' ys' σ6 H8 →
     ∃ m,m<n/\∃ i ys σ1 H,Inv (X.blk (own++frn) scope cl H2.objs.size s₂ H1 fp) [] σ1 H s8/\tn i s8.heap/\(∀ b∈fp,H b=none)/\W i m ys σ1 H:=fun {ys' H8 s8 m'} I8 hm w8=>by
    refine⟨m',hm,i+1,ys',σ6,H8,I8.oU,T.keep _ _ _ st5 fun b hb o e=>(I8.pin (b,o) (eJ _ (eJ _ (k6 hb e)))).1,fun b hb=>?_,w8⟩
    obtain⟨o,e,d⟩:=T.obj _ _ st5 b hb
    exact (I8.pin (b,o) (eJ _ (eJ _ (k6 hb e)))).2.1
   cases b with
   | false =>
    rw[ai cf] at q7 ⊢
    obtain⟨m',hm,w7⟩:=q7
    exact again I7 hm w7
   | true =>
    rw[ao rfl] at q7 ⊢
    refine thn (he _ _ _ _ _ s7 σ6 H7 _ I7 q7) fun v s8 ⟨y,H8,I8,r8,hD8,m',hm,w8⟩=>?_
    refine thn (i6 (X:=X.blk (own++frn) scope cl H2.objs.size s₂ H1 fp) _ s8 σ6 H8 (.ref s₂.heap.objs.size) [y] _ [v] (fun _ H9=>W (i+1) m' (ys++[y]) σ6 H9) I8 rfl (.cons r8 .nil) ⟨_,ys,y,rfl,rfl,hD8,hsz,w8⟩) fun _ s9 ⟨_,H9,I9,_,w9⟩=>?_
    exact again I9 hm w9
 exact codeAny_compStart_list loop (T.self X.A 0 _ _ _ st1 loop)
end
def tLC (k:Nat) (js:List Nat) (wi:TI) (g:TG) (tc:TT) (te:TE):TE:=fun σ H Q=>wi σ H fun J H1=>fD g tc te (i9 k js σ) J H1 Q
section
variable {X:Cx}
theorem jc {elt target iter:Expr}{ifs:List Expr}{pos:Pos}{wi:TI}{g:TG}{tc:TT}{te:TE} (own:List Str) (hc:X.calm=true) (B:zL X scope cl) (hfr:rE X frn js)
  (hloc:∀ x∈frn,scope.names.lookup x≠some .local) (hi:PI X target iter wi)
  (hg:∀ C s₀ H₀ ex,PG (X.blk (own++frn) scope cl C s₀ H₀ ex) target g) (hif:∀ C s₀ H₀ ex,PIf (X.blk (own++frn) scope cl C s₀ H₀ ex) ifs tc) (he:∀ C s₀ H₀ ex,PE (X.blk (own++frn) scope cl C s₀ H₀ ex) elt te)
  (hs:∀ x,foldedSetIterable iter X.env x=pure x:=by intro _;rfl):PE X (.ListComp elt [⟨target,iter,ifs,0⟩] scope pos) (tLC own.length js wi g tc te):=by
 intro pins s σ H Q I h
 rw[eval_ListComp]
 refine wpAny_comprehension_free (use:=none) rfl hs (iA B.clo) B.kind B.names (thn (hi pins s σ H _ I h) fun v s1 h1=>thn h1 fun itv s2 h2=>?_)
 obtain⟨it,fp,tn,J,H2,e,I2,T,st2,f2,hq⟩:=h2
 subst e
 refine zP (RR:=fun acc C=>compPost (model X.prog X.w) X.A X.xe none (EP X pins σ Q) acc C) hc B hfr hloc hg hif he I2 T st2 f2 hq ?_
 intro D C s' H' m hC I' hn fC q
 exact⟨m,hn,fun h' sb=>⟨.ref D,H',I'.turned (t':=s'.toks) (fun b o hb e=>(sb.2 b hb).trans e) fC.1 fC.2.1 fC.2.2.2.1 fC.2.2.2.2.1 fC.2.2.2.2.2,rfl,q⟩⟩
theorem jU {elt target iter:Expr}{ifs:List Expr}{scope:Scope}{pos py spos:Pos}{y:Str}{cl:List (Str×Addr)}{frn:List Str}{js:List Nat}{wi:TI}{g:TG}{tc:TT}{te:TE} (own:List Str) (hN:X.N.Nodup) (hiy:X.N[i]?=some y)
  (hy:Loc X.env.scope y) (hc:X.calm=true) (B:zL X scope cl) (hfr:rE X frn js)
  (hloc:∀ x∈frn,scope.names.lookup x≠some .local) (hi:PI X target iter wi)
  (hg:∀ C s₀ H₀ ex,PG (X.blk (own++frn) scope cl C s₀ H₀ ex) target g) (hif:∀ C s₀ H₀ ex,PIf (X.blk (own++frn) scope cl C s₀ H₀ ex) ifs tc) (he:∀ C s₀ H₀ ex,PE (X.blk (own++frn) scope cl C s₀ H₀ ex) elt te)
  (hsw:swapsWith (.ListComp elt [⟨target,iter,ifs,0⟩] scope pos) (some (.Name y py)) spos.line X.env=pure true:=by rfl)
  (hs:∀ x,foldedSetIterable iter X.env x=pure x:=by intro _;rfl)
  (hf:X.fn y=true∨X.env.scope.names.lookup y=some .local:=by first | exact .inl rfl | exact .inr rfl | assumption) :
  PS X (.Assign [.Name y py] (.ListComp elt [⟨target,iter,ifs,0⟩] scope pos) spos) (Cp (tLC own.length js wi g tc te) (fT i)):=by
 intro pins s σ H D I h
 rw[exec_Assign_Name_used _ _ _ _ hsw]
 refine ar (gz (ar ?_))
 show wpAny _ X.A (do let _ ←comprehension (.ListComp elt [⟨target,iter,ifs,0⟩] scope pos) scope X.env _ (newList []) false (eval iter X.env) (some (assign (.Name y py) X.env))) _ _ s
 refine ar (bq (wpAny_comprehension_free (use:=some (assign (.Name y py) X.env)) (Q:=fun _ s'=>SP X pins D .next s') rfl hs (iA B.clo) B.kind B.names
  (thn (hi pins s σ H _ I h) fun v s1 h1=>thn h1 fun itv s2 h2=>?_)) (fun _ s' hq=>aO (aO hq)) fun _ _ e=>e)
 obtain⟨it,fp,tn,J,H2,e,I2,T,st2,f2,hq⟩:=h2
 subst e
 refine zP (Q:=fun x H1=>D.nx (σ.set i (some x)) H1) (RR:=fun acc C=>compPost (model X.prog X.w) X.A X.xe (some (assign (.Name y py) X.env)) (fun _ s'=>SP X pins D .next s') acc C) hc B hfr hloc hg hif he I2 T st2 f2 hq ?_
 intro L C s' H' m hC I' hn fC q
 show wpAny _ X.A (assign (.Name y py) X.env (.ref L)) _ _ _
 refine wpAny_assign_Name (uL (v:=.ref L) I' hN hiy hy rfl (fun s'' I'' ⟨a,sb,ha⟩=>?_) hf)
 have hCa:C≠a:=by
  rcases ha with z | z
  ·rw[z];exact fC.2.1
  ·exact fun e=>fC.2.2.2.2.1 y a z e.symm
 exact⟨m,hn.sameBut sb hCa,fun h' sb'=>⟨_,H',I''.turned (t':=s''.toks) (fun b o hb e=>(sb'.2 b hb).trans e) fC.1 fC.2.1 fC.2.2.2.1 fC.2.2.2.2.1 fC.2.2.2.2.2,q⟩⟩
end
def It.Seq (J:It) (H1:Hp) (xs:List V):Prop :=
 ∀ H,aD H1 H->(∀ i x,xs[i]?=some x->J.go i H/\∀ y H',J.yld i H y H'->H'=H/\y=x)/\∀ i,xs.length<=i->J.stop i H
theorem fv (h:SqL K H1 a xs):(Itl K a).Seq H1 xs:=fun H s =>
 ⟨fun i x e=>⟨⟨xs,x,s.seq h,e⟩,fun y H' ⟨e1,e2⟩=>⟨e1,Option.some.inj ((e2 xs (s.seq h)).symm.trans e)⟩⟩,fun i hi=>⟨xs,s.seq h,hi⟩⟩
theorem qg {n:Nat}:(Itr lo n).Seq H1 ((List.range n).map fun (k:Nat)=>V.int (lo+(k:Int))):=fun H s=>by
 refine⟨fun i x e=>?_,fun i hi=>?_⟩
 ·have hi:i<n:=by
   have:=(b9.mp e).1
   simpa using this
  rw[bY,List.getElem?_range hi] at e
  have e':V.int (lo+(i:Int))=x:=Option.some.inj e
  exact⟨hi,fun y H' ⟨e1,e2⟩=>⟨e1,by rw[e2,e']⟩⟩
 ·show n<=i
  simpa using hi
theorem aD.fi {H H':Hp}{o:HO} (h:aD H H') (hn:H a=none):aD H (upd H' a o):=fun b u e=>by
 rw[aP (b8 e hn)];exact h b u e
theorem DO {js:List Nat}{σ:St}{tc:TT}{te:TE}{Q:VK} (hJ:J.Seq H1 xs) (hl:xs.length<sizeLine) (p:V->Bool) (f:V->V)
  (hc:∀ x∈xs,∀ H,aD H1 H->∀ R:Bool->Hp->Prop,(∀ H',aD H H'->R (p x) H')->tc (some x::js.map fun j=>(σ[j]?).join) H R)
  (he:∀ x∈xs,p x=true->∀ H,aD H1 H->∀ R:VK,(∀ H',aD H H'->R (f x) H')->te (some x::js.map fun j=>(σ[j]?).join) H R)
  (q:∀ D H,H1 D=none->aD H1 H->H D=some (.lst ((xs.filter p).map f))->Q (.ref D) H):fD (fT 0) tc te (i9 1 js σ) J H1 Q:=by
 intro D hD
 refine⟨fun i m ys σ1 H=>m=xs.length-i/\i<=xs.length/\(∃ o,σ1=o::js.map fun j=>(σ[j]?).join)/\ys=((xs.take i).filter p).map f/\aD H1 H/\H D=some (.lst ys),
  ⟨xs.length,by simp,bN _,⟨none,rfl⟩,by simp,(aD.refl H1).fi hD,aS⟩,?_⟩
 rintro i m ys σ1 H ⟨rfl,hi,⟨o,rfl⟩,rfl,sH,hL⟩
 have hlen:(((xs.take i).filter p).map f).length<sizeLine:=by
  rw[aj]
  have h1:=pe p (xs.take i)
  have h2:(xs.take i).length<=xs.length:=by rw[bR];omega
  omega
 refine⟨hL,hlen,?_⟩
 by_cases hlt:i<xs.length
 ·have e:xs[i]?=some xs[i]:=by simp [hlt]
  obtain⟨go,yl⟩:=(hJ H sH).1 i xs[i] e
  refine .inr ⟨go,fun x H' y=>?_⟩
  obtain⟨e1,e2⟩:=yl x H' y
  subst e1 e2
  have hm:xs[i]∈xs:=iR hlt
  have htk:xs.take (i+1)=xs.take i++[xs[i]]:=by rw[m4,e];rfl
  show tc (some xs[i]::js.map fun j=>(σ[j]?).join) H' _
  refine hc xs[i] hm H' sH _ fun H3 s3=>?_
  cases hp:p xs[i] with
  | false =>
   rw[ai cf]
   refine⟨xs.length-(i+1),by omega,rfl,hlt,⟨_,rfl⟩,?_,sH.trans s3,s3 _ _ hL⟩
   rw[htk,oY];simp [hp]
  | true =>
   rw[ao rfl]
   refine he xs[i] hm hp H3 (sH.trans s3) _ fun H4 s4=>?_
   refine⟨s4 _ _ (s3 _ _ hL),xs.length-(i+1),by omega,rfl,hlt,⟨_,rfl⟩,?_,((sH.trans s3).trans s4).fi hD,aS⟩
   rw[htk,oY];simp [hp]
 ·have e:i=xs.length:=by omega
  subst e
  refine .inl ⟨(hJ H sH).2 _ (aA _),q D H hD sH ?_⟩
  rw[List.take_length] at hL;exact hL
theorem IF {js:List Nat}{σ:St}{te:TE}{Q:VK} (hJ:J.Seq H1 xs) (hl:xs.length<sizeLine) (f:V->V)
  (he:∀ x∈xs,∀ H,aD H1 H->∀ R:VK,(∀ H',aD H H'->R (f x) H')->te (some x::js.map fun j=>(σ[j]?).join) H R)
  (q:∀ D H,H1 D=none->aD H1 H->H D=some (.lst (xs.map f))->Q (.ref D) H):fD (fT 0) Cr te (i9 1 js σ) J H1 Q :=
 DO hJ hl (fun _=>true) f (fun x _ H _ R hR=>hR H (aD.refl H)) (fun x hx _ H s R hR=>he x hx H s R hR) fun D H h1 h2 h3=>q D H h1 h2 (by rw[List.filter_eq_self.mpr (fun _ _=>rfl)] at h3;exact h3)
end
section
section
variable {X:Cx}
def EX (i j:Int):Prop:=i.natAbs<2^1000/\j.natAbs<2^1000
theorem Gm:OpR X (binaryOp .Mult) (rI EX fun i j=>.int (i*j)):=opI fun _ _ _ _ _ _ _ hc q =>
 mul_int q (IntMulOk.of_bits (bJ (intBits_le_iff.mpr hc.1) (by decide)) (bJ (intBits_le_iff.mpr hc.2) (by decide)))
def J0 (_ j:Int):Prop:=0<j/\j<2^1000
theorem Ed:OpR X (binaryOp .FloorDiv) (rI J0 fun i j=>.int (i/j)):=opI fun i j _ _ _ _ _ hc q=>by
 have h1:(0:Int)<j:=hc.1
 have h2:j<2^1000:=hc.2
 have h3:j.natAbs<2^1000:=by
  have e:((j.natAbs:Nat):Int)=j:=Int.natAbs_of_nonneg (by omega)
  have e2:((2^1000:Nat):Int)=(2:Int)^1000:=by rw[Int.natCast_pow];rfl
  omega
 refine floordiv_int (by omega) (by rw[Int.fdiv_eq_ediv_of_nonneg i (by omega)];exact q) (.inl (PyProof.noPylong_of_log2 ?_))
 have h4:j.natAbs≠0:=by omega
 exact bD ((Nat.log2_lt h4).mpr h3) (by decide)
theorem Eg:OpR X (compareOp .Is) (fun x y H Q=>∃ a b,x=.bl a/\y=.bl b/\Q (.bl (a==b)) H):=by
 intro pins s σ H x y v u Q I rx ry h
 obtain⟨a,b,rfl,rfl,q⟩:=h
 cases rx;cases ry
 exact is_bool (cj I q rfl)
theorem xu:OpR X (compareOp .IsNot) (fun x y H Q=>∃ a b,x=.bl a/\y=.bl b/\Q (.bl (a != b)) H):=by
 intro pins s σ H x y v u Q I rx ry h
 obtain⟨a,b,rfl,rfl,q⟩:=h
 cases rx;cases ry
 exact isnot_bool (cj I q rfl)
def Lk (K:PySem.W.Frag):List V->Hp->VK->Prop:=fun xs H Q=>∃ x t c b,xs=[x,.ty c]/\mY K H x t/\PySem.W.kitOne K t (.type c)=some b/\Q (.bl b) H
theorem CW:cW X (.builtin "isinstance") (Lk X.K):=by
 intro pins s σ H xs us Q I r h
 obtain⟨x,t,c,b,rfl,ty,e,q⟩:=h
 obtain⟨u,w',rfl,ru,rw'⟩:=vals2 r
 obtain rfl:w'=Value.type c:=rw'
 exact isinst_ok I ru ty e fun tk=>⟨.bl b,H,I.tok tk,rfl,q⟩
def pN:List V->List V->Bool
 | [],[]=>true
 | x::xs,y::ys=>eqV x y&&pN xs ys
 | _,_=>false
theorem rQ:∀ {xs ys:List V},xs.length≠ys.length->pN xs ys=false
 | [],[],h=>absurd rfl h
 | [],_::_,_=>rfl
 | _::_,[],_=>rfl
 | x::xs,y::ys,h=>by
  have h':xs.length≠ys.length:=fun e=>h (by rw[ag,ag,e])
  show (eqV x y&&pN xs ys)=false
  rw[rQ h',Bool.and_false]
theorem nh:∀ {xs ys:List V},xs.length=ys.length->(List.range xs.length).all (fun j=>eqV (xs.getD j .non) (ys.getD j .non))=pN xs ys
 | [],[],_=>rfl
 | [],_::_,h=>by cases h
 | _::_,[],h=>by cases h
 | x::xs,y::ys,h=>by
  have h':xs.length=ys.length:=by simpa using h
  rw[ag,List.range_succ_eq_map,iO,eX]
  show (eqV x y&&(List.range xs.length).all (fun j=>eqV (xs.getD j .non) (ys.getD j .non)))=(eqV x y&&pN xs ys)
  rw[nh h']
theorem BC (xs:List Int):(xs.map V.int).all dX=true:=by
 rw[bM];intro v hv
 obtain⟨i,_,rfl⟩:=aM.mp hv
 rfl
def Ks (K:PySem.W.Frag) (neg:Bool):R2:=fun x y H Q=>∃ a b xs ys,x=.ref a/\y=.ref b/\SqL K H a xs/\SqL K H b ys/\xs.all dX=true/\ys.all dX=true/\Q (.bl (if neg then !pN xs ys else pN xs ys)) H
theorem rP {A:Around}{s:Shared}{xs ys:List V}{us vs:List Value} (r1:Vals xs us) (r2:Vals ys vs) (f1:xs.all dX=true) (f2:ys.all dX=true) (j:Nat) (h1:j<us.toArray.size) (h2:j<vs.toArray.size) :
  SeqAt.EqAt A s us.toArray[j] vs.toArray[j] (eqV (xs.getD j .non) (ys.getD j .non)):=by
 have l1:=r1.length
 have l2:=r2.length
 rw[bz] at h1 h2
 have e1:xs[j]?=some (xs[j]'(by omega)):=by simp [show j<xs.length by omega]
 have e2:ys[j]?=some (ys[j]'(by omega)):=by simp [show j<ys.length by omega]
 obtain⟨u,hu,ru⟩:=r1.get e1
 obtain⟨v,hv,rv⟩:=r2.get e2
 have hu':us.toArray[j]=u:=by
  have:=b9.mp hu
  simpa using this.2
 have hv':vs.toArray[j]=v:=by
  have:=b9.mp hv
  simpa using this.2
 rw[hu',hv',cU,cU,e1,e2]
 exact ng ru rv (bM.mp f1 _ (iR _)) (bM.mp f2 _ (iR _))
theorem IT (hu:X.A.units<cLine):OpR X (compareOp .Eq) (Ks X.K false):=by
 intro pins s σ H x y v u Q I rx ry h
 obtain⟨a,b,xs,ys,rfl,rfl,ha,hb,f1,f2,q⟩:=h
 cases rx;cases ry
 obtain⟨us,r1,p1,_⟩:=I.list ha
 obtain⟨vs,r2,p2,_⟩:=I.list hb
 have l1:=r1.length
 have l2:=r2.length
 by_cases hl:xs.length=ys.length
 ·refine SeqAt.eq_listAt p1.isList p2.isList (by simp only[bz];omega) hu (fun j h1 h2=>rP r1 r2 f1 f2 j h1 h2) ⟨.bl _,H,I,rfl,?_⟩
  rw[bz,←l1,nh hl];exact q
 ·refine SeqAt.eq_list_lengthsAt p1.isList p2.isList (by simp only[bz,bne_iff_ne,ne_eq];omega) hu ⟨.bl _,H,I,rfl,?_⟩
  have e:=rQ hl
  rw[ai cf,e] at q;exact q
theorem Ja (hu:X.A.units<cLine):OpR X (compareOp .NotEq) (Ks X.K true):=by
 intro pins s σ H x y v u Q I rx ry h
 obtain⟨a,b,xs,ys,rfl,rfl,ha,hb,f1,f2,q⟩:=h
 cases rx;cases ry
 obtain⟨us,r1,p1,_⟩:=I.list ha
 obtain⟨vs,r2,p2,_⟩:=I.list hb
 have l1:=r1.length
 have l2:=r2.length
 by_cases hl:xs.length=ys.length
 ·refine SeqAt.RcNeAt.lists p1.isList p2.isList (by simp only[bz];omega) hu (fun j h1 h2=>rP r1 r2 f1 f2 j h1 h2) _ _ _ _ ⟨.bl _,H,I,rfl,?_⟩
  rw[bz,←l1,nh hl];exact q
 ·refine SeqAt.RcNeAt.lists_lengths p1.isList p2.isList (by simp only[bz,bne_iff_ne,ne_eq];omega) hu _ _ _ _ ⟨.bl _,H,I,rfl,?_⟩
  have e:=rQ hl
  rw[ao rfl,e] at q;exact q
theorem Vals.bools:∀ {bs:List Bool}{us:List Value},Vals (bs.map V.bl) us->us=bs.map Value.bool
 | [],_,.nil=>rfl
 | b::bs,_::_,.cons r t=>by
  cases (show _=Value.bool b from r)
  rw[aQ,Vals.bools t]
theorem all_range (bs:List Bool):(List.range bs.length).all (fun i=>bs.getD i false)=bs.all id:=by
 induction bs with
 | nil=>rfl
 | cons b r ih =>
  rw[ag,List.range_succ_eq_map,iO,eX,iO]
  show (b&&(List.range r.length).all (fun i=>r.getD i false))=_
  rw[ih];rfl
theorem xW (bs:List Bool) (A:Around) (P:Program) (w:World):TruthOf P w A (fun i v=>(bs.map Value.bool).toArray[i]?=some v) (fun i=>bs.getD i false):=fun i v s Q E hP hQ=>by
 have e:(bs[i]?).map Value.bool=some v:=by simpa using hP
 cases q:bs[i]? with
 | none=>rw[q] at e;cases e
 | some b =>
  rw[q] at e
  have e':Value.bool b=v:=Option.some.inj e
  subst e'
  have hb:bs.getD i false=b:=by rw[cU,q];rfl
  have hQ':Q (bs.getD i false) s:=hQ
  rw[hb] at hQ'
  exact gB hQ'
def Kr (K:PySem.W.Frag):List V->Hp->VK->Prop:=fun vs H Q=>∃ (a:Addr) (bs:List Bool),vs=[.ref a]/\SqL K H a (bs.map V.bl)/\Q (.bl (bs.all id)) H
theorem Bb (hc:X.calm=true):cW X (.builtin "all") (Kr X.K):=by
 intro pins s σ H xs us Q I r h
 obtain⟨a,bs,rfl,hq,q⟩:=h
 obtain⟨u,rfl,ru⟩:=vals1 r
 cases ru
 obtain⟨its,rv,p,hz⟩:=I.list hq
 obtain rfl:=rv.bools
 have ha:a<s.heap.objs.size:=by obtain⟨o,e,_⟩:=p.isList;exact aT e
 refine call_all_walk (wpAny_pyIter_list p.isList ⟨s.heap.objs.size,_,_,_,_,_,fun i=>bs.getD i false,rfl,Walks.list (A:=X.A.in1) (I.ok.hd hc) _ a (bE ha) _,⟨⟨_,bL _ rfl,rfl,rfl⟩,p.isList.push _⟩,xW bs _ _ _,fun h' tk hk=>?_⟩)
 refine⟨.bl (bs.all id),H,I.kept fun b o e=>hk b o (fun z=>?_) (aW _ e),?_,q⟩
 ·have z':b=s.heap.objs.size:=by simpa using z
  exact absurd (aT e) (by rw[z'];exact gv _)
 ·show Value.bool _=Value.bool _
  rw[←all_range bs];simp
def Kv (K:PySem.W.Frag):List V->Hp->VK->Prop:=fun vs H Q=>∃ (a:Addr) (ns:List Int),vs=[.ref a]/\SqL K H a (ns.map V.int)/\Q (.int ns.sum) H
theorem Bi (hc:X.calm=true):cW X (.builtin "sum") (Kv X.K):=by
 intro pins s σ H xs us Q I r h
 obtain⟨a,ns,rfl,hq,q⟩:=h
 obtain⟨u,rfl,ru⟩:=vals1 r
 cases ru
 obtain⟨its,rv,p,hz⟩:=I.list hq
 have hi:IntsAre its ns:=intsAre_of rv
 obtain⟨zs,hzs⟩:=hi.allInts.items
 have hl:=p.isList
 rw[hzs] at hl
 refine sum_intListG (I.ok.hd hc) hl fun h' tk t' hk=>⟨.int ns.sum,H,I.kept hk,⟨t',?_⟩,q⟩
 have e1:numsOf (intItems zs).toList=zs.toList.map (·.1):=nums_intItems zs
 rw[←hzs] at e1
 have e2:numsOf its=ns:=hi.numsOf
 rw[preSum_eq,dZ (by simp),←e1]
 show Value.int (numsOf its).sum t'=_
 rw[e2]
def vO (lo:Int) (n:Nat):List V:=(List.range n).map fun (k:Nat)=>V.int (lo+(k:Int))
theorem zI {n:Nat}{acc:Array Value} (h:ItemsOf (fun (i:Nat) v=>∃ t,v=Value.int (lo+(i:Int)*1) t) acc n):Vals (vO lo n) acc.toList:=by
 obtain⟨hs,hi⟩:=h
 have key:∀ (xs:List Value) (m:Nat),(∀ j v,xs[j]?=some v->∃ t,v=Value.int (lo+((m+j:Nat):Int)) t)->Vals ((List.range' m xs.length).map fun (k:Nat)=>V.int (lo+(k:Int))) xs:=by
  intro xs
  induction xs with
  | nil=>intro m _;exact .nil
  | cons x r ih =>
   intro m hx
   rw[ag,List.range'_succ,aQ]
   refine .cons ?_ (ih (m+1) fun j v e=>?_)
   ·obtain⟨t,e⟩:=hx 0 x rfl
    exact⟨t,by simpa using e⟩
   ·obtain⟨t,e'⟩:=hx (j+1) v (by simpa using e)
    exact⟨t,by rw[e'];congr 2;omega⟩
 have:=key acc.toList 0 fun j v e=>by
  obtain⟨t,e'⟩:=hi j v (by simpa using e)
  exact⟨t,by rw[e',Int.mul_one,Nat.zero_add]⟩
 rw[gP,hs,←List.range_eq_range'] at this
 exact this
def E5:List V->Hp->VK->Prop:=fun vs H Q=>∃ a lo hi,vs=[.ref a]/\H a=some (.rng lo hi)/\(-(2^62)<=lo/\lo<2^62/\-(2^62)<=hi/\hi<2^62)/\(hi-lo).toNat<=2^20/\∀ p,H p=none->Q (.ref p) (upd H p (.lst (vO lo (hi-lo).toNat)))
theorem uW (hc:X.calm=true):cW X (.type "list") E5:=by
 intro pins s σ H xs us Q I r h
 obtain⟨a,lo,hi,rfl,ha,⟨h1,h2,h3,h4⟩,hn,q⟩:=h
 obtain⟨u,rfl,ru⟩:=vals1 r
 cases ru
 obtain⟨t,u,v,e⟩:=(show c8 X.prog X.w H s.heap a (.rng lo hi) from I.hok a _ ha)
 refine call_list_range (n:=(hi-lo).toNat) (I.ok.hd hc) e (small_one h1 h2 h3 h4) (by rw[rangeSize_one];split<;>omega) (by omega) fun h' tk acc c hk hS hacc=>?_
 have hv:=zI hacc
 have hlen:(vO lo (hi-lo).toNat).length<=sizeLine:=by
  unfold vO
  rw[aj,gk]
  exact bJ hn (by decide)
 exact⟨.ref s.heap.objs.size,_,I.laid hk (aA _) (show c8 X.prog X.w _ _ _ (.lst (vO lo (hi-lo).toNat)) from ⟨hlen,acc.toList,c,hv,by simpa using hS⟩),rfl,q _ (I.hok.fresh (aA _))⟩
theorem Inv.HF {t':Nat} (I:Inv X pins σ H s) (hf:∀ b∈ch,qK X pins H b) (k:∀ b o,b∉ch->s.heap.get? b=some o->h'.get? b=some o) :
  Inv X pins σ H { s with heap:=h',toks:=t' }:=by
 have nch:∀ b u,H b=some u->b∉ch:=fun b u e z=>by rw[(hf b z).1] at e;cases e
 refine I.step (g':=s.gens) (d':=s.drawn) (ch:=ch) (fun b hb=>?_) (fun b o _ _ hc e _=>k b o hc e) (fun b o _ _ hc e _=>⟨o.slots,k b o hc e⟩) (fun _ _ _ _ n=>n) (fun b o hc e=>⟨o,k b o hc e⟩) (fun _ _ e=>e) (fun _ _ _ e=>e)
  (fun b ps e=>⟨#[],by rw[e];simp⟩) (fun m hm=>?_) (fun b u e=>?_) I.bare
 ·obtain⟨_,f1,_,f3,f4,f5⟩:=hf b hb
  exact⟨f3,f1,f4,f5⟩
 ·obtain⟨o,es,ep,ho,r⟩:=hm
  exact⟨o,es,ep,k _ o (fun z=>(hf _ z).2.1 rfl) ho,r⟩
 ·refine (I.hok b u e).nJ (fun c v hc q=>k c v ?_ q) (fun _ q=>q) fun _ _ q=>q
  rcases hc with z | z
  ·rw[z];exact nch b u e
  ·exact nch c _ z
theorem Inv.AQ {h':Heap}{t':Nat}{T:Addr}{o':HO} (I:Inv X pins σ H s) (hf:∀ b∈ch,qK X pins H b)
  (k:∀ b o,b∉ch->s.heap.get? b=some o->h'.get? b=some o) (hk2:∀ b o,s.heap.get? b=some o->∃ o',h'.get? b=some o') (hT:s.heap.objs.size<=T) (new:c8 X.prog X.w (upd H T o') h' T o') :
  Inv X pins σ (upd H T o') { s with heap:=h',toks:=t' }:=by
 have nch:∀ b u,H b=some u->b∉ch:=fun b u e z=>by rw[(hf b z).1] at e;cases e
 have hTn:H T=none:=I.hok.fresh hT
 have neT:∀ b o,s.heap.get? b=some o->b≠T:=fun b o e=>bE (bD (aT e) hT)
 refine I.step (g':=s.gens) (d':=s.drawn) (ch:=ch) (fun b hb=>?_) (fun b o _ _ hc e _=>k b o hc e) (fun b o _ _ hc e _=>⟨o.slots,k b o hc e⟩) (fun b o _ e n=>by rw[aP (neT b o e)];exact n) (fun b o hc e=>⟨o,k b o hc e⟩)
  (fun b xs e=>by rw[aP (b8 e hTn)];exact e) (fun b u xs e=>by rw[aP (b8 e hTn)];exact e) (fun b ps e=>⟨#[],by rw[aP (b8 e hTn),e];simp⟩) (fun m hm=>?_) (fun b u e=>?_) I.bare
 ·obtain⟨_,f1,_,f3,f4,f5⟩:=hf b hb
  exact⟨f3,f1,f4,f5⟩
 ·obtain⟨o,es,ep,ho,r⟩:=hm
  exact⟨o,es,ep,k _ o (fun z=>(hf _ z).2.1 rfl) ho,r⟩
 ·by_cases hb:b=T
  ·subst hb;rw[aS] at e;cases e;exact new
  ·rw[aP hb] at e
   refine (I.hok b u e).nJ (fun c v hc q=>k c v ?_ q) (fun c q=>by rw[aP (b8 q hTn)];exact q) fun c xs q=>by rw[aP (b8 q hTn)];exact q
   rcases hc with z | z
   ·rw[z];exact nch b u e
   ·exact nch c _ z
end
def Itz (K:PySem.W.Frag) (a b:Addr):It :=
 ⟨fun i H=>∃ xs ys x y,SqL K H a xs/\SqL K H b ys/\xs[i]?=some x/\ys[i]?=some y,
  fun i H v H'=>∃ x y p,(∀ xs,SqL K H a xs->xs[i]?=some x)/\(∀ ys,SqL K H b ys->ys[i]?=some y)/\v=.ref p/\H p=none/\H'=upd H p (.tup [x,y]),
  fun i H=>∃ xs ys,SqL K H a xs/\SqL K H b ys/\(xs.length<=i∨ys.length<=i)⟩
theorem AS {a b z TI TO i1 i2:Addr} (st:IsZip h z TI TO .none/\IsPair h TI (.ref i1) (.ref i2)/\(∃ x y,IsPair h TO x y)/\h.IsListIter i1 a i/\h.IsListIter i2 b i):∀ c∈[z,TI,TO,i1,i2],∃ o,h.get? c=some o/\∀ v,o.data≠.cell v:=fun c hc=>by
 obtain⟨hz,hTI,⟨x,y,hTO⟩,⟨o1,e1,c1,d1⟩,⟨o2,e2,c2,d2⟩⟩:=st
 simp only[aH,dh,dm] at hc
 rcases hc with rfl | rfl | rfl | rfl | rfl
 ·exact⟨_,hz,fun v q=>by have q':Data.fields _=Data.cell v:=q;cases q'⟩
 ·exact⟨_,hTI,fun v q=>by have q':Data.seq _ _=Data.cell v:=q;cases q'⟩
 ·exact⟨_,hTO,fun v q=>by have q':Data.seq _ _=Data.cell v:=q;cases q'⟩
 ·exact⟨o1,e1,fun v q=>by rw[d1] at q;cases q⟩
 ·exact⟨o2,e2,fun v q=>by rw[d2] at q;cases q⟩
theorem ES {k:Nat} (a b z TI TO i1 i2:Addr) (D:ZipApart z TI TO i1 i2 a b):Turn P w K (.Tuple elts k pos) (Itz K a b) [z,TI,TO,i1,i2] z
  (fun i h=>IsZip h z TI TO .none/\IsPair h TI (.ref i1) (.ref i2)/\(∃ x y,IsPair h TO x y)/\h.IsListIter i1 a i/\h.IsListIter i2 b i) where
 mem:=by simp
 obj:=fun i h st=>AS st
 keep:=fun i h h' st k=>by
  obtain⟨hz,hTI,⟨x,y,hTO⟩,h1,h2⟩:=st
  exact⟨k z (by simp) _ hz,k TI (by simp) _ hTI,⟨x,y,k TO (by simp) _ hTO⟩,h1.at fun o e=>k i1 (by simp) o e,h2.at fun o e=>k i2 (by simp) o e⟩
 item:=by
  intro X hP hw hK hc i pins s σ H E I hf st hg
  subst hP hw hK
  obtain⟨xs,ys,x,y,hx,hy,ex,ey⟩:=hg
  obtain⟨us,r1,p1,_⟩:=I.list hx
  obtain⟨vs,r2,p2,_⟩:=I.list hy
  obtain⟨u,hu,ru⟩:=r1.get ex
  obtain⟨v,hv,rv⟩:=r2.get ey
  obtain⟨hz,hTI,⟨ta,tb,hTO⟩,h1,h2⟩:=id st
  refine wpAny_pyNext_zip_item D hz hTI hTO h1 h2 p1.isList p2.isList (x:=u) (y:=v) (by simpa using hu) (by simpa using hv) fun h' a1 a2 a3 a4 a5 a6 a7=>?_
  refine⟨_,rfl,wpAny_letOwnedTupleGo_zip (s:={ s with heap:=h' }) a1 fun h'' b1 b2=>?_⟩
  have b2':Heap.SameBut z h' h'':=b2
  have ne:∀ c∈[z,TI,TO,i1,i2],c<s.heap.objs.size:=fun c hc=>by
   obtain⟨o,e,_⟩:=AS st c hc
   exact aT e
  have kk:∀ c o,c∉[z,TI,TO,i1,i2]->s.heap.get? c=some o->h''.get? c=some o:=fun c o hc e=>by
   simp only[aH,dh,dm,not_or] at hc
   exact (b2'.2 c hc.1).trans (a7 c o hc.1 hc.2.2.1 hc.2.2.2.1 hc.2.2.2.2 e)
  have hT:h''.get? s.heap.objs.size=some { cls:=.type "tuple",data:=.seq #[u,v] }:=(b2'.2 _ (Nat.ne_of_gt (ne z (by simp)))).trans a5
  have I1:Inv X pins σ (upd H s.heap.objs.size (.tup [x,y])) { s with heap:=h'' }:=by
   refine I.AQ (t':=s.toks) (ch:=[z,TI,TO,i1,i2]) hf kk (fun c o e=>?_) (aA _) (show c8 X.prog X.w _ h'' _ (.tup [x,y]) from ⟨by show 2<=sizeLine;decide,[u,v],.cons ru (.cons rv .nil),⟨_,hT,rfl,_,rfl⟩⟩)
   by_cases hc:c∈[z,TI,TO,i1,i2]
   ·simp only[aH,dh,dm] at hc
    rcases hc with rfl | rfl | rfl | rfl | rfl
    ·exact⟨_,b1⟩
    ·exact⟨_,(b2'.2 _ D.TIz).trans (a7 _ _ D.TIz D.TITO D.TIi1 D.TIi2 hTI)⟩
    ·exact⟨_,(b2'.2 _ D.TOz).trans a2⟩
    ·obtain⟨o1,e1,_⟩:=a3;exact⟨_,(b2'.2 _ D.i1z).trans e1⟩
    ·obtain⟨o2,e2,_⟩:=a4;exact⟨_,(b2'.2 _ D.i2z).trans e2⟩
   ·exact⟨_,kk c o hc e⟩
  refine⟨.ref s.heap.objs.size,_,I1,rfl,⟨x,y,_,fun zs hz=>by rw[I.oi hz hx];exact ex,fun zs hz=>by rw[I.oi hz hy];exact ey,rfl,I.hok.fresh (aA _),rfl⟩,⟨b1,(b2'.2 _ D.TIz).trans (a7 _ _ D.TIz D.TITO D.TIi1 D.TIi2 hTI),⟨u,v,(b2'.2 _ D.TOz).trans a2⟩,a3.at fun o e=>(b2'.2 _ D.i1z).trans e,a4.at fun o e=>(b2'.2 _ D.i2z).trans e⟩,fun c hc=>?_⟩
  rw[aP (bE (ne c hc))];exact (hf c hc).1
 done:=by
  intro X hP hw hK hc i pins s σ H E I hf st hg
  subst hP hw hK
  obtain⟨xs,ys,hx,hy,hl⟩:=hg
  obtain⟨us,r1,p1,_⟩:=I.list hx
  obtain⟨vs,r2,p2,_⟩:=I.list hy
  obtain⟨hz,hTI,⟨ta,tb,hTO⟩,h1,h2⟩:=id st
  have l1:=r1.length
  have l2:=r2.length
  refine wpAny_pyNext_zip_end (I.ok.hd hc) D hz hTI hTO h1 h2 p1.isList p2.isList ?_ fun h' kk=>⟨rfl,I.HF (t':=s.toks) (ch:=[z,TI,TO,i1,i2]) hf fun c o hc e=>?_⟩
  ·rcases hl with hl | hl
   ·exact .inl (by simp;omega)
   ·exact .inr (by simp;omega)
  ·simp only[aH,dh,dm,not_or] at hc
   exact kk c o hc.1 hc.2.2.1 hc.2.2.2.1 hc.2.2.2.2 e
 self:=fun _ _ _ _ _ st h=>wpAny_pyIter_zip st.1 h
section
variable {X:Cx}
def FY (K:PySem.W.Frag) (ta:TA):TI:=fun σ H R=>ta σ H fun vs H1=>∃ a b,vs=[.ref a,.ref b]/\(∃ xs,SqL K H1 a xs)/\(∃ ys,SqL K H1 b ys)/\R (Itz K a b) H1
theorem boot_zip:bootBuiltins "zip"=some (.type "zip"):=by kernel_rfl
theorem Jk {elts:List Expr}{k:Nat}{tpos:Pos}{a b:Expr}{p pos:Pos} (hg:Gl X "zip") (hm:X.mg "zip"=none) (ha:PA X [a,b] ta) (hs:starEach [a,b] X.env=[(false,eval a X.env),(false,eval b X.env)]:=by rfl)
  (hs2:starEach [b] X.env=[(false,eval b X.env)]:=by rfl):PI X (.Tuple elts k tpos) (.Call (.Name "zip" p) [a,b] [] pos) (FY X.K ta):=by
 intro pins s σ H R I h
 refine Call_ (nj I hg hm boot_zip (m6 (thn (ha pos pins s σ H _ I h) fun us s1 ⟨vs,H1,I1,r1,q1⟩=>?_) (by rw[hs,hs2]) (by rw[hs2];rfl)))
 obtain⟨l1,l2,e,⟨xs,hx⟩,⟨ys,hy⟩,q⟩:=q1
 subst e
 cases r1 with
 | cons r rr =>
  cases rr with
  | cons r' rr =>
   cases rr
   cases r
   cases r'
   obtain⟨us,_,p1,_⟩:=I1.list hx
   obtain⟨vs,_,p2,_⟩:=I1.list hy
   have a1:l1<s1.heap.objs.size:=by obtain⟨o,e,_⟩:=p1.isList;exact aT e
   have a2:l2<s1.heap.objs.size:=by obtain⟨o,e,_⟩:=p2.isList;exact aT e
   refine call_zip_2 p1.isList p2.isList fun h' hz hTI hTO hi1 hi2 hsz hk=>wpAny_pyIter_zip (s:={ s1 with heap:=h' }) hz ?_
   have I2:Inv X pins σ H1 { s1 with heap:=h' }:=I1.kept (t':=s1.toks) hk
   refine⟨_,[s1.heap.objs.size+4,s1.heap.objs.size+2,s1.heap.objs.size+3,s1.heap.objs.size,s1.heap.objs.size+1],_,_,H1,rfl,I2,ES l1 l2 _ _ _ _ _ (zipApart_new a1 a2),⟨hz,hTI,⟨_,_,hTO⟩,hi1,hi2⟩,fun c hc=>?_,q⟩
   have hle:s1.heap.objs.size<=c:=by
    simp only[aH,dh,dm] at hc
    rcases hc with rfl | rfl | rfl | rfl | rfl<;>omega
   exact I1.wQ hle (I1.hok.fresh hle)
end
theorem IG {a b:Addr}{xs ys:List V}{js:List Nat}{σ:St}{te:TE}{Q:VK} (hx:SqL K H1 a xs) (hy:SqL K H1 b ys) (hl:xs.length<sizeLine) (f:V->V->V)
  (he:∀ x y,(x,y)∈xs.zip ys->∀ H,aD H1 H->∀ R:VK,(∀ H',aD H H'->R (f x y) H')->te (some x::some y::js.map fun j=>(σ[j]?).join) H R)
  (q:∀ D H,H1 D=none->aD H1 H->H D=some (.lst ((xs.zip ys).map fun p=>f p.1 p.2))->Q (.ref D) H):fD (D5 K 2 (qo (fT 0) (qo (fT 1) D4))) Cr te (i9 2 js σ) (Itz K a b) H1 Q:=by
 intro D hD
 refine⟨fun i m zs σ1 H=>m=(xs.zip ys).length-i/\i<=(xs.zip ys).length/\(∃ o1 o2,σ1=o1::o2::js.map fun j=>(σ[j]?).join)/\zs=((xs.zip ys).take i).map (fun p=>f p.1 p.2)/\aD H1 H/\H D=some (.lst zs),
  ⟨(xs.zip ys).length,by simp,bN _,⟨none,none,rfl⟩,by simp,(aD.refl H1).fi hD,aS⟩,?_⟩
 rintro i m zs σ1 H ⟨rfl,hi,⟨o1,o2,rfl⟩,rfl,sH,hL⟩
 have hzl:(xs.zip ys).length=min xs.length ys.length:=List.length_zip
 have hlen:(((xs.zip ys).take i).map fun p=>f p.1 p.2).length<sizeLine:=by
  rw[aj,bR];omega
 refine⟨hL,hlen,?_⟩
 by_cases hlt:i<(xs.zip ys).length
 ·have h1:i<xs.length:=by omega
  have h2:i<ys.length:=by omega
  refine .inr ⟨⟨xs,ys,xs[i],ys[i],sH.seq hx,sH.seq hy,by simp [h1],by simp [h2]⟩,fun v H' hyl=>?_⟩
  obtain⟨x,y,p,hx',hy',rfl,hp,rfl⟩:=hyl
  have ex:=hx' xs (sH.seq hx)
  have ey:=hy' ys (sH.seq hy)
  have ez:(xs.zip ys)[i]?=some (x,y):=zip_get ex ey
  have hm:(x,y)∈xs.zip ys:=br ez
  have htk:(xs.zip ys).take (i+1)=(xs.zip ys).take i++[(x,y)]:=by rw[m4,ez];rfl
  have hpD:D≠p:=b8 hL hp
  refine⟨p,[x,y],rfl,SqT.of aS,rfl,x,[y],rfl,y,[],rfl,rfl,?_⟩
  show te (some x::some y::js.map fun j=>(σ[j]?).join) _ _
  have s1:aD H1 (upd H p (.tup [x,y])):=sH.fi (sH.free hp)
  refine he x y hm _ s1 _ fun H4 s4=>?_
  refine⟨s4 _ _ (by rw[aP hpD];exact hL),(xs.zip ys).length-(i+1),by omega,rfl,hlt,⟨_,_,rfl⟩,?_,(s1.trans s4).fi hD,aS⟩
  rw[htk,cN];rfl
 ·have e:i=(xs.zip ys).length:=by omega
  subst e
  refine .inl ⟨⟨xs,ys,sH.seq hx,sH.seq hy,by omega⟩,q D H hD sH ?_⟩
  rw[List.take_length] at hL;exact hL
end
section
section
variable {X:Cx}
def nw (H:Hp) (o:HO) (Q:VK):Prop:=∀ p H',H p=none->aD H H'->H' p=some o->Q (.ref p) H'
theorem dY {o:HO} (hn:H a=none):aD H (upd H a o):=fun b u e=>by rw[aP (b8 e hn)];exact e
theorem nw.go {o:HO} (h:nw H o Q) (p:Addr) (hp:H p=none):Q (.ref p) (upd H p o):=h p _ hp (dY hp) aS
def xD:R2:=fun x y H Q=>match x,y with
 | .int i,.int j=>Q (.int (i+j)) H
 | .str a,.str b=>a.length+b.length<=sizeLine/\Q (.str (a++b)) H
 | .ref l,.ref b=>∃ xs zs,H l=some (.lst xs)/\H b=some (.lst zs)/\xs.length+zs.length<=sizeLine/\nw H (.lst (xs++zs)) Q
 | _,_=>False
theorem a9:OpR X (binaryOp .Add) xD:=by
 intro pins s σ H x y v u Q I rx ry h
 cases x with
 | int i=>cases y with
  | int j=>exact IQ pins s σ H _ _ v u Q I rx ry ⟨_,_,rfl,rfl,h⟩
  | _=>exact False.elim h
 | str a=>cases y with
  | str b=>exact zd pins s σ H _ _ v u Q I rx ry ⟨_,_,rfl,rfl,h.1,h.2⟩
  | _=>exact False.elim h
 | ref l=>cases y with
  | ref b =>
   obtain⟨xs,zs,h1,h2,h3,h4⟩:=h
   exact IS pins s σ H _ _ v u Q I rx ry ⟨_,_,xs,zs,rfl,rfl,h1,h2,h3,h4.go⟩
  | _=>exact False.elim h
 | _=>exact False.elim h
def Hq:R2:=fun x y H Q=>match x,y with
 | .int i,.int j=>Q (.int (i-j)) H
 | _,_=>False
theorem ou:OpR X (binaryOp .Sub) Hq:=by
 intro pins s σ H x y v u Q I rx ry h
 cases x with
 | int i=>cases y with
  | int j=>exact Je pins s σ H _ _ v u Q I rx ry ⟨_,_,rfl,rfl,h⟩
  | _=>exact False.elim h
 | _=>exact False.elim h
def Hl:R2:=fun x y H Q=>match x,y with
 | .int i,.int j=>EX i j/\Q (.int (i*j)) H
 | .ref l,.int k=>∃ xs,H l=some (.lst xs)/\-(2^63)<=k/\k<2^63/\xs.length*k.toNat<=sizeLine/\nw H (.lst (List.replicate k.toNat xs).flatten) Q
 | _,_=>False
theorem vK:OpR X (binaryOp .Mult) Hl:=by
 intro pins s σ H x y v u Q I rx ry h
 cases x with
 | int i=>cases y with
  | int j=>exact Gm pins s σ H _ _ v u Q I rx ry ⟨_,_,rfl,rfl,h.1,h.2⟩
  | _=>exact False.elim h
 | ref l=>cases y with
  | int k =>
   obtain⟨xs,h1,h2,h3,h4,h5⟩:=h
   exact Jd pins s σ H _ _ v u Q I rx ry ⟨_,_,xs,rfl,rfl,h1,h2,h3,h4,h5.go⟩
  | _=>exact False.elim h
 | _=>exact False.elim h
def Ey:R2:=fun x y H Q=>match x,y with
 | .int i,.int j=>(0<j/\j<2^1000)/\Q (.int (i/j)) H
 | _,_=>False
theorem ck:OpR X (binaryOp .FloorDiv) Ey:=by
 intro pins s σ H x y v u Q I rx ry h
 cases x with
 | int i=>cases y with
  | int j=>exact Ed pins s σ H _ _ v u Q I rx ry ⟨_,_,rfl,rfl,h.1,h.2⟩
  | _=>exact False.elim h
 | _=>exact False.elim h
def Hi:R2:=fun x y H Q=>match x,y with
 | .int i,.int j=>0<j/\Q (.int (i%j)) H
 | _,_=>False
theorem bC:OpR X (binaryOp .Mod) Hi:=by
 intro pins s σ H x y v u Q I rx ry h
 cases x with
 | int i=>cases y with
  | int j=>exact IZ pins s σ H _ _ v u Q I rx ry ⟨_,_,rfl,rfl,h.1,h.2⟩
  | _=>exact False.elim h
 | _=>exact False.elim h
def Hn:R2:=fun x y H Q=>match x,y with
 | .int i,.int j=>(0<=j/\j<=1000000/\i.natAbs<2^64)/\Q (.int (i^j.toNat)) H
 | _,_=>False
theorem Gp:OpR X (binaryOp .Pow) Hn:=by
 intro pins s σ H x y v u Q I rx ry h
 cases x with
 | int i=>cases y with
  | int j=>exact Jc pins s σ H _ _ v u Q I rx ry ⟨_,_,rfl,rfl,h.1,h.2⟩
  | _=>exact False.elim h
 | _=>exact False.elim h
def uI (f:Int->Int->Bool):R2:=fun x y H Q=>match x,y with
 | .int i,.int j=>Q (.bl (f i j)) H
 | _,_=>False
theorem rA {op:CmpOp}{f:Int->Int->Bool} (h0:OpR X (compareOp op) (rI0 fun i j=>.bl (f i j))):OpR X (compareOp op) (uI f):=by
 intro pins s σ H x y v u Q I rx ry h
 cases x with
 | int i=>cases y with
  | int j=>exact h0 pins s σ H _ _ v u Q I rx ry ⟨_,_,rfl,rfl,h⟩
  | _=>exact False.elim h
 | _=>exact False.elim h
abbrev Lq:R2:=uI fun i j=>decide (i<j)
abbrev Lp:R2:=uI fun i j=>decide (i<=j)
abbrev Lj:R2:=uI fun i j=>decide (j<i)
abbrev Li:R2:=uI fun i j=>decide (j<=i)
theorem vJ:OpR X (compareOp .Lt) Lq:=rA Kl
theorem ju:OpR X (compareOp .LtE) Lp:=rA Kk
theorem k8:OpR X (compareOp .Gt) Lj:=rA Kj
theorem IV:OpR X (compareOp .GtE) Li:=rA Ki
def qU (K:PySem.W.Frag):R2:=fun x y H Q=>match x,y with
 | .int i,.int j=>Q (.bl (decide (i=j))) H
 | .bl i,.bl j=>Q (.bl (decide (i=j))) H
 | .str i,.str j=>Q (.bl (decide (i=j))) H
 | .ref a,.ref b=>∃ xs ys,SqL K H a xs/\SqL K H b ys/\xs.all dX=true/\ys.all dX=true/\Q (.bl (pN xs ys)) H
 | _,_=>False
def Cj (K:PySem.W.Frag):R2:=fun x y H Q=>match x,y with
 | .int i,.int j=>Q (.bl (!decide (i=j))) H
 | .bl i,.bl j=>Q (.bl (!decide (i=j))) H
 | .str i,.str j=>Q (.bl (!decide (i=j))) H
 | .ref a,.ref b=>∃ xs ys,SqL K H a xs/\SqL K H b ys/\xs.all dX=true/\ys.all dX=true/\Q (.bl (!pN xs ys)) H
 | _,_=>False
theorem wB (i j:Int):decide (V.int i=V.int j)=decide (i=j):=by
 by_cases e:i=j
 ·subst e;simp
 ·rw[aE e];exact aE fun h=>e (V.int.inj h)
theorem zV (i j:Bool):decide (V.bl i=V.bl j)=decide (i=j):=by
 by_cases e:i=j
 ·subst e;simp
 ·rw[aE e];exact aE fun h=>e (V.bl.inj h)
theorem wC (i j:Str):decide (V.str i=V.str j)=decide (i=j):=by
 by_cases e:i=j
 ·subst e;simp
 ·rw[aE e];exact aE fun h=>e (V.str.inj h)
theorem IU (hu:X.A.units<cLine):OpR X (compareOp .Eq) (qU X.K):=by
 intro pins s σ H x y v u Q I rx ry h
 cases x with
 | int i=>cases y with
  | int j=>exact Ec pins s σ H _ _ v u Q I rx ry ⟨rfl,by rw[wB];exact h⟩
  | _=>exact False.elim h
 | bl i=>cases y with
  | bl j=>exact Ec pins s σ H _ _ v u Q I rx ry ⟨rfl,by rw[zV];exact h⟩
  | _=>exact False.elim h
 | str i=>cases y with
  | str j=>exact Ec pins s σ H _ _ v u Q I rx ry ⟨rfl,by rw[wC];exact h⟩
  | _=>exact False.elim h
 | ref a=>cases y with
  | ref b =>
   obtain⟨xs,ys,h1,h2,h3,h4,h5⟩:=h
   exact IT hu pins s σ H _ _ v u Q I rx ry ⟨_,_,xs,ys,rfl,rfl,h1,h2,h3,h4,h5⟩
  | _=>exact False.elim h
 | _=>exact False.elim h
theorem Jb (hu:X.A.units<cLine):OpR X (compareOp .NotEq) (Cj X.K):=by
 intro pins s σ H x y v u Q I rx ry h
 cases x with
 | int i=>cases y with
  | int j=>exact Eh pins s σ H _ _ v u Q I rx ry ⟨rfl,by rw[wB];exact h⟩
  | _=>exact False.elim h
 | bl i=>cases y with
  | bl j=>exact Eh pins s σ H _ _ v u Q I rx ry ⟨rfl,by rw[zV];exact h⟩
  | _=>exact False.elim h
 | str i=>cases y with
  | str j=>exact Eh pins s σ H _ _ v u Q I rx ry ⟨rfl,by rw[wC];exact h⟩
  | _=>exact False.elim h
 | ref a=>cases y with
  | ref b =>
   obtain⟨xs,ys,h1,h2,h3,h4,h5⟩:=h
   exact Ja hu pins s σ H _ _ v u Q I rx ry ⟨_,_,xs,ys,rfl,rfl,h1,h2,h3,h4,h5⟩
  | _=>exact False.elim h
 | _=>exact False.elim h
def isV:V->V->Option Bool
 | .non,.non=>some true
 | .bl _,.non=>some false
 | .int _,.non=>some false
 | .str _,.non=>some false
 | .ref _,.non=>some false
 | .bl a,.bl b=>some (a==b)
 | _,_=>none
def Ci (neg:Bool):R2:=fun x y H Q=>match isV x y with
 | some b=>Q (.bl (b != neg)) H
 | none=>False
theorem sR:OpR X (compareOp .Is) (Ci false):=by
 intro pins s σ H x y v u Q I rx ry h
 cases x<;>cases y<;>first
  | exact False.elim h
  | exact IY pins s σ H _ _ v u Q I rx ry ⟨rfl,h⟩
  | exact Eg pins s σ H _ _ v u Q I rx ry ⟨_,_,rfl,rfl,by simpa [Ci,isV] using h⟩
theorem Cb:OpR X (compareOp .IsNot) (Ci true):=by
 intro pins s σ H x y v u Q I rx ry h
 cases x<;>cases y<;>first
  | exact False.elim h
  | exact Gn pins s σ H _ _ v u Q I rx ry ⟨rfl,h⟩
  | exact xu pins s σ H _ _ v u Q I rx ry ⟨_,_,rfl,rfl,by simpa [Ci,isV,bne] using h⟩
def Sq (K:PySem.W.Frag) (H:Hp) (a:Addr) (xs:List V):Prop:=SqL K H a xs∨SqT K H a xs
theorem Sq.l (h:H a=some (.lst xs)):Sq K H a xs:=.inl (.of h)
theorem Sq.t (h:H a=some (.tup xs)):Sq K H a xs:=.inr (.of h)
def GJ (K:PySem.W.Frag):R2:=fun x y H Q=>match x,y with
 | .ref p,.int i=>∃ xs v,Sq K H p xs/\atI xs i=some v/\Q v H
 | .str z,.int i=>z.length<=sizeLine/\∃ c,atI z.cps.toList i=some c/\Q (.str ⟨#[c]⟩) H
 | _,_=>False
theorem Lb:IxR X (GJ X.K):=by
 intro value slice pins s σ H x y v u Q I rx ry h hs
 cases x with
 | ref p=>cases y with
  | int i =>
   obtain⟨xs,w',h1 | h1,h2,h3⟩:=h
   ·exact FZ value slice pins s σ H _ _ v u Q I rx ry ⟨_,xs,_,w',rfl,rfl,h1,h2,h3⟩ hs
   ·exact Iw value slice pins s σ H _ _ v u Q I rx ry ⟨_,xs,_,w',rfl,rfl,h1,h2,h3⟩ hs
  | _=>exact False.elim h
 | str z=>cases y with
  | int i =>
   obtain⟨h1,c,h2,h3⟩:=h
   exact Iv value slice pins s σ H _ _ v u Q I rx ry ⟨z,i,c,rfl,rfl,h1,h2,h3⟩ hs
  | _=>exact False.elim h
 | _=>exact False.elim h
def AI (K:PySem.W.Frag):List V->Hp->VK->Prop:=fun vs H Q=>match vs with
 | [.str z]=>z.length<=sizeLine/\Q (.int z.length) H
 | [.ref p]=>∃ xs,Sq K H p xs/\Q (.int xs.length) H
 | _=>False
theorem Bf:cW X (.builtin "len") (AI X.K):=by
 intro pins s σ H xs us Q I r h
 match xs,h with
 | [.str z],h=>exact uV pins s σ H _ us Q I r ⟨z,rfl,h.1,h.2⟩
 | [.ref p],h =>
  obtain⟨ys,h1,h2⟩:=h
  exact uU pins s σ H _ us Q I r ⟨p,ys,rfl,h1,h2⟩
def Hf:List V->Hp->VK->Prop:=fun vs H Q=>match vs with
 | [.int i]=>Q (.int (i.natAbs:Int)) H
 | _=>False
theorem pK:cW X (.builtin "abs") Hf:=by
 intro pins s σ H xs us Q I r h
 match xs,h with
 | [.int i],h =>
  refine CV pins s σ H _ us Q I r ⟨i,rfl,?_⟩
  have e:(if i<0 then -i else i)=((i.natAbs:Nat):Int):=by split<;>omega
  rw[e];exact h
def zm (K:PySem.W.Frag):List V->Hp->VK->Prop:=fun vs H Q=>match vs with
 | [.ref a]=>∃ ys,(Sq K H a ys∨∃ lo hi,H a=some (.rng lo hi)/\(-(2^62)<=lo/\lo<2^62/\-(2^62)<=hi/\hi<2^62)/\(hi-lo).toNat<=2^20/\ys=vO lo (hi-lo).toNat)/\nw H (.lst ys) Q
 | _=>False
theorem yh (hc:X.calm=true):cW X (.type "list") (zm X.K):=by
 intro pins s σ H xs us Q I r h
 match xs,h with
 | [.ref a],h =>
  obtain⟨ys,h1 | ⟨lo,hi,h1,h2,h3,rfl⟩,h4⟩:=h
  ·exact uX pins s σ H _ us Q I r ⟨a,ys,rfl,h1,h4.go⟩
  ·exact uW hc pins s σ H _ us Q I r ⟨a,lo,hi,rfl,h1,h2,h3,h4.go⟩
theorem bt_isinstance:bootBuiltins "isinstance"=some (.builtin "isinstance"):=by kernel_rfl
theorem yf:bootBuiltins "abs"=some (.builtin "abs"):=by kernel_rfl
theorem bQ:bootBuiltins "len"=some (.builtin "len"):=by kernel_rfl
theorem mZ:bootBuiltins "all"=some (.builtin "all"):=by kernel_rfl
theorem Ig:bootBuiltins "sum"=some (.builtin "sum"):=by kernel_rfl
theorem Ba:bootBuiltins "sorted"=some (.builtin "sorted"):=by kernel_rfl
theorem ra:bootBuiltins "list"=some (.type "list"):=by kernel_rfl
theorem CU:bootBuiltins "tuple"=some (.type "tuple"):=by kernel_rfl
theorem CT:bootBuiltins "int"=some (.type "int"):=by kernel_rfl
theorem ky:bootBuiltins "str"=some (.type "str"):=by kernel_rfl
theorem F9:bootBuiltins "bool"=some (.type "bool"):=by kernel_rfl
theorem Ie:bootBuiltins "set"=some (.type "set"):=by kernel_rfl
theorem uT:bootBuiltins "enumerate"=some (.type "enumerate"):=by kernel_rfl
theorem Ko (hg:Gl X x) (hm:X.mg x=none) (hv:bootBuiltins x=some (.type T)) (hn:x≠"__name__":=by decide) (hd:(x==("__debug__":Str))=false:=by decide):PE X (.Name x pos) (tC (.ty T)) :=
 Gu hg hm hv rfl hn hd
structure Fnc (P:Program) (w:World) (K:PySem.W.Frag) (mg:Str->Option Value) (base:Heap) (CX:CXT) (k:Nat) (x:Str) (ps:List Str) (sp:Sp):Prop where
 ex:∃ (f:Addr) (fd:FuncData),bI P w K mg base CX k f fd ps sp/\mg x=some (.ref f)/\PySem.W.keepIn K (.ref f)=true/\Binds K fd ps []
theorem Ej {E:St->XK}{k:Nat}{t:TA}{p pos:Pos} (C:Fnc X.prog X.w X.K X.mg X.base CX k x ps sp) (hx:Passes CX X E) (hr:dI k X.A) (hg:Gl X x) (ha:PA X (e::es) t)
  (hd:(x==("__debug__":Str))=false:=by decide)
  (he:starEach (e::es) X.env=(false,eval e X.env)::starEach es X.env:=by rfl) (hpl:(backTo pos (starEach es X.env)).any (·.1)=false:=by rfl):PE X (.Call (.Name x p) (e::es) [] pos) (AM sp [] E t):=by
 obtain⟨f,fd,F,hm,hk,hb⟩:=C.ex
 exact Gv F hr hg hm hk hb .nil hx ha hd he hpl
end
def jL (g:TG) (tb:TS) (D:Ends) (J:It) (σ:St) (H:Hp):Prop:=∃ W:Nat->Nat->St->Hp->Prop,(∃ m,W 0 m σ H)/\∀ i m σ H,W i m σ H →
 (J.stop i H/\D.nx σ H)∨(J.go i H/\∃ N:St->Hp->Prop,(∀ σ' H',N σ' H'->∃ m',m'<m/\W (i+1) m' σ' H')/\∀ x H',J.yld i H x H'->g x σ H' fun σ2 H2=>tb { D with nx:=N,ct:=N,bk:=D.nx } σ2 H2)
theorem Ai {lo:Int}{n:Nat}{g:TG}{tb:TS}{D:Ends} (Pv:Nat->St->Hp->Prop) (h0:Pv 0 σ H)
  (hs:∀ i σ H,i<n->Pv i σ H->g (.int (lo+i)) σ H fun σ2 H2=>tb { D with nx:=Pv (i+1),ct:=Pv (i+1),bk:=D.nx } σ2 H2) (hd:∀ σ H,Pv n σ H->D.nx σ H):jL g tb D (Itr lo n) σ H:=BE Pv h0 hs hd
theorem rp {g:TG}{tb:TS}{D:Ends} (Pv:Nat->St->Hp->Prop) (h0:Pv 0 σ H) (hl:∀ i σ H,i<=xs.length->Pv i σ H->SqL K H a xs)
  (hs:∀ i x σ H,xs[i]?=some x->Pv i σ H->g x σ H fun σ2 H2=>tb { D with nx:=Pv (i+1),ct:=Pv (i+1),bk:=D.nx } σ2 H2) (hd:∀ σ H,Pv xs.length σ H->D.nx σ H):jL g tb D (Itl K a) σ H:=D1 Pv h0 hl hs hd
def Hx (t:TA):TE:=fun σ H Q=>t σ H fun xs H1=>xs.length<=sizeLine/\nw H1 (.lst xs) Q
def HD (t:TA):TE:=fun σ H Q=>t σ H fun xs H1=>xs.length<=sizeLine/\nw H1 (.tup xs) Q
def EK:TE:=fun _ H Q=>nw H (.dK []) Q
theorem bF {t:TA} (h:PA X es t):PE X (.List es pos) (Hx t):=by
 intro pins s σ H Q I hq
 refine wpAny_List_spliced (thn (h pos pins s σ H _ I hq) fun us s1 ⟨xs,H1,I1,r,z,q⟩=>⟨by rw[←r.length];exact z,?_⟩)
 have hf:H1 s1.heap.objs.size=none:=I1.hok.fresh (aA _)
 refine⟨.ref s1.heap.objs.size,upd H1 s1.heap.objs.size (.lst xs),I1.laid (t':=s1.toks) (fun b u e=>aW _ e) (aA _) ?_,rfl,nw.go q _ hf⟩
 exact⟨z,us,0,r,bL _ rfl⟩
theorem fE {t:TA}{x1} (h:PA X es t):PE X (.Tuple es x1 pos) (HD t):=by
 intro pins s σ H Q I hq
 refine wpAny_Tuple_spliced (thn (h pos pins s σ H _ I hq) fun us s1 ⟨xs,H1,I1,r,z,q⟩=>⟨by rw[←r.length];exact z,?_⟩)
 have hf:H1 s1.heap.objs.size=none:=I1.hok.fresh (aA _)
 refine⟨.ref s1.heap.objs.size,upd H1 s1.heap.objs.size (.tup xs),I1.laid (t':=s1.toks) (fun b u e=>aW _ e) (aA _) ?_,rfl,nw.go q _ hf⟩
 exact⟨z,us,r,⟨_,bL _ rfl,rfl,_,rfl⟩⟩
theorem xy :PE X (.Dict [] [] pos) EK:=fun pins s σ H Q I h=>En pins s σ H Q I (nw.go h)
section
variable {σ:St}{H:Hp}{Q:VK}{D:Ends}
theorem dq {t u:TS}:Cq t u D σ H=t { D with nx:=u D } σ H:=propext Iff.rfl
theorem HL {te:TE}{g:TG}:Cp te g D σ H=te σ H fun x H1=>g x σ H1 D.nx:=propext Iff.rfl
theorem CL {i:Nat}{v:V}{R:St->Hp->Prop}:fT i v σ H R=R (σ.set i (some v)) H:=propext Iff.rfl
theorem Ia {i:Nat}:tN i σ H Q=∃ v,σ[i]?=some (some v)/\Q v H:=propext Iff.rfl
theorem KZ {v:V}:tC v σ H Q=Q v H:=propext Iff.rfl
theorem JM {r:R2}{ta tb:TE}:tOp r ta tb σ H Q=ta σ H fun x H1=>tb σ H1 fun y H2=>r x y H2 Q:=propext Iff.rfl
theorem JP {r:V->Hp->VK->Prop}{ta:TE}:tUn r ta σ H Q=ta σ H fun x H1=>r x H1 Q:=propext Iff.rfl
theorem JF {r:List V->Hp->VK->Prop}{t:TA}:tCB r t σ H Q=t σ H fun vs H1=>r vs H1 Q:=propext Iff.rfl
theorem Fg {ta:TE}{tr:TA}{R:List V->Hp->Prop}:oT ta tr σ H R=ta σ H fun x H1=>tr σ H1 fun xs H2=>R (x::xs) H2:=propext Iff.rfl
theorem HS {R:List V->Hp->Prop}:xU σ H R=R [] H:=propext Iff.rfl
theorem Ff {sp:Sp}{E:St->XK}{t:TA}:AM sp [] E t σ H Q=t σ H fun vs H1=>sp vs H1 Q (E σ):=by
 show (t σ H fun vs H1=>sp (vs++[]) H1 Q (E σ))=_
 simp only[gW]
theorem HX {te:TE}:Jv te D σ H=te σ H D.rt:=propext Iff.rfl
theorem JK {c:TT}{t u:TS}:Ju c t u D σ H=c σ H fun b H1=>if b=true then t D σ H1 else u D σ H1:=propext Iff.rfl
theorem Fu:EO D σ H=D.nx σ H:=propext Iff.rfl
theorem Fl {te:TE}:EL te D σ H=te σ H fun _ H1=>D.nx σ H1:=propext Iff.rfl
theorem Fy {t:TE}{R:Bool->Hp->Prop}:xV t σ H R=t σ H fun x H'=>∃ k,x=.bl k/\R k H':=propext Iff.rfl
theorem KY {t:TE}{R:Bool->Hp->Prop}:tB t σ H R=t σ H fun x H'=>∃ k,x=.bl k/\R k H':=propext Iff.rfl
theorem HU {t:TT}{R:Bool->Hp->Prop}:K5 t σ H R=t σ H fun c H1=>R (!c) H1:=propext Iff.rfl
theorem HK {t u:TT}{R:Bool->Hp->Prop}:Kx t u σ H R=t σ H fun c H1=>if c=true then u σ H1 R else R false H1:=propext Iff.rfl
theorem JN {t u:TT}{R:Bool->Hp->Prop}:tOr t u σ H R=t σ H fun c H1=>if c=true then R true H1 else u σ H1 R:=propext Iff.rfl
theorem Fe {ta tb:TE}:Hv ta tb σ H Q=ta σ H fun x H1=>∃ c,x=.bl c/\if c=true then tb σ H1 Q else Q (.bl false) H1:=propext Iff.rfl
theorem HV {ta tb:TE}:K6 ta tb σ H Q=ta σ H fun x H1=>∃ c,x=.bl c/\if c=true then Q (.bl true) H1 else tb σ H1 Q:=propext Iff.rfl
theorem Fv {ta:TE}:Hz ta σ H Q=ta σ H fun x H1=>∃ c,x=.bl c/\Q (.bl (!c)) H1:=propext Iff.rfl
theorem HQ {t:TT}{ta tb:TE}:tIf t ta tb σ H Q=t σ H fun c H1=>if c=true then ta σ H1 Q else tb σ H1 Q:=propext Iff.rfl
theorem HR {t:TA}:Hx t σ H Q=t σ H fun xs H1=>xs.length<=sizeLine/\nw H1 (.lst xs) Q:=propext Iff.rfl
theorem HY {t:TA}:HD t σ H Q=t σ H fun xs H1=>xs.length<=sizeLine/\nw H1 (.tup xs) Q:=propext Iff.rfl
theorem Fi:EK σ H Q=nw H (.dK []) Q:=propext Iff.rfl
theorem JL {k:Nat}{js:List Nat}{wi:TI}{g:TG}{tc:TT}{te:TE}:tLC k js wi g tc te σ H Q=wi σ H fun J H1=>fD g tc te (i9 k js σ) J H1 Q:=propext Iff.rfl
theorem JO {r:V->Option Int->Option Int->Hp->VK->Prop}{te:TE}{tl th:TO}:tSl r te tl th σ H Q=te σ H fun x H1=>tl σ H1 fun l H2=>th σ H2 fun u H3=>r x l u H3 Q:=propext Iff.rfl
theorem AV {R:Option Int->Hp->Prop}:AO σ H R=R none H:=propext Iff.rfl
theorem Fw {t:TE}{R:Option Int->Hp->Prop}:H0 t σ H R=t σ H fun x H1=>∃ i,x=.int i/\R (some i) H1:=propext Iff.rfl
theorem CN {ta:TA}{R:It->Hp->Prop}:DE ta σ H R=ta σ H fun vs H1=>∃ j:Int,vs=[.int j]/\-(2^62)<=j/\j<2^62/\R (Itr 0 j.toNat) H1:=propext Iff.rfl
theorem CO {ta:TA}{R:It->Hp->Prop}:DF ta σ H R=ta σ H fun vs H1=>∃ i j:Int,vs=[.int i,.int j]/\(-(2^62)<=i/\i<2^62/\-(2^62)<=j/\j<2^62)/\R (Itr i (j-i).toNat) H1:=propext Iff.rfl
theorem Fp {K:PySem.W.Frag}{ta:TA}{R:It->Hp->Prop}:FY K ta σ H R=ta σ H fun vs H1=>∃ a b,vs=[.ref a,.ref b]/\(∃ xs,SqL K H1 a xs)/\(∃ ys,SqL K H1 b ys)/\R (Itz K a b) H1:=propext Iff.rfl
theorem HP {wi:TI}{g:TG}{tb:TS}:Kz wi g tb D σ H=wi σ H fun J H1=>jL g tb D J σ H1:=propext Iff.rfl
theorem HW {i j:Nat}{ta:TA}:K7 i j ta D σ H=ta σ H fun vs H1=>∃ v w,vs=[v,w]/\D.nx ((σ.set i (some v)).set j (some w)) H1:=propext Iff.rfl
theorem Fn {to ti:TE}{t:EZ}{v:V}{R:St->Hp->Prop}:JY to ti t v σ H R=to σ H fun o H1=>ti σ H1 fun i H2=>t o i v H2 fun H3=>R σ H3:=propext Iff.rfl
theorem JE {K:PySem.W.Frag}{T:String}{r:V->List V->Hp->VK->Prop}{to:TE}{t:TA}:tBM K T r to t σ H Q=to σ H fun x H1=>tyV K T x H1/\t σ H1 fun xs H2=>r x xs H2 Q:=propext Iff.rfl
theorem CH {r r':R2}{ta tb tc:TE}:zC r r' ta tb tc σ H Q=ta σ H fun x H1=>tb σ H1 fun y H2=>r x y H2 fun z H3=>∃ k,z=.bl k/\if k=true then tc σ H3 fun v H4=>r' y v H4 Q else Q (.bl false) H3:=propext Iff.rfl
theorem GZ {b:Bool}{P:Bool->Prop}:(∃ k,V.bl b=V.bl k/\P k)=P b:=propext ⟨fun ⟨k,e,h⟩=>by cases e;exact h,fun h=>⟨b,rfl,h⟩⟩
theorem Dt {b:Int}{P:Int->Prop}:(∃ k,V.int b=V.int k/\P k)=P b:=propext ⟨fun ⟨k,e,h⟩=>by cases e;exact h,fun h=>⟨b,rfl,h⟩⟩
theorem Du {b:Addr}{P:Addr->Prop}:(∃ k,V.ref b=V.ref k/\P k)=P b:=propext ⟨fun ⟨k,e,h⟩=>by cases e;exact h,fun h=>⟨b,rfl,h⟩⟩
theorem FL {b:Int}{P:Int->Prop}:(∃ k,[V.int b]=[V.int k]/\P k)=P b:=propext ⟨fun ⟨k,e,h⟩=>by cases e;exact h,fun h=>⟨b,rfl,h⟩⟩
theorem FN {b c:Int}{P:Int->Int->Prop}:(∃ k l,[V.int b,V.int c]=[V.int k,V.int l]/\P k l)=P b c:=propext ⟨fun ⟨k,l,e,h⟩=>by cases e;exact h,fun h=>⟨b,c,rfl,h⟩⟩
theorem FO {b c:Addr}{P:Addr->Addr->Prop}:(∃ k l,[V.ref b,V.ref c]=[V.ref k,V.ref l]/\P k l)=P b c:=propext ⟨fun ⟨k,l,e,h⟩=>by cases e;exact h,fun h=>⟨b,c,rfl,h⟩⟩
theorem Io {b c:V}{P:V->V->Prop}:(∃ k l,[b,c]=[k,l]/\P k l)=P b c:=propext ⟨fun ⟨k,l,e,h⟩=>by cases e;exact h,fun h=>⟨b,c,rfl,h⟩⟩
theorem FP {v:V}{P:V->Prop}:(∃ k,some (some v)=some (some k)/\P k)=P v:=propext ⟨fun ⟨k,e,h⟩=>by cases e;exact h,fun h=>⟨v,rfl,h⟩⟩
theorem EH {N:List Str}{vs:List V}:start N vs=vs.map some++List.replicate (N.length-vs.length) none:=rfl
end
inductive Tg where
 | non | bl | int | str | lst | tup | dct
 deriving DecidableEq
def Tg.name:Tg->String
 | .non=>"NoneType" | .bl=>"bool" | .int=>"int" | .str=>"str" | .lst=>"list" | .tup=>"tuple" | .dct=>"dict"
def Tg.sub:Tg->Tg->Bool
 | .non,.non=>true | .bl,.bl=>true | .int,.int=>true | .str,.str=>true | .lst,.lst=>true | .tup,.tup=>true | .dct,.dct=>true
 | .bl,.int=>true
 | _,_=>false
def i3:Option HO->Option Tg
 | some (.lst _)=>some .lst | some (.frz _ (.lst _))=>some .lst | some (.tup _)=>some .tup | some (.dK _)=>some .dct | some (.dT _)=>some .dct
 | _=>none
def eI (H:Hp):V->Option Tg
 | .non=>some .non | .bl _=>some .bl | .int _=>some .int | .str _=>some .str | .ref a=>i3 (H a)
 | _=>none
theorem DN (K:PySem.W.Frag):∀ t c:Tg,c≠.non->PySem.W.kitOne K (.type t.name) (.type c.name)=some (t.sub c):=by
 intro t c h
 cases t<;>cases c<;>first
  | exact absurd rfl h
  | rfl
  | kernel_rfl
  | decide +kernel
theorem Jw {x:V}{t:Tg} (h:eI H x=some t):mY K H x (.type t.name):=by
 cases x with
 | non=>cases h;exact .non
 | bl b=>cases h;exact .bl b
 | int i=>cases h;exact .int i
 | str z=>cases h;exact .str z
 | ref a =>
  have h':i3 (H a)=some t:=h
  cases e:H a with
  | none=>rw[e] at h';cases h'
  | some o =>
   rw[e] at h'
   cases o with
   | lst xs=>cases h';exact .lst e
   | tup xs=>cases h';exact .tup e
   | dK kvs=>cases h';exact .dK e
   | dT kvs=>cases h';exact .dT e
   | frz ob u=>cases u with
    | lst xs=>cases h';exact .frz e
    | _=>cases h'
   | _=>cases h'
 | _=>cases h
def Hh (c:Tg):List V->Hp->VK->Prop:=fun vs H Q=>match vs with
 | [x,.ty n]=>n=c.name/\∃ t,eI H x=some t/\Q (.bl (t.sub c)) H
 | _=>False
theorem eM (c:Tg) (hc:c≠.non:=by decide):cW X (.builtin "isinstance") (Hh c):=by
 intro pins s σ H xs us Q I r h
 match xs,h with
 | [x,.ty n],h =>
  obtain⟨rfl,t,ht,q⟩:=h
  exact CW pins s σ H _ us Q I r ⟨x,_,_,_,rfl,Jw ht,DN X.K t c hc,q⟩
theorem wj {c:TT}{tb:TS}{D:Ends} (Pv:St->Hp->Prop) (μ:St->Hp->Nat) (h0:Pv σ H)
  (hs:∀ σ H,Pv σ H->c σ H fun b H1=>if b=true then ∃ N:St->Hp->Prop,(∀ σ' H',N σ' H'->Pv σ' H'/\μ σ' H'<μ σ H)/\tb { D with nx:=N,ct:=N,bk:=D.nx } σ H1 else D.nx σ H1):ER c tb D σ H :=
 ⟨fun m σ H=>m=μ σ H/\Pv σ H,⟨_,rfl,h0⟩,fun m σ H ⟨e,p⟩=>by
  subst e
  have q:=hs σ H p
  have e:(fun (b:Bool) (H1:Hp)=>if b=true then ∃ N:St->Hp->Prop,(∀ σ' H',N σ' H'->Pv σ' H'/\μ σ' H'<μ σ H)/\tb { D with nx:=N,ct:=N,bk:=D.nx } σ H1 else D.nx σ H1) =
    fun (b:Bool) (H1:Hp)=>if b=true then ∃ N:St->Hp->Prop,(∀ σ' H',N σ' H'->∃ m',m'<μ σ H/\m'=μ σ' H'/\Pv σ' H')/\tb { D with nx:=N,ct:=N,bk:=D.nx } σ H1 else D.nx σ H1:=by
   funext b H1
   cases b with
   | false=>rfl
   | true =>
    simp only[if_true]
    refine propext ⟨fun ⟨N,h1,h2⟩=>⟨N,fun σ' H' n=>⟨_,(h1 σ' H' n).2,rfl,(h1 σ' H' n).1⟩,h2⟩,fun ⟨N,h1,h2⟩=>⟨N,fun σ' H' n=>?_,h2⟩⟩
    obtain⟨m',h3,h4,h5⟩:=h1 σ' H' n
    exact⟨h5,by rw[←h4];exact h3⟩
  rw[e] at q
  exact q⟩
theorem eN (xs:List V) (k:Nat):kZ xs (some (k:Int)) none=xs.drop k:=by
 unfold kZ
 rw[HT.mO,HT.oG]
 rw[dZ (by rw[bA];omega)]
 by_cases h:k<=xs.length
 ·rw[Nat.min_eq_left h]
 ·rw[Nat.min_eq_right (by omega),mh (aA _),mh (by omega)]
theorem mF (xs:List V) (k:Nat):kZ xs none (some (k:Int))=xs.take k:=by
 unfold kZ
 rw[HT.mO,HT.oG,Nat.sub_zero,List.drop_zero]
 by_cases h:k<=xs.length
 ·rw[Nat.min_eq_left h]
 ·rw[Nat.min_eq_right (by omega),dZ (aA _),dZ (by omega)]
theorem Ck (n:Nat):vO 0 n=(Mk.ofN n).map V.int:=by
 unfold vO Mk.ofN
 rw[aK]
 refine iS fun k _=>?_
 show V.int (0+(k:Int))=V.int (k:Int)
 rw[Int.zero_add]
theorem GL (n:Nat):(Itr 0 n).Seq H1 ((Mk.ofN n).map V.int):=by
 rw[←Ck];exact qg
theorem av {n:Nat} (h:n<=100000):n<sizeLine:=gw h (by decide)
section
variable {X:Cx}{K:PySem.W.Frag}
theorem cQ (hK:X.K=K) (hu:X.A.units<cLine):OpR X (compareOp .Eq) (qU K):=hK ▸ IU hu
theorem nv (hK:X.K=K) (hu:X.A.units<cLine):OpR X (compareOp .NotEq) (Cj K):=hK ▸ Jb hu
theorem dE (hK:X.K=K):IxR X (GJ K):=hK ▸ Lb
theorem aY (hK:X.K=K):cW X (.builtin "len") (AI K):=hK ▸ Bf
theorem gE (hK:X.K=K) (hc:X.calm=true):cW X (.builtin "all") (Kr K):=hK ▸ Bb hc
theorem Bj (hK:X.K=K) (hc:X.calm=true):cW X (.builtin "sum") (Kv K):=hK ▸ Bi hc
theorem nc (hK:X.K=K) (hc:X.calm=true):cW X (.type "list") (zm K):=hK ▸ yh hc
theorem GD {elts:List Expr}{k:Nat}{tpos:Pos}{a b:Expr}{p pos:Pos} (hK:X.K=K) (hg:Gl X "zip") (hm:X.mg "zip"=none) (ha:PA X [a,b] ta) (hs:starEach [a,b] X.env=[(false,eval a X.env),(false,eval b X.env)]:=by rfl)
  (hs2:starEach [b] X.env=[(false,eval b X.env)]:=by rfl):PI X (.Tuple elts k tpos) (.Call (.Name "zip" p) [a,b] [] pos) (FY K ta):=hK ▸ Jk hg hm ha hs hs2
theorem rC {k:Nat}{t:TGs}{n:Nat}{pos:Pos} (hK:X.K=K) (hc:X.calm=true) (h:PGs X es t)
  (hn:(assignEach es X.env).length=n:=by rfl) (hst:(assignEach es X.env).findIdx? (·.1)=none:=by rfl):PG X (.Tuple es k pos) (D5 K n t):=hK ▸ Eu hc h hn hst
theorem Jf {o e:Expr}{es:List Expr}{to:TE}{t:TA}{name:Str}{apos cpos:Pos}{T id:String}{r:V->List V->Hp->VK->Prop} (hK:X.K=K) (pa:PlainAttrs T) (slot:Slot T name id) (hty:typeOf (.builtin id)=pure (.type "method_descriptor"))
  (hm:MtR X id r) (ho:PE X o to) (ha:PA X (e::es) t)
  (hbase:attributeBase o name X.env (eval o X.env)=eval o X.env:=by rfl)
  (hfew:((backTo cpos (starEach (e::es) X.env)).all (fun x=>!x.1)&&(backToKw cpos (keywordEach [] X.env)).all (fun x=>x.1.isSome)
   && decide ((e::es).length+([]:List Keyword).length+(if ([]:List Keyword).isEmpty then 0 else 1)<30))=true:=by rfl)
  (hline:(apos.endLine==cpos.line)=true:=by rfl) (hs:starEach (e::es) X.env=(false,eval e X.env)::starEach es X.env:=by rfl) (hplain:(backTo cpos (starEach es X.env)).any (·.1)=false:=by rfl) :
  PE X (.Call (.Attribute o name apos) (e::es) [] cpos) (tBM K T r to t):=hK ▸ Kn pa slot hty hm ho ha hbase hfew hline hs hplain
end
end
section
def noStar:Expr->Bool
 | .Starred _ _=>false
 | _=>true
def dS (es:List Expr):Bool:=es.all noStar
theorem aU (h:noStar e=true):starEach (e::es) env=(false,eval e env)::starEach es env:=by
 cases e<;>first
  | rfl
  | cases h
theorem bh (h:dS (e::es)=true):noStar e=true/\dS es=true:=by
 unfold dS at h ⊢
 rw[iO,bS] at h
 exact h
theorem cZ {pos:Pos}{env:Env}:∀ {es:List Expr},dS es=true->(backTo pos (starEach es env)).any (·.1)=false
 | [],_=>rfl
 | e::es,h=>by
  obtain⟨h1,h2⟩:=bh h
  rw[aU h1]
  show (false||(backTo pos (starEach es env)).any (·.1))=false
  rw[cZ h2];rfl
theorem kx {pos:Pos}{env:Env}:∀ {es:List Expr},dS es=true->(backTo pos (starEach es env)).all (fun x=>!x.1)=true
 | [],_=>rfl
 | e::es,h=>by
  obtain⟨h1,h2⟩:=bh h
  rw[aU h1]
  show (true&&(backTo pos (starEach es env)).all (fun x=>!x.1))=true
  rw[kx h2];rfl
section
variable {X:Cx}{K:PySem.W.Frag}
theorem pvL (i:Nat) {pos:Pos} (hN:X.N[i]?=some x:=by kernel_rfl) (hv:X.env.scope.names.lookup x=some .local:=by kernel_rfl) (hd:(x==("__debug__":Str))=false:=by kernel_rfl)
  (hcd:(x==("__classdict__":Str))=false:=by kernel_rfl):PE X (.Name x pos) (tN i):=ze hN (.inl hv) hd hcd
theorem pvC (i:Nat) {pos:Pos} (hN:X.N[i]?=some x:=by kernel_rfl) (hv:X.env.scope.names.lookup x=some .cell:=by kernel_rfl) (hd:(x==("__debug__":Str))=false:=by kernel_rfl)
  (hcd:(x==("__classdict__":Str))=false:=by kernel_rfl):PE X (.Name x pos) (tN i):=ze hN (.inr (.inl hv)) hd hcd
theorem af {t:TA} (ha:PE X e te) (hr:PA X es t) (hs:noStar e=true:=by kernel_rfl):PA X (e::es) (oT te t):=Gr ha hr (aU hs)
theorem aF {E:St->XK}{k:Nat}{t:TA}{p pos:Pos} (C:Fnc X.prog X.w X.K X.mg X.base CX k x ps sp) (hx:Passes CX X E) (hr:dI k X.A) (ha:PA X (e::es) t)
  (hg:X.env.kindOf x=some .globalImplicit:=by kernel_rfl) (hd:(x==("__debug__":Str))=false:=by kernel_rfl) (hs:dS (e::es)=true:=by kernel_rfl):PE X (.Call (.Name x p) (e::es) [] pos) (AM sp [] E t) :=
 Ej C hx hr hg ha hd (aU (bh hs).1) (cZ (bh hs).2)
theorem a8 {p pos:Pos}{t:TA}{id:String}{r:List V->Hp->VK->Prop} (hc:cW X (.builtin id) r) (hm:X.mg x=none) (hv:bootBuiltins x=some (.builtin id)) (ha:PA X (e::es) t)
  (hg:X.env.kindOf x=some .globalImplicit:=by kernel_rfl) (hn:x≠"__name__":=by decide +kernel) (hd:(x==("__debug__":Str))=false:=by kernel_rfl) (hs:dS (e::es)=true:=by kernel_rfl):PE X (.Call (.Name x p) (e::es) [] pos) (tCB r t) :=
 Ei hc hg hm hv ha hn hd (aU (bh hs).1) (cZ (bh hs).2)
theorem eS {p pos:Pos}{t:TA}{r:List V->Hp->VK->Prop} (hc:cW X (.type T) r) (hm:X.mg x=none) (hv:bootBuiltins x=some (.type T)) (ha:PA X (e::es) t)
  (hg:X.env.kindOf x=some .globalImplicit:=by kernel_rfl) (hn:x≠"__name__":=by decide +kernel) (hd:(x==("__debug__":Str))=false:=by kernel_rfl) (hs:dS (e::es)=true:=by kernel_rfl):PE X (.Call (.Name x p) (e::es) [] pos) (tCB r t) :=
 Cc hc hg hm hv ha hn hd (aU (bh hs).1) (cZ (bh hs).2)
theorem iB {pos:Pos} (hm:X.mg x=none) (hv:bootBuiltins x=some (.type T)) (hg:X.env.kindOf x=some .globalImplicit:=by kernel_rfl) (hn:x≠"__name__":=by decide +kernel) (hd:(x==("__debug__":Str))=false:=by kernel_rfl) :
  PE X (.Name x pos) (tC (.ty T)):=Ko hg hm hv hn hd
theorem aB {pos pos':Pos} (hN:X.N.Nodup) (he:PE X e te) (hi:X.N[i]?=some x:=by kernel_rfl) (hx:X.env.scope.names.lookup x=some .local:=by kernel_rfl)
  (hs:swapsWith e (some (.Name x pos')) pos.line X.env=pure false:=by kernel_rfl):PS X (.Assign [.Name x pos'] e pos) (Cp te (fT i)):=Ex hN hi (.inl hx) he hs (.inr hx)
theorem vN {pos pos':Pos} (hN:X.N.Nodup) (he:PE X e te) (hi:X.N[i]?=some x:=by kernel_rfl) (hx:X.env.scope.names.lookup x=some .cell:=by kernel_rfl) (hf:X.fn x=true:=by kernel_rfl)
  (hs:swapsWith e (some (.Name x pos')) pos.line X.env=pure false:=by kernel_rfl):PS X (.Assign [.Name x pos'] e pos) (Cp te (fT i)):=Ex hN hi (.inr hx) he hs (.inl hf)
theorem aV (hN:X.N.Nodup) (hi:X.N[i]?=some x:=by kernel_rfl) (hx:X.env.scope.names.lookup x=some .local:=by kernel_rfl):PG X (.Name x pos) (fT i):=Gz hN hi (.inl hx) (.inr hx)
theorem fJ {tg a:Expr}{p pos:Pos} (hm:X.mg "range"=none) (ha:PA X [a] ta) (hg:X.env.kindOf "range"=some .globalImplicit:=by kernel_rfl) (hs:noStar a=true:=by kernel_rfl):PI X tg (.Call (.Name "range" p) [a] [] pos) (DE ta) :=
 Ce hg hm ha (aU hs)
theorem zg {tg a b:Expr}{p pos:Pos} (hm:X.mg "range"=none) (ha:PA X [a,b] ta) (hg:X.env.kindOf "range"=some .globalImplicit:=by kernel_rfl) (hs:noStar a=true:=by kernel_rfl) (hs2:noStar b=true:=by kernel_rfl) :
  PI X tg (.Call (.Name "range" p) [a,b] [] pos) (DF ta):=Cf hg hm ha (by rw[aU hs,aU hs2];rfl) (aU hs2)
theorem AA {elts:List Expr}{k:Nat}{tpos:Pos}{a b:Expr}{p pos:Pos} (hK:X.K=K) (hm:X.mg "zip"=none) (ha:PA X [a,b] ta) (hg:X.env.kindOf "zip"=some .globalImplicit:=by kernel_rfl) (hs:noStar a=true:=by kernel_rfl) (hs2:noStar b=true:=by kernel_rfl) :
  PI X (.Tuple elts k tpos) (.Call (.Name "zip" p) [a,b] [] pos) (FY K ta):=GD hK hg hm ha (by rw[aU hs,aU hs2];rfl) (aU hs2)
theorem dy {o e:Expr}{es:List Expr}{to:TE}{t:TA}{name:Str}{apos cpos:Pos}{T id:String}{r:V->List V->Hp->VK->Prop} (hK:X.K=K) (pa:PlainAttrs T) (slot:Slot T name id) (hty:typeOf (.builtin id)=pure (.type "method_descriptor"))
  (hm:MtR X id r) (ho:PE X o to) (ha:PA X (e::es) t)
  (hbase:attributeBase o name X.env (eval o X.env)=eval o X.env:=by kernel_rfl) (hs:dS (e::es)=true:=by kernel_rfl) (hlen:decide ((e::es).length<30)=true:=by kernel_rfl)
  (hline:(apos.endLine==cpos.line)=true:=by kernel_rfl):PE X (.Call (.Attribute o name apos) (e::es) [] cpos) (tBM K T r to t):=by
 refine Jf hK pa slot hty hm ho ha hbase ?_ hline (aU (bh hs).1) (cZ (bh hs).2)
 rw[kx hs]
 show (true&&true&&decide ((e::es).length+0+0<30))=true
 rw[fG,fG];exact hlen
end
end
section
def tx (l:List Nat):Str:=⟨l.toArray⟩
theorem b0 (l:List Nat):(tx l).cps.toList=l:=by unfold tx;simp
theorem aJ (l:List Nat):(tx l).length=l.length:=by show l.toArray.size=_;simp
theorem iq (x:Str):tx x.cps.toList=x:=by unfold tx;simp
theorem cy (a b:List Nat):tx a++tx b=tx (a++b):=by
 show Str.mk (a.toArray++b.toArray)=Str.mk (a++b).toArray
 simp
theorem dG {a b:List Nat} (h:tx a=tx b):a=b:=by have:=aG (fun x:Str=>x.cps.toList) h;simpa [tx] using this
theorem cR (x:Str):x.length=x.cps.toList.length:=by show x.cps.size=_;simp
def Itx (z:Str):It:=⟨fun i _=>i<z.cps.size,fun i H v H'=>H'=H/\∃ c,z.cps[i]?=some c/\v=.str ⟨#[c]⟩,fun i _=>z.cps.size<=i⟩
theorem xX {tg:Expr} (n:String) (hn:n="str_ascii_iterator"∨n="str_iterator") (z:Str) (t:Tok) (it:Addr):Turn P w K tg (Itx z) [it] it (fun i h=>h.IsStrIter it n z t i) where
 mem:=by simp
 obj:=fun i h st b hb=>by
  have e:b=it:=by simpa using hb
  subst e
  obtain⟨o,e,c,d⟩:=st
  exact⟨o,e,fun v z=>by rw[d] at z;cases z⟩
 keep:=fun i h h' st k=>by
  obtain⟨o,e,c,d⟩:=st
  exact⟨o,k it (by simp) o e,c,d⟩
 item:=by
  intro X hP hw hK hc i pins s σ H E I hf st hg
  subst hP hw hK
  have hg':i<z.cps.size:=hg
  have hx:z.cps[i]?=some z.cps[i]:=Array.getElem?_eq_getElem hg'
  obtain⟨f0,f1,f2,f3,f4,f5⟩:=hf it (by simp)
  have go:∀ h',h'.IsStrIter it n z t (i+1)->Heap.SameBut it s.heap h'->∃ u,some (Value.str ⟨#[z.cps[i]]⟩ s.toks)=some u ∧
    wpAny (model X.prog X.w) X.A (letOwnedTupleGo tg (.ref it) u) (fun _ s2=>∃ x H',Inv X pins σ H' s2/\RelV x u/\(Itx z).yld i H x H'/\s2.heap.IsStrIter it n z t (i+1)/\∀ b∈[it],H' b=none) E { s with heap:=h',toks:=s.toks+1 }:=fun h' st' sb=>by
   have I1:Inv X pins σ H { s with heap:=h',toks:=s.toks+1 }:=I.turned (t':=s.toks+1) (fun b o hb e=>(sb.2 b hb).trans e) f0 f1 f3 f4 f5
   obtain⟨o,e,c,d⟩:=id st'
   exact⟨_,rfl,Aj (s:={ s with heap:=h',toks:=s.toks+1 }) e c d (by rcases hn with rfl | rfl<;>decide) ⟨.str ⟨#[z.cps[i]]⟩,H,I1,⟨_,rfl⟩,⟨rfl,_,hx,rfl⟩,st',fun b hb=>(hf b hb).1⟩⟩
  rcases hn with rfl | rfl
  ·exact wpAny_pyNext_ascii_item st hx go
  ·exact wpAny_pyNext_wide_item st hx go
 done:=by
  intro X hP hw hK hc i pins s σ H E I hf st hg
  subst hP hw hK
  have hx:z.cps[i]?=none:=Array.getElem?_eq_none hg
  obtain⟨f0,f1,f2,f3,f4,f5⟩:=hf it (by simp)
  have go:∀ h',Heap.ExtBut it s.heap h'->(none:Option Value)=none/\Inv X pins σ H { s with heap:=h' }:=fun h' eb =>
   ⟨rfl,I.turned (t':=s.toks) (fun b o hb e=>eb b o hb e) f0 f1 f3 f4 f5⟩
  rcases hn with rfl | rfl
  ·exact wpAny_pyNext_ascii_end (I.ok.hd hc) st hx go
  ·exact wpAny_pyNext_wide_end (I.ok.hd hc) st hx go
 self:=fun _ _ _ _ _ st h=>by
  rcases hn with rfl | rfl
  ·exact wpAny_pyIter_striter_ascii st h
  ·exact wpAny_pyIter_striter_wide st h
def Ak (K:PySem.W.Frag) (x:V) (H:Hp) (R:It->Hp->Prop):Prop:=match x with
 | .ref a=>((∃ xs,SqL K H a xs)/\R (Itl K a) H)∨((∃ xs,SqT K H a xs)/\R (Itt K a) H)
 | .str z=>R (Itx z) H
 | _=>False
def DG (K:PySem.W.Frag) (te:TE):TI:=fun σ H R=>te σ H fun x H1=>Ak K x H1 R
theorem Jj {tg l:Expr} (hl:PE X l tl):PI X tg l (DG X.K tl):=by
 intro pins s σ H R I h
 refine thn (hl pins s σ H _ I h) fun v s1 ⟨x,H1,I1,r1,q1⟩=>?_
 cases x with
 | ref a =>
  cases r1
  rcases q1 with ⟨⟨xs,hq⟩,q⟩ | ⟨⟨xs,hq⟩,q⟩
  ·obtain⟨its,rv,p,hz⟩:=I1.list hq
   refine wpAny_pyIter_list p.isList ?_
   refine⟨s1.heap.objs.size,[s1.heap.objs.size],_,_,H1,rfl,I1.kept (t':=s1.toks) fun b o e=>aW _ e,Cu a _,⟨_,bL _ rfl,rfl,rfl⟩,fun b hb=>?_,q⟩
   have e:b=s1.heap.objs.size:=by simpa using hb
   subst e
   exact I1.wQ (aA _) (I1.hok.fresh (aA _))
  ·obtain⟨its,rv,p,hz⟩:=I1.tuple hq
   refine wpAny_pyIter_tuple (show s1.heap.IsTuple a its.toArray from p) ?_
   refine⟨s1.heap.objs.size,[s1.heap.objs.size],_,_,H1,rfl,I1.kept (t':=s1.toks) fun b o e=>aW _ e,zF a _,⟨_,bL _ rfl,rfl,rfl⟩,fun b hb=>?_,q⟩
   have e:b=s1.heap.objs.size:=by simpa using hb
   subst e
   exact I1.wQ (aA _) (I1.hok.fresh (aA _))
 | str z =>
  obtain⟨t,rfl⟩:=r1
  cases ha:z.cps.all (·<128) with
  | true =>
   refine wpAny_pyIter_ascii ha ?_
   refine⟨s1.heap.objs.size,[s1.heap.objs.size],_,_,H1,rfl,I1.kept (t':=s1.toks) fun b o e=>aW _ e,xX "str_ascii_iterator" (.inl rfl) z t _,⟨_,bL _ rfl,rfl,rfl⟩,fun b hb=>?_,q1⟩
   have e:b=s1.heap.objs.size:=by simpa using hb
   subst e
   exact I1.wQ (aA _) (I1.hok.fresh (aA _))
  | false =>
   refine wpAny_pyIter_wide ha ?_
   refine⟨s1.heap.objs.size,[s1.heap.objs.size],_,_,H1,rfl,I1.kept (t':=s1.toks) fun b o e=>aW _ e,xX "str_iterator" (.inr rfl) z t _,⟨_,bL _ rfl,rfl,rfl⟩,fun b hb=>?_,q1⟩
   have e:b=s1.heap.objs.size:=by simpa using hb
   subst e
   exact I1.wQ (aA _) (I1.hok.fresh (aA _))
 | _=>exact False.elim q1
theorem cF {tg l:Expr} (hK:X.K=K) (hl:PE X l tl):PI X tg l (DG K tl):=hK ▸ Jj hl
theorem Fo {σ:St}{H:Hp}{K:PySem.W.Frag}{tl:TE}{R:It->Hp->Prop}:DG K tl σ H R=tl σ H fun x H1=>Ak K x H1 R:=propext Iff.rfl
def sgs (z:Str):List V:=z.cps.toList.map fun c=>V.str ⟨#[c]⟩
theorem GN (z:Str):(Itx z).Seq H1 (sgs z):=fun H s=>by
 refine⟨fun i x e=>?_,fun i hi=>?_⟩
 ·unfold sgs at e
  rw[bY,kS] at e
  cases hc:z.cps[i]? with
  | none=>rw[hc] at e;cases e
  | some c =>
   rw[hc] at e
   have e':V.str ⟨#[c]⟩=x:=Option.some.inj e
   have hi:i<z.cps.size:=by
    rcases Nat.lt_or_ge i z.cps.size with h | h
    ·exact h
    ·rw[Array.getElem?_eq_none h] at hc;cases hc
   exact⟨hi,fun y H' ⟨e1,d,e2,e3⟩=>⟨e1,by rw[hc] at e2;cases e2;rw[e3,e']⟩⟩
 ·show z.cps.size<=i
  unfold sgs at hi
  simpa using hi
def Jo (K:PySem.W.Frag) (neg:Bool):R2:=fun x y H Q=>match y with
 | .str j=>match x with
  | .str i=>Q (.bl (neg != !(Builtin.Str.occurrences j i 0 j.length 1).isEmpty)) H
  | _=>False
 | .ref p=>(∃ xs,Sq K H p xs/\dX x=true/\xs.all dX=true/\Q (.bl (neg != inV x xs)) H)∨∃ o:Option V,lj H p x o/\Q (.bl (neg != o.isSome)) H
 | _=>False
theorem IW (hu:X.A.units+1<cLine):OpR X (compareOp .In) (Jo X.K false):=by
 intro pins s σ H x y v u Q I rx ry h
 cases y with
 | str j=>cases x with
  | str i =>
   refine Ca pins s σ H _ _ v u Q I rx ry ⟨i,j,rfl,rfl,?_⟩
   have h':Q (.bl (false != !(Builtin.Str.occurrences j i 0 j.length 1).isEmpty)) H:=h
   rwa [Bool.false_bne] at h'
  | _=>exact False.elim h
 | ref p =>
  rcases h with ⟨xs,hs,fx,fxs,q⟩ | ⟨o,hg,q⟩
  ·rw[Bool.false_bne] at q
   exact BZ pins s σ H _ _ v u Q I rx ry ⟨p,xs,rfl,hs,fx,fxs,q⟩
  ·rw[Bool.false_bne] at q
   cases ry
   exact La hu I hg rx fun s' I'=>⟨.bl _,H,I',rfl,q⟩
 | _=>exact False.elim h
theorem lF (hK:X.K=K) (hu:X.A.units+1<cLine):OpR X (compareOp .In) (Jo K false):=hK ▸ IW hu
theorem vi (x:Str) (c:Nat):(!(Builtin.Str.occurrences x ⟨#[c]⟩ 0 x.length 1).isEmpty)=decide (c∈x.cps.toList):=StrLaws.found_one x c
theorem xZ {c i:Nat}:StrLaws.At x ⟨#[c]⟩ x.length i↔x.cps.toList[i]?=some c:=by
 unfold StrLaws.At Builtin.Str.subAt
 show i+1<=x.cps.size/\(x.cps.extract i (i+1)==#[c])=true↔_
 rw[kS]
 constructor
 ·rintro⟨h1,h2⟩
  have e:=eq_of_beq h2
  have:x.cps[i]?=(x.cps.extract i (i+1))[0]?:=by
   rw[Array.getElem?_extract];simp;omega
  rw[this,e];rfl
 ·intro h
  have hi:i<x.cps.size:=by
   rcases Nat.lt_or_ge i x.cps.size with h' | h'
   ·exact h'
   ·rw[Array.getElem?_eq_none h'] at h;cases h
  refine⟨hi,?_⟩
  have:x.cps.extract i (i+1)=#[c]:=by
   apply Array.ext
   ·simp;omega
   ·intro j h1 h2
    have hj:j=0:=by simp at h2;omega
    subst hj
    have e:=Array.getElem?_eq_getElem hi
    rw[h] at e
    simp [Option.some.inj e]
  rw[this];exact beq_self_eq_true _
theorem rT {c:Nat} (h:c∈x.cps.toList):Txt.find x ⟨#[c]⟩=((x.cps.toList.idxOf c:Nat):Int):=by
 have hi:x.cps.toList.idxOf c<x.cps.toList.length:=mx h
 have hg:x.cps.toList[x.cps.toList.idxOf c]?=some c:=by
  rw[bu hi,List.getElem_idxOf]
 rcases find_whole x ⟨#[c]⟩ with ⟨_,hn⟩ | ⟨i,e,hi2,hn⟩
 ·exact absurd (xZ.mpr hg) (hn _)
 ·rw[e]
  have h1:¬ x.cps.toList.idxOf c<i:=fun z=>hn _ z (xZ.mpr hg)
  have h2:=xZ.mp hi2
  have h3:x.cps.toList.idxOf c<=i:=by
   rcases Nat.lt_or_ge i (x.cps.toList.idxOf c) with z | z
   ·obtain⟨hl,e2⟩:=b9.mp h2
    have h5:=List.not_of_lt_findIdx (p:=(·==c)) (xs:=x.cps.toList) (i:=i) z
    rw[e2] at h5
    simp at h5
   ·exact z
  congr 1
  omega
def AG:V->List V->Hp->VK->Prop:=fun x vs H Q=>match x,vs with
 | .str z,[.str y]=>0<=Txt.find z y/\Q (.int (Txt.find z y)) H
 | _,_=>False
theorem uE :MtM X "str.index" AG:=by
 intro pins s σ H x vs v us Q I rx rv h
 match x,vs,h with
 | .str z,[.str y],h =>
  obtain⟨t,rfl⟩:=rx
  obtain⟨u,rfl,t',rfl⟩:=rv.one
  cases ho:Builtin.Str.occurrences z y 0 z.length 1 with
  | nil =>
   have e:Txt.find z y=-1:=by simp [Txt.find,ho]
   have h1:=h.1
   rw[e] at h1
   exact absurd h1 (by decide)
  | cons i rest =>
   have e:Txt.find z y=(i:Int):=by simp [Txt.find,ho]
   refine SC.index ho ?_
   have h2:=h.2
   rw[e] at h2
   exact⟨.int _,H,I.tok _,⟨_,rfl⟩,h2⟩
theorem GV {ys:List Str}:∀ {us:List Value},Vals (ys.map V.str) us->StrsAre us ys:=by
 induction ys with
 | nil=>intro us r;cases r;exact .nil
 | cons y r ih =>
  intro us h
  cases h with
  | cons h1 h2 =>
   obtain⟨t,rfl⟩:=h1
   exact .cons _ _ (ih h2)
def zl (K:PySem.W.Frag):V->List V->Hp->VK->Prop:=fun x vs H Q=>match x,vs with
 | .str z,[.ref p]=>∃ ys:List Str,SqL K H p (ys.map V.str)/\(ys.map (·.length)).sum+ys.length*z.length<=16777216/\Q (.str (Txt.join z ys)) H
 | _,_=>False
theorem DU :MtM X "str.join" (zl X.K):=by
 intro pins s σ H x vs v us Q I rx rv h
 match x,vs,h with
 | .str z,[.ref p],h =>
  obtain⟨ys,hs,hl,q⟩:=h
  obtain⟨t,rfl⟩:=rx
  obtain⟨u,rfl,ru⟩:=rv.one
  cases ru
  obtain⟨its,rv2,pl,hz⟩:=I.list hs
  exact join_list pl.isList (by simpa using GV rv2) hl fun t' k=>⟨.str _,H,I.tok _,⟨_,rfl⟩,q⟩
theorem gS (hK:X.K=K):MtM X "str.join" (zl K):=hK ▸ DU
theorem sf (ls:List (List Nat)):Txt.join (tx []) (ls.map tx)=tx ls.flatten:=by
 have go:∀ (r:List (List Nat)) (acc:List Nat),(r.map tx).foldl (fun acc p=>acc++(tx []).cps++p.cps) acc.toArray=(acc++r.flatten).toArray:=by
  intro r
  induction r with
  | nil=>intro acc;simp
  | cons a r ih =>
   intro acc
   rw[aQ,List.foldl_cons]
   have e:acc.toArray++(tx []).cps++(tx a).cps=(acc++a).toArray:=by simp [tx]
   rw[e,ih]
   simp
 unfold Txt.join Builtin.Str.glued
 cases ls with
 | nil=>rfl
 | cons a r =>
  have:=go r a
  show Str.mk ((r.map tx).foldl (fun acc p=>acc++(tx []).cps++p.cps) a.toArray)=tx (a::r).flatten
  rw[this]
  rfl
theorem yR (l:List Nat):Txt.join (tx []) (l.map fun c=>tx [c])=tx l:=by
 have:=sf (l.map fun c=>[c])
 rw[aK] at this
 rw[show (l.map fun c=>tx [c])=l.map (tx ∘ fun c=>[c]) from rfl,this]
 congr 1
 induction l with
 | nil=>rfl
 | cons a r ih=>rw[aQ,mm,ih (by
   have:=sf (r.map fun c=>[c])
   rw[aK] at this;exact this)];rfl
section
variable {α β:Type}
noncomputable def pull {γ:Type} (e:α->V) (f:α->γ) (d:γ) (v:V):γ:=open Classical in if h:∃ a,e a=v then f (Classical.choose h) else d
theorem jd {γ:Type}{e:α->V} (inj:∀ a b,e a=e b->a=b) (f:α->γ) (d:γ) (a:α):pull e f d (e a)=f a:=by
 unfold pull
 have h:∃ b,e b=e a:=⟨a,rfl⟩
 rw[dif_pos h,inj _ _ (Classical.choose_spec h)]
theorem gN:∀ a b:Int,V.int a=V.int b->a=b:=fun _ _ h=>by cases h;rfl
theorem rX:∀ a b:Nat,V.str ⟨#[a]⟩=V.str ⟨#[b]⟩->a=b:=fun _ _ h=>by cases h;rfl
theorem Gg {xs:List α}{js:List Nat}{σ:St}{tc:TT}{te:TE}{Q:VK} (e:α->V) (inj:∀ a b,e a=e b->a=b) (hJ:J.Seq H1 (xs.map e)) (hl:xs.length<sizeLine) (p:α->Bool) (f:α->V)
  (hc:∀ x∈xs,∀ H,aD H1 H->∀ R:Bool->Hp->Prop,(∀ H',aD H H'->R (p x) H')->tc (some (e x)::js.map fun j=>(σ[j]?).join) H R)
  (he:∀ x∈xs,p x=true->∀ H,aD H1 H->∀ R:VK,(∀ H',aD H H'->R (f x) H')->te (some (e x)::js.map fun j=>(σ[j]?).join) H R)
  (q:∀ D H,H1 D=none->aD H1 H->H D=some (.lst ((xs.filter p).map f))->Q (.ref D) H):fD (fT 0) tc te (i9 1 js σ) J H1 Q:=by
 refine DO hJ (by rw[aj];exact hl) (pull e p false) (pull e f .non) ?_ ?_ ?_
 ·intro v hv H s R hR
  obtain⟨x,hx,rfl⟩:=aM.mp hv
  rw[jd inj] at hR
  exact hc x hx H s R hR
 ·intro v hv hp H s R hR
  obtain⟨x,hx,rfl⟩:=aM.mp hv
  rw[jd inj] at hR hp
  exact he x hx hp H s R hR
 ·intro D H h1 h2 h3
  refine q D H h1 h2 ?_
  rw[h3,List.filter_map,aK]
  congr 2
  have e1:pull e f .non ∘ e=f:=funext fun a=>jd inj f .non a
  have e2:pull e p false ∘ e=p:=funext fun a=>jd inj p false a
  rw[e1,e2]
theorem qP {xs:List α}{js:List Nat}{σ:St}{te:TE}{Q:VK} (e:α->V) (inj:∀ a b,e a=e b->a=b) (hJ:J.Seq H1 (xs.map e)) (hl:xs.length<sizeLine) (f:α->V)
  (he:∀ x∈xs,∀ H,aD H1 H->∀ R:VK,(∀ H',aD H H'->R (f x) H')->te (some (e x)::js.map fun j=>(σ[j]?).join) H R)
  (q:∀ D H,H1 D=none->aD H1 H->H D=some (.lst (xs.map f))->Q (.ref D) H):fD (fT 0) Cr te (i9 1 js σ) J H1 Q :=
 Gg e inj hJ hl (fun _=>true) f (fun x _ H _ R hR=>hR H (aD.refl H)) (fun x hx _ H s R hR=>he x hx H s R hR) fun D H h1 h2 h3=>q D H h1 h2 (by rw[List.filter_eq_self.mpr (fun _ _=>rfl)] at h3;exact h3)
theorem Ka {K:PySem.W.Frag}{a b:Addr}{H1:Hp}{xs:List α}{ys:List β}{js:List Nat}{σ:St}{te:TE}{Q:VK} (e:α->V) (e':β->V) (inj:∀ a b,e a=e b->a=b) (inj':∀ a b,e' a=e' b->a=b)
  (hx:SqL K H1 a (xs.map e)) (hy:SqL K H1 b (ys.map e')) (hl:xs.length<sizeLine) (f:α->β->V)
  (he:∀ x y,(x,y)∈xs.zip ys->∀ H,aD H1 H->∀ R:VK,(∀ H',aD H H'->R (f x y) H')->te (some (e x)::some (e' y)::js.map fun j=>(σ[j]?).join) H R)
  (q:∀ D H,H1 D=none->aD H1 H->H D=some (.lst ((xs.zip ys).map fun p=>f p.1 p.2))->Q (.ref D) H):fD (D5 K 2 (qo (fT 0) (qo (fT 1) D4))) Cr te (i9 2 js σ) (Itz K a b) H1 Q:=by
 refine IG hx hy (by rw[aj];exact hl) (fun v u=>pull e (fun x=>pull e' (f x) .non u) .non v) ?_ ?_
 ·intro v u hvu H s R hR
  rw[List.zip_map,aM] at hvu
  obtain⟨⟨x,y⟩,hxy,e2⟩:=hvu
  cases e2
  have e3:pull e (fun x=>pull e' (f x) .non (e' y)) .non (e x)=f x y:=by rw[jd inj,jd inj']
  exact he x y hxy H s R (fun H' s'=>by have:=hR H' s';rwa [e3] at this)
 ·intro D H h1 h2 h3
  refine q D H h1 h2 ?_
  rw[h3,List.zip_map,aK]
  congr 2
  refine iS fun ⟨x,y⟩ _=>?_
  show pull e (fun x=>pull e' (f x) .non (e' y)) .non (e x)=f x y
  rw[jd inj,jd inj']
end
theorem tI (z:Str):(Itx z).Seq H1 (z.cps.toList.map fun c=>V.str ⟨#[c]⟩):=GN z
theorem oS {x:V}{t:Tg} (ht:eI H x=some t) (hs:∀ z,x≠.str z):t≠.str:=fun e=>by
 subst e
 cases x with
 | str z=>exact hs z rfl
 | ref a =>
  have h':i3 (H a)=some .str:=ht
  cases e:H a with
  | none=>rw[e] at h';cases h'
  | some o=>rw[e] at h';cases o with
   | frz ob u=>cases u<;>cases h'
   | _=>cases h'
 | _=>cases ht
theorem yk {a b:Int} (ha:0<=a/\a<1000) (hb:0<=b/\b<1000):EX a b :=
 ⟨bD (show a.natAbs<1000 by omega) (by decide),bD (show b.natAbs<1000 by omega) (by decide)⟩
theorem zS {t u:TS} (R:St->Hp->Prop) (h2:∀ σ' H',R σ' H'->u D σ' H') (h1:∀ U:St->Hp->Prop,(∀ σ' H',R σ' H'->U σ' H')->t { D with nx:=U } σ H):Cq t u D σ H:=h1 _ h2
theorem uR {l:List α}{i:Int}{v:α} (h0:0<=i) (h1:l[i.toNat]?=some v):atI l i=some v:=by
 have:=bB h1
 rwa [md h0] at this
theorem mD:(Str.ofString "abcdefghijklmnopqrstuvwxyz").cps.toList=List.range' 97 26:=by decide +kernel
theorem Di:Str.ofString ""=tx []:=by decide +kernel
theorem Iz {D:Addr}{l:List Nat} (h:H D=some (.lst (l.map fun c=>V.str (tx [c])))):SqL K H D ((l.map fun c=>tx [c]).map V.str):=.of (by rw[h,aK];rfl)
theorem Iy {l:List Nat} (hl:l.length<=100000):((l.map fun c=>tx [c]).map (·.length)).sum+(l.map fun c=>tx [c]).length*(Str.ofString "").length<=16777216:=by
 have e2:(Str.ofString "").length=0:=by decide +kernel
 rw[e2,Nat.mul_zero,Nat.add_zero,aK]
 have e:∀ l:List Nat,(l.map ((fun x:Str=>x.length) ∘ fun x=>tx [x])).sum=l.length:=by
  intro l
  induction l with
  | nil=>rfl
  | cons a r ih=>rw[aQ,fb,ih,ag];show (tx [a]).length+_=_;rw[aJ];simp;omega
 rw[e]
 omega
theorem Ga (l:List Nat):Txt.join (Str.ofString "") (l.map fun c=>tx [c])=tx l:=by rw[Di,yR]
end
section
def DK (h h':Heap):Prop:=∀ b o,h.get? b=some o->∃ o',h'.get? b=some o'/\o'.cls=o.cls/\o'.dict=o.dict/\(∀ vs,o.data=.fields vs->∃ vs',o'.data=.fields vs'/\vs'[2]?=vs[2]?)
theorem DK.refl (h:Heap):DK h h:=fun b o e=>⟨o,e,rfl,rfl,fun vs q=>⟨vs,q,rfl⟩⟩
theorem DK.trans {h1 h2 h3:Heap} (x:DK h1 h2) (y:DK h2 h3):DK h1 h3:=fun b o e=>by
 obtain⟨o1,e1,c1,d1,f1⟩:=x b o e
 obtain⟨o2,e2,c2,d2,f2⟩:=y b o1 e1
 exact⟨o2,e2,c2.trans c1,d2.trans d1,fun vs q=>by obtain⟨v1,q1,g1⟩:=f1 vs q;obtain⟨v2,q2,g2⟩:=f2 v1 q1;exact⟨v2,q2,g2.trans g1⟩⟩
theorem DK.push (h:Heap) (o:Obj):DK h (h.push o):=fun b u e=>⟨u,aW _ e,rfl,rfl,fun vs q=>⟨vs,q,rfl⟩⟩
structure KD {α:Type} (m:Sem α):Prop where
 out:∀ (M:Model) (Γ:PySem.Ctx) (P:α->Pos->Shared->Prop) (Ee:Value->Pos->Shared->Prop) (p:Pos) (s:Shared),Sem.wp M Γ m P Ee p s →
  Sem.wp M Γ m (fun a p' s'=>P a p' s'/\DK s.heap s'.heap) (fun e p' s'=>Ee e p' s'/\DK s.heap s'.heap) p s
namespace KD
variable {α β:Type}
theorem pure (a:α):KD (Pure.pure a:Sem α):=⟨fun _ _ _ _ _ s h=>⟨h,DK.refl _⟩⟩
theorem unsupported (w:String):KD (PySem.unsupported w:Sem α):=⟨fun _ _ _ _ _ _ h=>h⟩
theorem bind {m:Sem α}{f:α->Sem β} (hm:KD m) (hf:∀ a,KD (f a)):KD (m >>= f):=⟨fun M Γ P Ee p s h=>by
 rw[Sem.wp_bind'] at h ⊢
 refine Sem.wp_mono M Γ m (fun a p' s' h'=>?_) (fun _ _ _ x=>x) p s (hm.out M Γ _ _ p s h)
 refine Sem.wp_mono M Γ (f a) (fun b p2 s2 h2=>⟨h2.1,h'.2.trans h2.2⟩) (fun e p2 s2 h2=>⟨h2.1,h'.2.trans h2.2⟩) p' s' ((hf a).out M Γ P Ee p' s' h'.1)⟩
theorem ite {c:Prop} [Decidable c] {t u:Sem α} (ht:KD t) (hu:KD u):KD (if c then t else u):=by split<;>assumption
theorem load (a:Addr):KD (PySem.load a):=⟨fun _ _ _ _ _ s h=>by obtain⟨o,e,q⟩:=h;exact⟨o,e,q,DK.refl _⟩⟩
theorem stack:KD PySem.stack:=⟨fun M Γ P Ee p s h=>by
 unfold PySem.stack at h ⊢
 rw[Sem.wp_stack] at h ⊢
 exact⟨h,DK.refl _⟩⟩
theorem alloc (o:Obj):KD (PySem.alloc o):=⟨fun _ _ _ _ _ s h=>⟨h,DK.push _ _⟩⟩
theorem field (v:Value) (i:Nat):KD (PySem.field v i):=⟨fun _ Γ P Ee p s h=>by
 rw[wp_field_iff] at h ⊢
 obtain⟨a,o,vs,x,e1,e2,e3,e4,q⟩:=h
 exact⟨a,o,vs,x,e1,e2,e3,e4,q,DK.refl _⟩⟩
theorem update {a:Addr}{f:Obj->Obj} (hf:∀ o,(f o).cls=o.cls/\(f o).dict=o.dict/\(f o).isFreed=o.isFreed/\∀ vs,o.data=.fields vs->∃ vs',(f o).data=.fields vs'/\vs'[2]?=vs[2]?):KD (PySem.update a f):=⟨fun _ _ _ _ _ s h=>by
 refine⟨h.1,h.2,fun b o e=>?_⟩
 by_cases hb:b=a
 ·subst hb
  obtain⟨h1,h2,h3,h4⟩:=hf o
  have hfr:o.isFreed=false:=(Heap.get?_some_iff.mp e).2
  exact⟨f o,kb _ e (by rw[h3];exact hfr),h1,h2,h4⟩
 ·exact⟨o,(eU _ _ (Ne.symm hb)).trans e,rfl,rfl,fun vs q=>⟨vs,q,rfl⟩⟩⟩
theorem setField (v:Value) (i:Nat) (x:Value) (hi:i≠2):KD (PySem.setField v i x):=⟨fun _ Γ P Ee p s h=>by
 rw[wp_setField_iff] at h ⊢
 obtain⟨a,o,vs,e1,e2,e3,e4,q⟩:=h
 refine⟨a,o,vs,e1,e2,e3,e4,q,fun b u e=>?_⟩
 by_cases hb:b=a
 ·subst hb
  rw[e2] at e
  cases e
  have hd:=Obj.data_mapFields e3 (·.setIfInBounds i x)
  exact⟨_,kb _ e2 (Obj.isFreed_of_fields hd),Obj.cls_mapFields ..,by cases o with | mk c d dt sl=>cases dt<;>first | rfl,fun vs' q=>⟨_,hd,by rw[e3] at q;cases q;exact Array.getElem?_setIfInBounds_ne hi⟩⟩
 ·exact⟨u,(eU _ _ (Ne.symm hb)).trans e,rfl,rfl,fun vs q=>⟨vs,q,rfl⟩⟩⟩
theorem slots {a:Addr}{g:Obj->Array (Option Value)}:KD (PySem.update a fun o=>{ o with slots:=g o }):=update fun o=>⟨rfl,rfl,by cases o with | mk c d dt sl=>cases dt<;>rfl,fun vs q=>⟨vs,q,rfl⟩⟩
end KD
theorem BL (env:Env) (outer:List Env):KD (behindIsImport env outer):=by
 unfold behindIsImport
 repeat' with_reducible first | exact KD.pure _ | exact KD.field _ _ | apply KD.ite | apply KD.bind | intro _
theorem BM:KD underTheClaimsCaller:=by
 unfold underTheClaimsCaller
 repeat' with_reducible first | exact KD.pure _ | exact KD.stack | exact KD.unsupported _ | exact KD.field _ _ | apply KD.ite | apply KD.bind | intro _ | split
theorem Gb (env:Env) (i:Bool) (l:List Env):KD (keptBack env i l):=by
 have:=BM
 cases l<;>unfold keptBack<;>repeat' with_reducible first | assumption | exact KD.pure _ | apply KD.ite | apply KD.bind | intro _
theorem wX:∀ l:List Env,KD (readyFrames l)
 | []=>KD.pure _
 | env::outer=>by
  have ih:=wX outer
  have h1:=BL env outer
  have h2:=fun i=>Gb env i outer
  unfold readyFrames
  split
  ·refine KD.bind (KD.load _) fun o=>KD.ite (KD.pure _) (KD.bind h1 fun b=>KD.bind (h2 b) fun v=>KD.bind KD.slots fun _=>ih)
  ·exact KD.unsupported _
theorem si (l:List Env):KD (frameObject l):=by
 cases l with
 | nil=>exact KD.pure _
 | cons a r=>unfold frameObject;exact KD.bind (wX _) fun _=>KD.pure _
theorem yS (env:Env):KD (PySem.frameOf env):=by
 unfold PySem.frameOf frameEnvs
 refine KD.bind (KD.bind KD.stack fun _=>KD.pure _) fun l=>KD.bind (si _) fun o=>?_
 cases o with
 | none=>exact KD.unsupported _
 | some v=>exact KD.pure _
theorem DL (f:Addr) (b:Bool):KD (entryPlaceOf f b):=by
 unfold entryPlaceOf
 repeat' with_reducible first | exact KD.pure _ | exact KD.stack | exact KD.unsupported _ | apply KD.ite | apply KD.bind | intro _ | split
theorem DJ (a b c d e:Value) (l:List Value):KD (EntryCells.newEntry a b c d e l):=by
 unfold EntryCells.newEntry newFields newObj newObjAsIs
 repeat' first | exact KD.pure _ | exact KD.alloc _ | exact KD.unsupported _ | apply KD.ite | apply KD.bind | intro _ | split
theorem vm (e:Value) (env:Env):KD (noteFrame e env):=by
 unfold noteFrame
 have h1:=yS env
 have h2:=DL
 have h3:=DJ
 split
 ·repeat' with_reducible first | exact KD.pure _ | exact KD.field _ _ | exact KD.setField _ _ _ (by decide) | exact h1 | exact h2 _ _ | exact h3 _ _ _ _ _ _ | apply KD.ite | apply KD.bind | intro _
 ·exact KD.unsupported _
theorem jS (e:Value) (o:Option Addr):KD (setFlight e o):=by
 unfold setFlight
 repeat' with_reducible first | exact KD.pure _ | exact KD.field _ _ | exact KD.setField _ _ _ (by decide) | apply KD.ite | apply KD.bind | intro _
theorem ni (env:Env) (e:Value):KD (leaving env e):=by
 unfold leaving
 exact KD.bind (vm _ _) fun _=>jS _ _
theorem KD.any {t:Sem α}{Q:α->Shared->Prop} (k:KD t) (h:wpAny M A t Q E s) :
  wpAny M A t (fun a s'=>Q a s'/\DK s.heap s'.heap) (fun e s'=>E e s'/\DK s.heap s'.heap) s:=fun Γ p hΓ=>k.out M Γ _ _ p s (h Γ p hΓ)
theorem yY {o:HO} (x:c8 P w H h a o):∃ u,h.get? a=some u:=by
 cases o with
 | lst xs=>obtain⟨_,_,_,_,e⟩:=x;exact⟨_,e⟩
 | tup xs=>obtain⟨_,_,_,ob,e,_⟩:=x;exact⟨_,e⟩
 | dK kvs=>obtain⟨_,_,_,_,ob,_,_,e,_⟩:=x;exact⟨_,e⟩
 | dT kvs=>obtain⟨_,_,_,_,ob,_,_,e,_⟩:=x;exact⟨_,e⟩
 | set S n=>obtain⟨ob,_,_,_,e,_⟩:=x;exact⟨_,e⟩
 | ins C dx fs=>obtain⟨_,_,_,e,_⟩:=x;exact⟨_,e⟩
 | own y=>exact x
 | xd fs=>obtain⟨_,⟨od,_,_,e,_⟩,_⟩:=x;exact⟨_,e⟩
 | rng lo hi=>obtain⟨_,_,_,e⟩:=x;exact⟨_,e⟩
 | frz ob u=>exact⟨_,x.1⟩
 | tbl ps=>obtain⟨_,e,_⟩:=x;exact⟨_,e⟩
 | met f y=>exact⟨_,x⟩
 | ext φ=>exact x.2.1
def XD (o:Obj) (d:Option Addr):Prop:=o.dict=d/\∃ vs,o.data=.fields vs/\vs[2]?=some .none
theorem XD.dk {o o':Obj} (x:XD o d) (h:o'.dict=o.dict) (f:∀ vs,o.data=.fields vs->∃ vs',o'.data=.fields vs'/\vs'[2]?=vs[2]?):XD o' d:=by
 obtain⟨x1,vs,x2,x3⟩:=x
 obtain⟨vs',y1,y2⟩:=f vs x2
 exact⟨h.trans x1,vs',y1,y2.trans x3⟩
def CX1 (P:Program) (w:World):CXT:=fun outer H s E e s'=>∃ (ea C t:Addr) (B:Heap) (H':Hp) (d:Option Addr),e=.ref ea/\s'.os=s.os/\AllBare s'.gens/\Un (frs outer) [] H H' s.heap s'.heap/\HOk P w H' s'.heap ∧
 Heap.FlyingW B outer ea (.ref C) (.ref t) s'.heap/\(∃ oe,s'.heap.get? ea=some oe/\XD oe d)/\(∀ dx,d=some dx->∃ fs,H' dx=some (.xd fs)) ∧
 (∀ b o,s'.heap.get? b=some o->b∉frs outer->(H' b≠none∨∃ u,s.heap.get? b=some u)->B.get? b=some o)/\E (.ref C) d H'
section
variable {X:Cx}{pins:List (Addr×Obj)}{σ:St}{H:Hp}{s:Shared}
theorem rM {B h':Heap} (I:Inv X pins σ H s) (hst:X.stack=X.env::X.outer) (hf:X.env.frame=some X.env.locals) (hex:X.ex=[]) (hB:B.StaysIn h') (hsm:s.heap.UpToSlots h')
  (hk:∀ b o,s.heap.get? b=some o->b∉frs X.stack->(H b≠none∨∃ u,X.s₀.heap.get? b=some u)->B.get? b=some o) :
  Un (frs X.outer) [] X.H₀ H X.s₀.heap h'/\HOk X.prog X.w H h'/\∀ b o,h'.get? b=some o->b∉frs X.outer->(H b≠none∨∃ u,X.s₀.heap.get? b=some u)->B.get? b=some o:=by
 have hfs:frs X.stack=X.env.locals::frs X.outer:=by rw[hst];unfold frs;rw[mi,hf]
 have old:∀ b u,X.s₀.heap.get? b=some u->b≠X.env.locals:=fun b u e z=>absurd (bD (aT e) (by rw[z];exact I.ok.above)) (gv _)
 have nstk:∀ b,b≠X.env.locals->b∉frs X.outer->b∉frs X.stack:=fun b h1 h2 z=>by rw[hfs] at z;rcases aH.mp z with z | z;exact h1 z;exact h2 z
 have trk:∀ b,H b≠none->b∉frs X.stack:=fun b h1 z=>h1 (I.oR b z)
 have nx:∀ b:Addr,b∉X.ex:=fun b=>by rw[hex];simp
 have fr:∀ b,b∈frs X.outer->∃ o,s.heap.get? b=some o/\∀ vs,o.data≠.fields vs:=fun b hb=>(I.stack.mem (show b∈frs X.stack by rw[hfs];exact bb _ hb)).2
 have tkeep:∀ b o,H b≠none->s.heap.get? b=some o->h'.get? b=some o:=fun b o h1 e=>hB b o (hk b o e (trk b h1) (.inl h1))
 have okeep:∀ b o u,X.s₀.heap.get? b=some u->b∉frs X.outer->s.heap.get? b=some o->h'.get? b=some o:=fun b o u e0 h2 e=>hB b o (hk b o e (nstk b (old b u e0) h2) (.inr ⟨u,e0⟩))
 refine⟨⟨fun b o e n hb _=>?_,fun b o e n hb _=>?_,fun b o e n _=>I.base.free b o e n (nx b),fun b o e _=>?_,I.base.tups,I.base.frzs,I.base.tbls⟩,fun a o e=>?_,fun b o e hb hc=>?_⟩
 ·exact okeep b o o e hb (I.base.keep b o e n hb (nx b))
 ·obtain⟨sl,e1⟩:=I.base.slot b o e n hb (nx b)
  obtain⟨o1,e2,hd⟩:=fr b hb
  rw[e1] at e2
  cases e2
  obtain⟨sl',e3⟩:=hsm b _ e1 hd
  exact⟨sl',e3⟩
 ·obtain⟨o1,e1⟩:=I.base.there b o e (nx b)
  by_cases hb:b∈frs X.outer
  ·obtain⟨o2,e2,hd⟩:=fr b hb
   obtain⟨sl',e3⟩:=hsm b _ e2 hd
   exact⟨_,e3⟩
  ·exact⟨o1,okeep b o1 o e hb e1⟩
 ·refine (I.hok a o e).nJ (fun c v hc q=>tkeep c v ?_ q) (fun _ q=>q) fun _ _ q=>q
  rcases hc with z | z
  ·rw[z,e];simp
  ·rw[z];simp
 ·rcases hc with h1 | ⟨u,e0⟩
  ·cases q:H b with
   | none=>exact absurd q h1
   | some ob =>
    obtain⟨o1,e1⟩:=yY (I.hok b ob q)
    have:=tkeep b o1 h1 e1
    rw[e] at this
    cases this
    exact hk b o e1 (trk b h1) (.inl h1)
  ·obtain⟨o1,e1⟩:=I.base.there b u e0 (nx b)
   have:=okeep b o1 u e0 hb e1
   rw[e] at this
   cases this
   exact hk b o e1 (nstk b (old b u e0) hb) (.inr ⟨u,e0⟩)
def yd (X:Cx) (E:St->XK):Prop:=∀ (pins:List (Addr×Obj)) (σ:St) (H:Hp) (s:Shared) (h1:Heap) (e C:Addr) (vs:List Value),Inv X pins σ H s->Heap.MadeExcOf s.heap h1 e (.ref C) vs->E σ (.ref C) none H->X.xe (.ref e) { s with heap:=h1 }
end
section
variable {P:Program}{w:World}{K:PySem.W.Frag}{mg:Str->Option Value}{base:Heap}{N:List Str}{qual:Str}{scope:Scope}{f:Addr}{cd:Value}{A:Around}{outer:List Env}{s:Shared}{H:Hp}{E:XK}
theorem aw:Passes (CX1 P w) (nR (CX1 P w) P w K mg base N qual scope f cd A outer s H E) (fun _=>E):=by
 intro pins σ H1 s1 e s' I h
 obtain⟨ea,C,t,B,H',d,rfl,os,bare,un,hok,fl,⟨oe,hoe,hdo⟩,hdx,hkb,hE⟩:=h
 have I':=I.uk (ch:=[]) os un hok bare (fun b z=>absurd z (by simp))
 show wpAny _ _ _ _ _ _
 refine bq (KD.any (E:=fun _ _=>False) (ni _ _) (wpAny_leaves_onW (Q:=fun _ s''=>∃ h',s''={ s' with heap:=h' }/\Heap.FlyingW B outer ea (.ref C) (.ref t) h'/\s'.heap.UpToSlots h') I.ok.frames rfl fl fun h' x1 x2=>⟨h',rfl,x1,x2⟩)) ?_ (fun _ _ z=>False.elim z.1)
 rintro _ s'' ⟨⟨h',rfl,x1,x2⟩,dk⟩
 obtain⟨u1,u2,u3⟩:=rM (B:=B) (h':=h') I' rfl rfl rfl x1.1 x2 (fun b o e1 e2 e3=>hkb b o e1 e2 (e3.elim .inl fun ⟨u,e0⟩=>.inr (I.base.there b u e0 (by show b∉([]:List Addr);simp))))
 obtain⟨oe',hoe',_,hd',hg'⟩:=dk ea oe hoe
 exact⟨ea,C,t,B,H',d,rfl,I'.os,I'.bare,u1,u2,x1,⟨oe',hoe',hdo.dk hd' hg'⟩,hdx,u3,hE⟩
theorem du:yd (nR (CX1 P w) P w K mg base N qual scope f cd A outer s H E) (fun _=>E):=by
 intro pins σ H1 s1 h1 e C vs I hx hE
 show wpAny _ _ _ _ _ _
 have hin:∀ env∈(envOfC qual scope s.heap.objs.size f cd::outer),∀ b,env.frame=some b->b∈frs (envOfC qual scope s.heap.objs.size f cd::outer):=fun env he b hb=>pf.mpr ⟨env,he,hb⟩
 have st:(PySem.W.hideAll s1.heap (frs (envOfC qual scope s.heap.objs.size f cd::outer))).StaysIn s1.heap:=fun b o q=>pC _ q
 have ff:s1.heap.FunFrames (PySem.W.hideAll s1.heap (frs (envOfC qual scope s.heap.objs.size f cd::outer))) (envOfC qual scope s.heap.objs.size f cd::outer):=PySem.W.funFrames_hide I.stack hin
 obtain⟨tt,het,_,_⟩:=hx.there
 refine bq (KD.any (E:=fun _ _=>False) (ni _ _) (wpAny_leaves_madeW (s:={ s1 with heap:=h1 }) (Q:=fun _ s''=>∃ h' t,s''={ s1 with heap:=h' }/\Heap.FlyingW (PySem.W.hideAll s1.heap (frs (envOfC qual scope s.heap.objs.size f cd::outer))) outer e (.ref C) (.ref t) h'/\h1.UpToSlots h') I.ok.frames rfl st ff hx fun h' t x1 _ _ x4=>⟨h',t,rfl,x1,x4⟩)) ?_ (fun _ _ z=>False.elim z.1)
 rintro _ s'' ⟨⟨h',t,rfl,x1,x4⟩,dk⟩
 obtain⟨u1,u2,u3⟩:=rM (h':=h') I rfl rfl rfl x1.1 ((Heap.UpToSlots.of_keeps hx.keeps).trans x4) (fun b o e1 e2 _=>PySem.W.hideAll_get _ e1 e2)
 obtain⟨oe',hoe',_,hd',hg'⟩:=dk e _ het
 exact⟨e,C,t,_,H1,none,rfl,I.os,I.bare,u1,u2,x1,⟨oe',hoe',XD.dk ⟨rfl,_,rfl,rfl⟩ hd' hg'⟩,(fun dx z=>by cases z),u3,hE⟩
end
theorem jv :Passes (CX1 P w) X E0:=fun _ _ _ _ _ _ _ h=>by
 obtain⟨_,_,_,_,_,_,_,_,_,_,_,_,_,_,_,z⟩:=h
 exact z.elim
theorem Bm {outer:List Env}{e:Value}{s':Shared} (h:CX1 P w outer H s (fun _ _ _=>False) e s'):False:=by
 obtain⟨_,_,_,_,_,_,_,_,_,_,_,_,_,_,_,z⟩:=h
 exact z
section
variable {P:Program}{w:World}{K:PySem.W.Frag}{mg:Str->Option Value}{base:Heap}
theorem Fun.okX {x qual:Str}{st:Stmt}{N ps:List Str}{k:Nat} (F:Fun K x qual st f fd) (S:aL N ps (ay st)) (len:∀ vs H Q E,sp vs H Q E->vs.length=ps.length)
  (hbody:∀ (cdv:Value) (A:Around) (outer:List Env) (s:Shared) (H:Hp) (vs:List V) (Q:VK) (E:XK),dI k (A.deeper (envOfC qual (ay st) s.heap.objs.size f cdv))->sp vs H Q E →
   ∃ t,PSs (nR (CX1 P w) P w K mg base N qual (ay st) f cdv A outer s H E) (cE st) t/\t { nx:=fun _ H'=>Q .non H',rt:=Q } (start N vs) H):bI P w K mg base (CX1 P w) (k+1) f fd ps sp:=by
 obtain⟨oc,od,kV,doc,pm,an,cdv,ct,osl,rfl,lk,hcd⟩:=F.ex
 exact uw lk hcd S len fun A outer s H vs Q E hr hsp=>hbody cdv A outer s H vs Q E hr hsp
theorem CA.ok {k:Nat} (F:CA P w K mg base CX k f fd ps sp):bI P w K mg base CX k f fd ps sp :=
 ⟨F.len,fun A outer s H args us vs Q E hr=>F.run A outer s H args us vs Q E hr.n (.inl hr.hd)⟩
end
theorem uu {newId:String} (XK:K.In h) (q:PySem.W.excIn K C bmB newId=true) :
  ∃ bm N nm qn bs hd sn sub ab col dd k0 k1 k2 k3 k5 mN,h.get? C=some (excClassObj nm qn C N bs bm hd sn sub ab col dd k0 k1 k2 k3 k5 newId)/\h.Ns N mN/\mN "__init__"=none/\OwnTail h bmB bm:=by
 unfold PySem.W.excIn at q
 split at q
 next dd cd sl ho =>
  split at q
  next C' bm k0 k1 k2 k3 n k5 hm hs =>
   simp only[bS,eK,Bool.not_eq_true'] at q
   obtain⟨⟨⟨⟨⟨e1,e2⟩,e3⟩,e4⟩,e5⟩,e6⟩:=q
   subst e1 e2
   cases cd with
   | mk nm bs mro ns qn hd sn sub ab col del =>
    simp only at hm e3 e5 e6
    subst hm e3
    have z:sl=#[k0,k1,k2,k3,some (.builtin n),k5]:=by
     cases sl with
     | mk l=>simp only at hs;rw[hs]
    subst z
    exact⟨bm,ns,nm,qn,bs,hd,sn,sub,ab,col,dd,k0,k1,k2,k3,k5,_,XK _ _ ho,.of_isNs (PySem.W.isNs_of_in XK e5),PySem.W.nsMap_none_of_in XK e5 e6,PySem.W.tail_of_in XK e4⟩
  next=>cases q
 next=>cases q
def zt (C:Addr) (E:St->XK) (t:TA):TS:=fun _ σ H=>t σ H fun vs H1=>vs.length<=sizeLine/\E σ (.ref C) none H1
theorem CP {C:Addr}{E:St->XK}{t:TA}{D:Ends}{σ:St}{H:Hp}:zt C E t D σ H=t σ H fun vs H1=>vs.length<=sizeLine/\E σ (.ref C) none H1:=propext Iff.rfl
section
variable {X:Cx}
theorem dB {E:St->XK}{B newId initId:String}{e₀:Expr}{rest:List Expr}{t:TA}{np cpos pos:Pos} (FB:ExcBaseFacts B newId initId bmB) (hq:PySem.W.excIn X.K C bmB newId=true) (hm:X.mg x=some (.ref C))
  (hrx:yd X E) (hc:X.calm=true) (ha:PA X (e₀::rest) t) (hg:X.env.kindOf x=some .globalImplicit:=by kernel_rfl) (hd:(x==("__debug__":Str))=false:=by kernel_rfl) (hs:dS (e₀::rest)=true:=by kernel_rfl) :
  PS X (.Raise (some (.Call (.Name x np) (e₀::rest) [] cpos)) none pos) (zt C E t):=by
 intro pins s σ H D I h
 obtain⟨bm,N,nm,qn,bs,hdct,sn,sub,ab,col,dd,k0,k1,k2,k3,k5,mN,g1,g2,g3,g4⟩:=uu I.ok.mod.kin hq
 have he:=aU (es:=rest) (env:=X.env) (bh hs).1
 refine wpAny_Raise_call_subT (C:=C) (nm:=nm) (q:=qn) (N:=N) (bs:=bs) (bm:=bm) (hdct:=hdct) (sn:=sn) (sub:=sub) (ab:=ab) (col:=col) (dd:=dd) (k0:=k0) (k1:=k1) (k2:=k2) (k3:=k3) (k5:=k5)
  FB (mN:=mN) (g4.hasType FB.hasBase) (I.ok.hd hc) (cZ hs) g3 (kz I hg hm ⟨rfl,?_⟩ hd)
 have ha':=ha cpos pins s σ H _ I h
 rw[he] at ha' ⊢
 refine pE (bq ha' (fun vs s2 h2=>?_) fun _ _ y=>y)
 obtain⟨xs,H2,I2,r,z,q⟩:=h2
 exact⟨rfl,by rw[←r.length];exact z,I2.bk _ _ g1,g2.keeps I2.bk,g4.keeps I2.bk,fun h' e hx=>hrx pins σ H2 s2 h' e C vs I2 hx q⟩
end
end
section
def yL (a:Addr) (c:Value) (d:Option Addr):HO:=.ext fun h=>∃ o,h.get? a=some o/\o.cls=c/\XD o d
theorem FQ {c:Value}{o:Obj} (e:h.get? a=some o) (h1:o.cls=c) (h2:XD o d):c8 P w H h a (yL a c d) :=
 ⟨⟨o,e,h1,h2⟩,⟨o,e⟩,fun _ _ ⟨o,e,q⟩ k=>⟨o,k o e,q⟩⟩
theorem AR {l:List Env}{H1 H':Hp}{h1 h' h5 B:Heap} (u:Un (frs l) [] H1 H' h1 h') (hk:∀ b o,h'.get? b=some o->b∉frs l->(H' b≠none∨∃ u,h1.get? b=some u)->B.get? b=some o) (hB:B.StaysIn h5) (hsm:h'.UpToSlots h5)
  (hfr:∀ b∈frs l,∃ o,h'.get? b=some o/\∀ vs,o.data≠.fields vs):Un (frs l) [] H1 H' h1 h5 where
 keep:=fun b o e n hb hx=>hB b o (hk b o (u.keep b o e n hb hx) hb (.inr ⟨o,e⟩))
 slot:=fun b o e n hb hx=>by
  obtain⟨sl,e1⟩:=u.slot b o e n hb hx
  obtain⟨o1,e2,hd⟩:=hfr b hb
  rw[e1] at e2
  cases e2
  obtain⟨sl',e3⟩:=hsm b _ e1 hd
  exact⟨sl',e3⟩
 free:=u.free
 there:=fun b o e hx=>by
  obtain⟨o1,e1⟩:=u.there b o e hx
  by_cases hb:b∈frs l
  ·obtain⟨o2,e2,hd⟩:=hfr b hb
   obtain⟨sl,e3⟩:=hsm b _ e2 hd
   exact⟨_,e3⟩
  ·exact⟨o1,hB b o1 (hk b o1 e1 hb (.inr ⟨o,e⟩))⟩
 tups:=u.tups
 frzs:=u.frzs
 tbls:=u.tbls
theorem wR {l:List Env}{H':Hp}{h1 h' h5 B:Heap} (hok:HOk P w H' h') (hk:∀ b o,h'.get? b=some o->b∉frs l->(H' b≠none∨∃ u,h1.get? b=some u)->B.get? b=some o) (hB:B.StaysIn h5)
  (hf:∀ b∈frs l,H' b=none):HOk P w H' h5:=fun a o e=>by
 refine (hok a o e).nJ (fun c v hc q=>hB c v (hk c v q ?_ (.inl ?_))) (fun _ q=>q) fun _ _ q=>q
 ·intro z
  have:=hf c z
  rcases hc with rfl | hc
  ·rw[e] at this;cases this
  ·rw[hc] at this;cases this
 ·rcases hc with rfl | hc
  ·rw[e];simp
  ·rw[hc];simp
section
variable {X:Cx}{pins:List (Addr×Obj)}{σ:St}{H:Hp}{s:Shared}
theorem Inv.HE {o:HO} (I:Inv X pins σ H s) (hn:H a=none) (h0:X.s₀.heap.get? a=none) (hL:a≠X.env.locals) (hc:∀ x c,X.env.cells.lookup x=some c->c≠a) (hp:∀ p∈X.pn++pins,p.1≠a)
  (ho:c8 X.prog X.w (upd H a o) s.heap a o):Inv X pins σ (upd H a o) s where
 ok:=I.ok
 os:=I.os
 bare:=I.bare
 base:=by
  have ne:∀ b u,X.s₀.heap.get? b=some u->b≠a:=fun b u e z=>by rw[z,h0] at e;cases e
  refine⟨I.base.keep,I.base.slot,fun b u e n hx=>by rw[aP (ne b u e)];exact I.base.free b u e n hx,I.base.there,fun b xs q=>?_,fun b ob u q=>?_,fun b ps q=>?_⟩
  ·have:=I.base.tups b xs q
   rw[aP (fun z=>by rw[z,hn] at this;cases this)];exact this
  ·have:=I.base.frzs b ob u q
   rw[aP (fun z=>by rw[z,hn] at this;cases this)];exact this
  ·obtain⟨m,e⟩:=I.base.tbls b ps q
   exact⟨m,by rw[aP (fun z=>by rw[z,hn] at e;cases e)];exact e⟩
 loc:=I.loc
 cell:=I.cell
 free:=by rw[aP (Ne.symm hL)];exact I.free
 freeC:=fun x c e=>by rw[aP (hc x c e)];exact I.freeC x c e
 pin:=fun p h=>by
  obtain⟨h1,h2,h3⟩:=I.pin p h
  exact⟨h1,by rw[aP (hp p h)];exact h2,h3⟩
 hok:=fun b u e=>by
  by_cases hb:b=a
  ·subst hb
   rw[aS] at e
   cases e
   exact ho
  ·rw[aP hb] at e
   refine (I.hok b u e).nJ (fun _ _ _ q=>q) (fun c q=>?_) fun c xs q=>?_
   ·rw[aP (fun z=>by rw[z,hn] at q;cases q)];exact q
   ·rw[aP (fun z=>by rw[z,hn] at q;cases q)];exact q
 len:=I.len
theorem mP {A:Around}{E:Value->Shared->Prop}{n:Str}{pos:Pos}{Q:Unit->Shared->Prop} (I:Inv X pins σ H s) (hN:X.N.Nodup) (hi:X.N[i]?=some n) (hn:X.env.scope.names.lookup n=some .local)
  (h:∀ s',Inv X pins (σ.set i none) H s'->Q () s'):wpAny (model X.prog X.w) A (do bindName X.env n .none;unbindBehindTheSuite X.env n pos) Q E s:=by
 have hiσ:i<σ.length:=by rw[I.len];exact (b9.mp hi).1
 refine ar (wpAny_bindName (jY (v:=.non) I hN hi (.inl hn) rfl (fun s1 I1=>?_) (.inr hn)))
 obtain⟨m,hm,hl⟩:=id I1.loc
 obtain⟨u,_,hu⟩:=hl i n .non hi (by rw[kc hiσ]) (.inl hn)
 have hv:∃ v,m n=some v:=by
  rcases hu with ⟨_,e⟩ | ⟨k,_⟩
  ·exact⟨_,e⟩
  ·have k':X.env.scope.names.lookup n=some .cell∨X.env.scope.names.lookup n=some .free:=k
   rw[hn] at k';rcases k' with z | z<;>cases z
 obtain⟨v,hv⟩:=hv
 have hcls:(X.env.scope.kind==.class||(X.env.scope.kind==.module&&X.env.locals != X.env.globals))=false:=by rw[I.ok.kind];rfl
 unfold unbindBehindTheSuite
 refine wpAny_onRaise (wpAny_unbindName_local hn hm hv hcls fun h' w' hn' hs=>h _ ?_)
 have older:∀ b o,X.s₀.heap.get? b=some o->b≠X.env.locals:=fun b o e=>bE (bD (aT e) I.ok.above)
 refine⟨I1.ok,I1.os,I1.bare,⟨fun b o e k hb hx=>(hs.2 b (older b o e)).trans (I1.base.keep b o e k hb hx),fun b o e k hb hx=>?_,I1.base.free,fun b o e hx=>?_,I1.base.tups,I1.base.frzs,I1.base.tbls⟩,
  ⟨_,hn',fun j y v' e1 e2 e3=>?_⟩,fun y c e=>?_,I1.free,I1.freeC,fun p hp=>?_,fun b ob e=>?_,by rw[List.length_set];exact I.len⟩
 ·obtain⟨sl,e1⟩:=I1.base.slot b o e k hb hx
  exact⟨sl,(hs.2 b (older b o e)).trans e1⟩
 ·obtain⟨o',e1⟩:=I1.base.there b o e hx
  exact⟨o',(hs.2 b (older b o e)).trans e1⟩
 ·by_cases hj:j=i
  ·subst hj
   rw[kc hiσ] at e2
   cases e2
  ·rw[iQ (Ne.symm hj)] at e2
   obtain⟨u',r',q⟩:=hl j y v' e1 (by rw[iQ (Ne.symm hj)];exact e2) e3
   refine⟨u',r',?_⟩
   rcases q with ⟨k,e⟩ | ⟨k,c,e,z⟩
   ·refine .inl ⟨k,?_⟩
    have:y≠n:=fun e=>hj (sx hN e1 (e ▸ hi))
    simp [this,e]
   ·exact .inr ⟨k,c,e,z.sameBut hs (I1.cne y c e)⟩
 ·obtain⟨w2,z⟩:=I1.cell y c e
  exact⟨w2,z.sameBut hs (I1.cne y c e)⟩
 ·obtain⟨e,k,ne,nf,d⟩:=I1.pin p hp
  exact⟨(hs.2 p.1 ne).trans e,k,ne,nf,d⟩
 ·refine (I1.hok b ob e).nJ (fun c w2 hc q=>(hs.2 c ?_).trans q) (fun _ q=>q) fun _ _ q=>q
  rintro rfl
  have:=I1.free
  rcases hc with rfl | hc
  ·rw[this] at e;cases e
  ·rw[this] at hc;cases hc
def Ends.un (D:Ends) (i:Nat):Ends:=⟨fun σ H=>D.nx (σ.set i none) H,D.rt,fun σ H=>D.bk (σ.set i none) H,fun σ H=>D.ct (σ.set i none) H⟩
theorem Inv.Kp {xe:Value->Shared->Prop} (I:Inv X pins σ H s):Inv { X with pn:=X.pn++pins,xe:=xe } [] σ H s :=
 ⟨⟨I.ok.mod,I.ok.kind,I.ok.glob,I.ok.blt,I.ok.above,I.ok.inj,I.ok.has,I.ok.cab,I.ok.hd,I.ok.frames,I.ok.stk,I.ok.exf,I.ok.bs,I.ok.bsz,I.ok.noex,I.ok.exfs,I.ok.mU,I.ok.frf⟩,I.os,I.bare,I.base,I.loc,I.cell,I.free,I.freeC,
  fun p h=>I.pin p (by simpa using h),I.hok,I.len⟩
theorem Inv.jw {pins':List (Addr×Obj)} (I:Inv { X with pn:=X.pn++pins,xe:=xe } pins' σ H s):Inv X pins σ H s :=
 ⟨⟨I.ok.mod,I.ok.kind,I.ok.glob,I.ok.blt,I.ok.above,I.ok.inj,I.ok.has,I.ok.cab,I.ok.hd,I.ok.frames,I.ok.stk,I.ok.exf,I.ok.bs,I.ok.bsz,I.ok.noex,I.ok.exfs,I.ok.mU,I.ok.frf⟩,I.os,I.bare,I.base,I.loc,I.cell,I.free,I.freeC,
  fun p h=>I.pin p (fA _ h),I.hok,I.len⟩
theorem Inv.vn {e:Option Value} (I:Inv X pins σ H s):Inv { X with A:=X.A.mark e,calm:=false,xe:=fun _ _=>False } pins σ H s :=
 ⟨⟨I.ok.mod,I.ok.kind,I.ok.glob,I.ok.blt,I.ok.above,I.ok.inj,I.ok.has,I.ok.cab,(fun z=>by cases z),I.ok.frames,I.ok.stk,I.ok.exf,I.ok.bs,I.ok.bsz,I.ok.noex,I.ok.exfs,I.ok.mU,I.ok.frf⟩,I.os,I.bare,I.base,I.loc,I.cell,I.free,I.freeC,
  I.pin,I.hok,I.len⟩
theorem Inv.markFrom {e:Option Value} (ok:X.Ok) (I:Inv { X with A:=X.A.mark e,calm:=false,xe:=xe } pins σ H s):Inv X pins σ H s :=
 ⟨ok,I.os,I.bare,I.base,I.loc,I.cell,I.free,I.freeC,I.pin,I.hok,I.len⟩
end
end
section
theorem FV:builtinKind "BaseException.__getattribute__"=some Manifest.AttrKind.slot:=by decide +kernel
theorem D8:splitId "BaseException.__getattribute__"=some ("BaseException","__getattribute__"):=by decide +kernel
theorem D7 {A:Around}{E:Value->Shared->Prop}{x:Addr}{nm:Value}{Q:Unit->Shared->Prop} (l:PySem.W.Looks M s.heap (isInstance (.ref x) (.type "BaseException")) true) (q:Q () s) :
  wpAny M A (checkBuiltinCall "BaseException.__getattribute__" { pos:=[.ref x,nm] }) Q E s :=
 PySem.W.check_slot (i:="BaseException.__getattribute__") (self:=.ref x) (rest:=[nm]) (kw:=[]) FV D8 l (F.args_bexc_ga _ _) q
theorem Gf {prog:Program}{w:World}{A:Around}{E:Value->Shared->Prop}{s:Shared}{K:PySem.W.Frag}{x D:Addr}{ox:Obj}{odo:Option Obj}{name:Str}{g a:Value}{Q:Option Value->Shared->Prop}
  (X:K.In s.heap) (I:PySem.W.InstAt s.heap x ox D odo)
  (hga:PySem.W.findIn K (.ref D) "__getattribute__"=some (some (.builtin "BaseException.__getattribute__")))
  (hgn:PySem.W.findIn K (.ref D) "__getattr__"=some none)
  (hsub:PySem.W.subIn K (.ref D) (.type "BaseException")=some true)
  (hf:PySem.W.findObj K D odo name=some (.bind g a))
  (h:∀ A',wpAny (model prog w) A' (call g [a,.ref x,.ref D]) (fun v s'=>wpAny (model prog w) A (handedOut v) (fun v s''=>Q (some v) s'') (fun _ _=>False) s') (fun _ _=>False) { s with toks:=s.toks+1 }) :
  wpAny (model prog w) A (getAttr? (.ref x) name) Q E s:=by
 obtain⟨hh,gg,dd,tt,os⟩:=s
 have L0:∀ {M},PySem.W.Looks M hh (typeOf (.ref x)) (.ref D):=I.type
 have L1:∀ {M},PySem.W.Looks M hh (typeLookup (.ref D) "__getattribute__") _:=PySem.W.looks_findIn X hga
 have L2:∀ {M},PySem.W.Looks M hh (typeLookup (.ref D) "__getattr__") _:=PySem.W.looks_findIn X hgn
 have L3:∀ {M},PySem.W.Looks M hh (isSubtype (.ref D) (.type "BaseException")) _:=PySem.W.looks_subIn X hsub
 have L4:∀ {M},PySem.W.Looks M hh (Builtin.ObjectAttr.find (.ref x) (.ref D) name) _:=PySem.W.looks_find X I hf
 have L5:∀ {M},PySem.W.Looks M hh (isInstance (.ref x) (.type "BaseException")) true:=by
  intro M;unfold isInstance;exact PySem.W.Looks.andThen (f:=fun t=>isSubtype t (.type "BaseException")) L0 L3
 have f3:=F.excAttr_ValueError.ga.bind (Value.ref x)
 unfold getAttr?
 refine ar (wpAny_mkText ?_)
 unfold getAttrBy?
 refine ar (wpAny_attempt ?_)
 unfold getAttrBy
 refine cD (ar (L0.at (ar (L1.at ?_))))
 refine wpAny_ite_false rfl ?_
 unfold getAttrByItsOwn
 refine ar ?_
 unfold hookBefore
 refine wpAny_ite_true rfl (L2.at ?_)
 refine ar (wpAny_attempt (cD ?_))
 unfold callGetattribute
 refine wpAny_ite_false rfl ?_
 unfold boundAndCalled
 refine ar (wpAny_of_eq f3 ?_)
 refine wpAny_call (codeAny_call_builtin F.excAttr_ValueError.ga.plain F.entry_bexc_ga ?_)
 refine D7 L5 ?_
 show wpAny _ _ (Builtin.«object.__getattribute__» { pos:=[Value.ref x,Value.str name _] }) _ _ _
 unfold Builtin.«object.__getattribute__»
 refine ar ?_
 unfold slotArgs
 refine wpAny_ite_false rfl (wpAny_ite_false rfl (aO ?_))
 refine ar (aO ?_)
 refine ar (L0.at (ar (L4.at ?_)))
 show wpAny _ _ (Builtin.ObjectAttr.bindTo g a (.ref x) (.ref D)) _ _ _
 unfold Builtin.ObjectAttr.bindTo
 refine ar (cD (bq (h _) (fun v s' z=>?_) (fun _ _ z=>z.elim)))
 refine aO ?_
 refine bq z (fun v s' z=>aO z) (fun _ _ z=>z.elim)
structure uN (K:PySem.W.Frag) (C:Addr):Prop where
 ga:PySem.W.findIn K (.ref C) "__getattribute__"=some (some (.builtin "BaseException.__getattribute__"))
 gn:PySem.W.findIn K (.ref C) "__getattr__"=some none
 sb:PySem.W.subIn K (.ref C) (.type "BaseException")=some true
 cl:(PySem.W.clsIn K C).isSome=true
 ha:PySem.W.findIn K (.ref C) "__class__"=some (some (.builtin "object.__class__"))
 hn:PySem.W.specialIn K (.builtin "object.__class__") "__get__"=some (some (.builtin "getset_descriptor.__get__"))
 htk:PySem.W.takesIn K (.builtin "object.__class__")=some true
 hm:PySem.W.mroIn K C (.type "object")=some true
theorem wO {od:Option Obj}{name:Str}{a g:Value} (hc:(PySem.W.clsIn K C).isSome=true) (ha:PySem.W.findIn K (.ref C) name=some (some a)) (hg:PySem.W.specialIn K a "__get__"=some (some g)) (ht:PySem.W.takesIn K a=some true) :
  PySem.W.findObj K C od name=some (.bind g a):=by
 obtain⟨cd,e⟩:=pw.mp hc
 unfold PySem.W.findObj
 rw[e,Option.bind_some,ha,Option.bind_some]
 show (PySem.W.specialIn K a "__get__").bind _=_
 rw[hg,Option.bind_some]
 show (PySem.W.takesIn K a).bind _=_
 rw[ht,Option.bind_some]
def ExcAt (x C:Addr) (h:Heap):Prop:=∃ ox od,PySem.W.InstAt h x ox C od
theorem wZ {x C:Addr} (e:uN K C):PySem.W.KitX K (.ref x) (.ref C) (ExcAt x C) where
 ty:=fun _ _ _ ⟨_,_,I⟩=>I.type
 it:=fun _ h XK _=>by
  obtain⟨cd,hc⟩:=pw.mp e.cl
  unfold PySem.W.clsIn at hc
  split at hc
  next c' d' cd' sl' ho =>
   intro A' Q' E' s' k q
   unfold isType loadHead
   exact ar (wpAny_loadPart (k _ _ (XK _ _ ho)) (aO q))
  next=>cases hc
 ne:=fun h tp dd its n sl XK htp=>by
  obtain⟨cd,hc⟩:=pw.mp e.cl
  refine Bool.eq_false_iff.mpr fun q=>?_
  have z:C=tp:=Value.ref.inj (eK.mp q)
  subst z
  unfold PySem.W.clsIn at hc
  split at hc
  next c' d' cd' sl' ho =>
   have z:=(XK _ _ ho).symm.trans htp
   cases z
  next=>cases hc
 ca:=fun {prog w A E Q s} XK I k=>by
  obtain⟨ox,od,I⟩:=I
  have hf:=wO (od:=od) e.cl e.ha e.hn e.htk
  exact Gf XK I e.ga e.gn e.sb hf fun A'=>wpAny_call (PySem.W.class_get (s:={ s with toks:=s.toks+1 }) (ox:=ox) (od:=od) XK I e.hm (PySem.W.handed_on rfl k))
def TyX (K:PySem.W.Frag) (H:Hp) (x:V) (t:Value):Prop:=mY K H x t∨∃ a C,x=.ref a/\t=.ref C/\H a=some (yL a (.ref C) none)/\uN K C
def Kt (K:PySem.W.Frag):List V->Hp->VK->Prop:=fun vs H Q=>match vs with
 | [x,.ty n]=>∃ t b,TyX K H x t/\PySem.W.kitOne K t (.type n)=some b/\Q (.bl b) H
 | [x,.ref c]=>∃ t b,TyX K H x t/\(PySem.W.kitOne K t (.ref c)=some b∨∃ (a C:Addr) (cs:List Addr),x=.ref a/\t=.ref C/\H a=some (yL a (.ref C) none)/\uN K C/\H c=some (.tup (cs.map V.ref))/\PySem.W.kitAny K t (cs.map Value.ref)=some b)/\Q (.bl b) H
 | _=>False
def Dx (K:PySem.W.Frag) (C:Addr):Bool :=
 PySem.W.findIn K (.ref C) "__getattribute__"==some (some (.builtin "BaseException.__getattribute__"))&&PySem.W.findIn K (.ref C) "__getattr__"==some none&&PySem.W.subIn K (.ref C) (.type "BaseException")==some true&&(PySem.W.clsIn K C).isSome&&PySem.W.findIn K (.ref C) "__class__"==some (some (.builtin "object.__class__")) &&
 PySem.W.specialIn K (.builtin "object.__class__") "__get__"==some (some (.builtin "getset_descriptor.__get__"))&&PySem.W.takesIn K (.builtin "object.__class__")==some true&&PySem.W.mroIn K C (.type "object")==some true
theorem Dy (h:Dx K C=true):uN K C:=by
 unfold Dx at h
 simp only[bS,eK] at h
 obtain⟨⟨⟨⟨⟨⟨⟨h1,h1'⟩,h1''⟩,h2⟩,h3⟩,h4⟩,h5⟩,h6⟩:=h
 exact⟨h1,h1',h1'',h2,h3,h4,h5,h6⟩
def uZ (K:PySem.W.Frag) (b:Addr) (cs:List Addr):Bool :=
 cs.all fun c=>Dx K c&&PySem.W.exmOne K (.ref c) (.ref b)==some true&&PySem.W.kitOne K (.ref c) (.type "ValueError")==some true&&PySem.W.kitOne K (.ref c) (.ref b)==some true &&
  cs.all fun d=>PySem.W.kitOne K (.ref c) (.ref d)==some (c==d)
structure Err (K:PySem.W.Frag) (b:Addr) (cs:List Addr) (c:Addr):Prop where
 ex:uN K c
 em:PySem.W.exmOne K (.ref c) (.ref b)=some true
 ve:PySem.W.kitOne K (.ref c) (.type "ValueError")=some true
 ba:PySem.W.kitOne K (.ref c) (.ref b)=some true
 kd:∀ d∈cs,PySem.W.kitOne K (.ref c) (.ref d)=some (c==d)
theorem yp {b:Addr}{cs:List Addr} (h:uZ K b cs=true)  (hc:c∈cs):Err K b cs c:=by
 unfold uZ at h
 have h:=bM.mp h c hc
 simp only[bS,eK] at h
 obtain⟨⟨⟨⟨h1,h2⟩,h3⟩,h4⟩,h5⟩:=h
 exact⟨Dy h1,h2,h3,h4,fun d hd=>by have:=bM.mp h5 d hd;simpa using this⟩
theorem Err.any {K:PySem.W.Frag}{b:Addr}{cs:List Addr}{c:Addr} (E:Err K b cs c):∀ {ds:List Addr},(∀ d∈ds,d∈cs)->PySem.W.kitAny K (.ref c) (ds.map Value.ref)=some (ds.contains c)
 | [],_=>rfl
 | d::r,h=>by
  show (match PySem.W.kitOne K (.ref c) (.ref d) with | some true=>some true | some false=>PySem.W.kitAny K (.ref c) (r.map Value.ref) | none=>none)=_
  rw[E.kd d (h d aR),Err.any E (fun x hx=>h x (bb _ hx)),List.contains_cons]
  cases (c==d)<;>rfl
theorem gT {v:V} (h:∃ u,X.mg x=some u/\RelV v u) (hg:X.env.kindOf x=some .globalImplicit:=by kernel_rfl) (hd:(x==("__debug__":Str))=false:=by kernel_rfl):PE X (.Name x pos) (tC v):=by
 obtain⟨u,h1,h2⟩:=h
 exact Aw hg h1 h2 hd
theorem dz (h:X.mg x=some (.ref c)) (hg:X.env.kindOf x=some .globalImplicit:=by kernel_rfl) (hd:(x==("__debug__":Str))=false:=by kernel_rfl):PE X (.Name x pos) (tC (.ref c)):=Aw hg h rfl hd
structure J9 (P:Program) (w:World) (K:PySem.W.Frag) (mg:Str->Option Value) (base:Heap) (CX:CXT) (k:Nat) (x:Str) (ps:List Str) (sp:Sp):Prop where
 ex:∃ (f:Addr) (fd:FuncData),CA P w K mg base CX k f fd ps sp/\mg x=some (.ref f)/\PySem.W.keepIn K (.ref f)=true/\Binds K fd ps []
theorem J9.fnc {P:Program}{w:World}{K:PySem.W.Frag}{mg:Str->Option Value}{base:Heap}{CX:CXT}{k:Nat}{x:Str}{ps:List Str}{sp:Sp} (C:J9 P w K mg base CX k x ps sp):Fnc P w K mg base CX k x ps sp:=by
 obtain⟨f,fd,F,h⟩:=C.ex
 exact⟨f,fd,F.ok,h⟩
theorem uO.same {o:Option Value}{H H':Hp} (h:uO o H) (s:aD H H'):uO o H':=by
 rcases h with h | ⟨ea,φ,e1,e2,e3⟩
 ·exact .inl h
 ·exact .inr ⟨ea,φ,e1,s _ _ e2,e3⟩
end
section
def up (t:TE):TE:=fun σ H R=>∃ R',t σ H R'/\∀ x H,R' x H->R x H
def upA (t:TA):TA:=fun σ H R=>∃ R',t σ H R'/\∀ x H,R' x H->R x H
theorem PE.up {X:Cx}{e:Expr}{t:TE} (h:PE X e t):PE X e (up t):=fun pins s σ H Q I ⟨R',h1,h2⟩=>thn (h pins s σ H R' I h1) fun _ _ ⟨v,H',I',r,q⟩=>⟨v,H',I',r,h2 v H' q⟩
theorem PA.up {t:TA} (h:PA X es t):PA X es (upA t):=fun pos pins s σ H Q I ⟨R',h1,h2⟩=>thn (h pos pins s σ H R' I h1) fun _ _ ⟨v,H',I',r,q⟩=>⟨v,H',I',r,h2 v H' q⟩
def Ez (K:PySem.W.Frag) (f:Str) (x:V) (H:Hp) (Q:VK):Prop:=match x with
 | .ref a=>∃ C dx fs v,H a=some (.ins C dx fs)/\Cls K C/\fQ K C f/\fs.lookup f=some v/\Q v H
 | _=>False
def EM (K:PySem.W.Frag) (ta:TE) (f:Str):TE:=fun σ H Q=>ta σ H fun x H1=>Ez K f x H1 Q
theorem HN {K:PySem.W.Frag}{ta:TE}{f:Str}{σ:St}{H:Hp}{Q:VK}:EM K ta f σ H Q=ta σ H fun x H1=>Ez K f x H1 Q:=propext Iff.rfl
def E7 (K:PySem.W.Frag) (f:Str) (y x:V) (H:Hp) (Q:Hp->Prop):Prop:=match x with
 | .ref a=>∃ C dx fs,H a=some (.ins C dx fs)/\Cls K C/\fQ K C f/\fs.length<1000/\Q (upd H a (.ins C dx (lh f y fs)))
 | _=>False
def Hs (K:PySem.W.Frag) (ta tv:TE) (f:Str):TS:=fun D σ H=>tv σ H fun y H1=>ta σ H1 fun x H2=>E7 K f y x H2 fun H3=>D.nx σ H3
theorem Fx {K:PySem.W.Frag}{ta tv:TE}{f:Str}{D:Ends}{σ:St}{H:Hp}:Hs K ta tv f D σ H=tv σ H fun y H1=>ta σ H1 fun x H2=>E7 K f y x H2 fun H3=>D.nx σ H3:=propext Iff.rfl
section
variable {X:Cx}{K:PySem.W.Frag}
theorem bW {ta:TE}{f:Str} (hK:X.K=K) (he:PE X e ta) (hb:attributeBase e f X.env (eval e X.env)=eval e X.env:=by kernel_rfl):PE X (.Attribute e f pos) (EM K ta f):=by
 subst hK
 intro pins s σ H Q I h
 refine Jg (ta:=up ta) he.up hb pins s σ H Q I ⟨_,h,fun x H1 hx=>?_⟩
 cases x with
 | ref a=>obtain⟨C,dx,fs,v,h1,h2,h3,h4,h5⟩:=hx;exact⟨a,C,dx,fs,v,rfl,h1,h2,h3,h4,h5⟩
 | _=>exact False.elim hx
theorem mL {o value:Expr}{ta tv:TE}{f:Str}{pos pos':Pos} (hK:X.K=K) (ha:PE X o ta) (hv:PE X value tv) (hs:swapsWith value (some (.Attribute o f pos')) pos.line X.env=pure false:=by kernel_rfl) :
  PS X (.Assign [.Attribute o f pos'] value pos) (Hs K ta tv f):=by
 subst hK
 intro pins s σ H D I h
 refine Jl (ta:=up ta) (tv:=up tv) ha.up hv.up hs pins s σ H D I ⟨_,h,fun y H1 hy=>⟨_,hy,fun x H2 hx=>?_⟩⟩
 cases x with
 | ref a=>obtain⟨C,dx,fs,h1,h2,h3,h4,h5⟩:=hx;exact⟨a,C,dx,fs,rfl,h1,h2,h3,h4,h5⟩
 | _=>exact False.elim hx
end
structure Mtd (P:Program) (w:World) (K:PySem.W.Frag) (mg:Str->Option Value) (base:Heap) (CX:CXT) (C:Addr) (m:Str) (k:Nat) (ps:List Str) (sp:Sp):Prop where
 ex:∃ (f:Addr) (fd:FuncData),bI P w K mg base CX k f fd ps sp/\Meth K C m f/\Binds K fd ps []
 cl:Cls K C
def zo (C:Addr) (m:Str) (x:V) (H:Hp) (Q:Hp->Prop):Prop:=match x with
 | .ref a=>∃ dx fs,H a=some (.ins C dx fs)/\fs.lookup m=none/\Q H
 | _=>False
def tM (C:Addr) (m:Str) (sp:Sp) (E:St->XK) (ta:TE) (t:TA):TE:=fun σ H Q=>ta σ H fun x H1=>zo C m x H1 fun H1=>t σ H1 fun vs H2=>sp (x::vs) H2 Q (E σ)
theorem Ft {C:Addr}{m:Str}{sp:Sp}{E:St->XK}{ta:TE}{t:TA}{σ:St}{H:Hp}{Q:VK}:tM C m sp E ta t σ H Q=ta σ H fun x H1=>zo C m x H1 fun H1=>t σ H1 fun vs H2=>sp (x::vs) H2 Q (E σ):=propext Iff.rfl
section
variable {X:Cx}{CX:CXT}{E:St->XK}
theorem dA {pl:Sem Bool}{k:Nat}{o e:Expr}{ta:TE}{t:TA}{apos pos:Pos} (M:Mtd X.prog X.w X.K X.mg X.base CX C m k ps sp) (hx:Passes CX X E) (hr:dI k X.A) (he:PE X o ta) (ha:PA X (e::es) t)
  (hs:dS (e::es)=true:=by kernel_rfl)
  (ht:eval (.Call (.Attribute o m apos) (e::es) [] pos) X.env=(do
   let ov ←eval o X.env
   standAt apos.atName
   let (f,first) ←holding [ov] (getMethod ov m pl)
   callWith pos f first (backTo pos (starEach (e::es) X.env)) (backToKw pos (keywordEach [] X.env))):=by rfl) :
  PE X (.Call (.Attribute o m apos) (e::es) [] pos) (tM C m sp E ta t):=by
 obtain⟨f,fd,F,hm,hb⟩:=M.ex
 intro pins s σ H Q I h
 refine A7 (ta:=up ta) (t:=t) he.up M.cl hm F hr hb .nil hx ha (aU (bh hs).1) (cZ (bh hs).2) ht pins s σ H Q I ⟨_,h,fun x H1 q=>?_⟩
 cases x with
 | ref a =>
  obtain⟨dx,fs,h1,h2,h3⟩:=q
  refine⟨a,dx,fs,rfl,h1,h2,?_⟩
  simp only[gW]
  exact h3
 | _=>exact False.elim q
theorem cc {pl:Sem Bool}{k:Nat}{o:Expr}{ta:TE}{apos pos:Pos} (M:Mtd X.prog X.w X.K X.mg X.base CX C m k ps sp) (hx:Passes CX X E) (hr:dI k X.A) (he:PE X o ta)
  (ht:eval (.Call (.Attribute o m apos) [] [] pos) X.env=(do
   let ov ←eval o X.env
   standAt apos.atName
   let (f,first) ←holding [ov] (getMethod ov m pl)
   callWith pos f first (backTo pos (starEach [] X.env)) (backToKw pos (keywordEach [] X.env))):=by rfl) :
  PE X (.Call (.Attribute o m apos) [] [] pos) (tM C m sp E ta xU):=by
 obtain⟨f,fd,F,hm,hb⟩:=M.ex
 intro pins s σ H Q I h
 refine Er (ta:=up ta) he.up M.cl hm F hr hb .nil hx ht pins s σ H Q I ⟨_,h,fun x H1 q=>?_⟩
 cases x with
 | ref a =>
  obtain⟨dx,fs,h1,h2,h3⟩:=q
  exact⟨a,dx,fs,rfl,h1,h2,h3⟩
 | _=>exact False.elim q
end
structure Mak (P:Program) (w:World) (K:PySem.W.Frag) (mg:Str->Option Value) (base:Heap) (CX:CXT) (C:Addr) (x:Str) (k:Nat) (ps:List Str) (sp:Sp):Prop where
 ex:∃ (f:Addr) (fd:FuncData),bI P w K mg base CX k f fd ps sp/\Mk K C f/\Binds K fd ps []
 mg:mg x=some (.ref C)
def EN (C:Addr) (sp:Sp) (E:St->XK) (t:TA):TE:=fun σ H Q=>t σ H fun vs H1=>∀ x dx H2,H1 x=none->H1 dx=none->dx≠x->aD H1 H2->H2 x=some (.ins C dx [])->H2 dx=some (.own x)->sp (.ref x::vs) H2 (fun v H3=>v=.non/\Q (.ref x) H3) (E σ)
theorem Fs {C:Addr}{sp:Sp}{E:St->XK}{t:TA}{σ:St}{H:Hp}{Q:VK}:EN C sp E t σ H Q=t σ H fun vs H1=>∀ x dx H2,H1 x=none->H1 dx=none->dx≠x->aD H1 H2->H2 x=some (.ins C dx [])->H2 dx=some (.own x)->sp (.ref x::vs) H2 (fun v H3=>v=.non/\Q (.ref x) H3) (E σ):=propext Iff.rfl
section
variable {X:Cx}{CX:CXT}{E:St->XK}
theorem jT {k:Nat}{t:TA}{p pos:Pos} (M:Mak X.prog X.w X.K X.mg X.base CX C x k ps sp) (hx:Passes CX X E) (hr:dI (k+1) X.A) (ha:PA X (e::es) t)
  (hg:X.env.kindOf x=some .globalImplicit:=by kernel_rfl) (hd:(x==("__debug__":Str))=false:=by kernel_rfl) (hs:dS (e::es)=true:=by kernel_rfl) :
  PE X (.Call (.Name x p) (e::es) [] pos) (EN C sp E t):=by
 obtain⟨f,fd,F,hm,hb⟩:=M.ex
 intro pins s σ H Q I h
 refine Gy (t:=upA t) hm F hr hg M.mg hb .nil hx ha.up hd (aU (bh hs).1) (cZ (bh hs).2) pins s σ H Q I ⟨_,h,fun vs H1 q x dx h1 h2 h3=>?_⟩
 simp only[gW]
 refine q x dx _ h1 h2 h3 ((dY h2).fi h1) aS ?_
 rw[aP h3,aS]
end
end
section
theorem uz {h g:Heap}{l c:Addr}{xs:Array Value} (x:h.IsList l xs) (s:Heap.SameBut c h g) (ne:l≠c):g.IsList l xs:=by
 obtain⟨o,h1,h2⟩:=x
 exact⟨o,(s.2 l ne).trans h1,h2⟩
section
variable {prog:Program}{w:World}{A:Around}{E:Value->Shared->Prop}
theorem wG {c l:Addr}{xs:Array Value} (ne:l≠c):∀ (k j:Nat) (s:Shared) (R:List Value->Shared->Prop),s.heap.IsListIter c l j->s.heap.IsList l xs->j+k<=xs.size →
  (∀ g,g.IsListIter c l (j+k)->Heap.SameBut c s.heap g->R ((xs.toList.drop j).take k) { s with heap:=g })->wpAny (model prog w) A (draw (.ref c) k) R E s
 | 0,j,s,R,i0,_,_,q=>aO (by simpa using q s.heap i0 (Heap.SameBut.refl ..))
 | k+1,j,s,R,i0,l0,hb,q=>by
  have lt:j<xs.size:=by omega
  show wpAny _ _ (pyNext (.ref c) >>= _) R E s
  refine ar (wpAny_pyNext_list_item i0 l0 (x:=xs[j]) (by simp [lt]) fun g1 i1 s1=>?_)
  refine ar (cD (wG ne k (j+1) _ _ i1 (uz l0 s1 ne) (by omega) fun g2 i2 s2=>aO ?_))
  have z:=q g2 (by rw[show j+(k+1)=j+1+k by omega];exact i2) (s1.trans s2)
  rw[show xs.toList.drop j=xs[j]::xs.toList.drop (j+1) by simp [List.drop_eq_getElem_cons,lt],pk] at z
  exact z
theorem zG {l:Addr}{xs:Array Value}{ts:List (Bool×(Value->Sem Unit))}{R:Unit->Shared->Prop} (hh:A.handled=none) (l0:s.heap.IsList l xs) (hn:ts.length=xs.size) (hs:ts.findIdx? (·.1)=none)
  (q:∀ g,Heap.ExtBut s.heap.objs.size s.heap g->wpAny (model prog w) A (assignInOrder (ts.map (·.2)) xs.toList) R E { s with heap:=g }):wpAny (model prog w) A (unpack (.ref l) ts) R E s:=by
 have ne:l≠s.heap.objs.size:=by obtain⟨o,ho,_⟩:=l0;exact bE (aT ho)
 unfold unpack
 rw[hn,hs]
 refine ar (cD ?_)
 unfold unpackItems
 refine ar ?_
 unfold notIterableAtAll
 refine ar (wpAny_specialOf l0.typeIs F.slot_list_iter.lookup ?_)
 refine aO ?_
 simp only[mQ,hV]
 refine ar (cD (wpAny_pyIter_list l0 ?_))
 refine ar (cD (wG ne xs.size 0 _ _ ⟨_,bL _ rfl,rfl,rfl⟩ (l0.push _) (by omega) fun g1 i1 s1=>?_))
 rw[show List.take xs.size (List.drop 0 xs.toList)=xs.toList by rw[List.drop_zero];exact dZ (by simp)]
 rw[ai (by simp)]
 refine ar (cD (wpAny_pyNext_list_end hh i1 (uz (l0.push _) s1 ne) (by simp) fun g2 e2=>?_))
 simp only[Option.isSome_none,mQ,hV]
 exact aO (q g2 fun b o hb e=>e2 b o hb (s1.extBut b o hb (aW _ e)))
end
def Ip (K:PySem.W.Frag) (n:Nat) (t:TGs):TG:=fun v σ H Q=>match v with
 | .ref a=>∃ xs,Sq K H a xs/\xs.length=n/\t xs σ H Q
 | _=>False
theorem Ji {k:Nat}{t:TGs}{n:Nat}{pos:Pos} (hc:X.calm=true) (h:PGs X es t)
  (hn:(assignEach es X.env).length=n:=by rfl) (hst:(assignEach es X.env).findIdx? (·.1)=none:=by rfl):PG X (.Tuple es k pos) (Ip X.K n t):=by
 intro pins s σ H v u Q I r hw
 cases v with
 | ref a =>
  obtain⟨xs,hq | hq,hl,hw⟩:=hw
  ·cases r
   obtain⟨its,rv,p,hz⟩:=I.list hq
   rw[assign_Tuple]
   refine ar (gz (zG (I.ok.hd hc) p.isList (by simp [hn,←hl,rv.length]) hst fun g hx=>?_))
   have I1:Inv X pins σ H { s with heap:=g }:=I.kept (t':=s.toks) fun b o e=>hx b o (bE (aT e)) e
   exact h pins _ σ H xs _ Q I1 (by simpa using rv) hw
  ·exact Eu (pos:=pos) (k:=k) hc h hn hst pins s σ H _ u Q I r ⟨a,xs,rfl,hq,hl,hw⟩
 | _=>exact False.elim hw
theorem ow {k:Nat}{t:TGs}{n:Nat}{pos:Pos} (hK:X.K=K) (hc:X.calm=true) (h:PGs X es t)
  (hn:(assignEach es X.env).length=n:=by rfl) (hst:(assignEach es X.env).findIdx? (·.1)=none:=by rfl):PG X (.Tuple es k pos) (Ip K n t):=hK ▸ Ji hc h hn hst
theorem HZ {K:PySem.W.Frag}{n:Nat}{t:TGs}{a:Addr}{σ:St}{H:Hp}{Q:St->Hp->Prop}:Ip K n t (.ref a) σ H Q=∃ xs,Sq K H a xs/\xs.length=n/\t xs σ H Q:=propext Iff.rfl
theorem CK {t:TG}{u:TGs}{v:V}{r:List V}{σ:St}{H:Hp}{Q:St->Hp->Prop}:qo t u (v::r) σ H Q=t v σ H fun σ' H'=>u r σ' H' Q:=propext ⟨fun ⟨_,_,e,h⟩=>by cases e;exact h,fun h=>⟨v,r,rfl,h⟩⟩
theorem Fm {σ:St}{H:Hp}{Q:St->Hp->Prop}:D4 [] σ H Q=Q σ H:=propext ⟨fun h=>h.2,fun h=>⟨rfl,h⟩⟩
def jN (l:List Nat) (lo hi:Option Int):List Nat:=(l.drop (HT.sIx l.length 0 lo)).take (HT.sIx l.length l.length hi-HT.sIx l.length 0 lo)
theorem qm (l:List Nat) (lo hi:Option Int):(jN l lo hi).length<=l.length:=by
 unfold jN
 rw[bR,bA]
 omega
theorem zh (l:List α) (a k:Nat):((List.range k).map fun j=>a+j).filterMap (l[·]?)=(l.drop a).take k:=by
 induction k with
 | zero=>simp
 | succ k ih =>
  rw[List.range_succ,cN,List.filterMap_append,ih,List.take_succ]
  congr 1
  simp only[aQ,List.map_nil,mi,List.filterMap_nil,mw]
  cases l[a+k]?<;>rfl
def fV:Option Int->Tok->Option (Int×Tok)
 | some i,t=>some (i,t)
 | none,_=>none
def zQ (n d:Nat):Option Int->Int
 | none=>d
 | some i=>max 0 (min (if i<0 then i+(n:Int) else i) (n:Int))
theorem xJ (n d:Nat) (o:Option Int):zQ n d o=((HT.sIx n d o:Nat):Int):=by
 cases o with
 | none=>rfl
 | some v =>
  show max 0 (min (if v<0 then v+(n:Int) else v) (n:Int))=((if v<0 then (v+(n:Int)).toNat else min v.toNat n:Nat):Int)
  by_cases h:v<0
  ·rw[ao h,ao h];omega
  ·rw[ai h,ai h];omega
theorem vj (lo hi:Option Int) (n:Nat):Builtin.Str.strSliceIndices lo hi 1 n=sliceRange (zQ n 0 lo) (zQ n n hi) 1:=by
 unfold Builtin.Str.strSliceIndices zQ
 cases lo<;>cases hi<;>simp
theorem range_one (a b:Nat):sliceRange (a:Int) (b:Int) 1=(List.range (b-a)).map fun j=>a+j:=by
 unfold sliceRange
 have e3:(if (1:Int)>0 then (if (a:Int)<(b:Int) then ((b:Int)-(a:Int)+1-1)/1 else 0) else (if (a:Int)>(b:Int) then ((a:Int)-(b:Int)-1-1)/(-1) else 0)).toNat=b-a:=by
  rw[ao (by decide)]
  split<;>omega
 show ((List.range (if (1:Int)>0 then (if (a:Int)<(b:Int) then ((b:Int)-(a:Int)+1-1)/1 else 0) else (if (a:Int)>(b:Int) then ((a:Int)-(b:Int)-1-1)/(-1) else 0)).toNat).map fun (k:Nat)=>((a:Int)+1*(k:Int)).toNat)=_
 rw[e3]
 exact iS fun k _=>by omega
theorem oy (x:Str) (lo hi:Option Int) (t u:Tok):slicePicked x (fV lo t) (fV hi u) none=(List.range (HT.sIx x.length x.length hi-HT.sIx x.length 0 lo)).map fun j=>HT.sIx x.length 0 lo+j:=by
 unfold slicePicked
 have e1:(fV lo t).map (·.1)=lo:=by cases lo<;>rfl
 have e2:(fV hi u).map (·.1)=hi:=by cases hi<;>rfl
 rw[e1,e2]
 show Builtin.Str.strSliceIndices lo hi 1 x.length=_
 rw[vj,xJ,xJ,range_one]
theorem zi (x:Str) (lo hi:Option Int) (t u:Tok):(slicePicked x (fV lo t) (fV hi u) none).filterMap (x.cps[·]?)=jN x.cps.toList lo hi:=by
 have e5:(fun i:Nat=>x.cps[i]?)=fun i:Nat=>x.cps.toList[i]?:=by funext i;rw[kS]
 rw[oy,e5,zh]
 unfold jN
 rw[←cR]
theorem GR :SlR X (fun x lo hi H Q=>∃ z,x=.str z/\z.length<=sizeLine/\Q (.str (tx (jN z.cps.toList lo hi))) H):=by
 intro pins s σ H x v vl vu lo hi sl Q I rx hs pl pu h
 obtain⟨z,rfl,hz,q⟩:=h
 obtain⟨t,rfl⟩:=rx
 refine⟨"str",_,F.slot_str_getitem.lookup,fc s z t,?_⟩
 have h1:∃ tl,vl=partValue (fV lo tl):=by cases pl with | none=>exact⟨0,rfl⟩ | int i t=>exact⟨t,rfl⟩
 have h2:∃ tu,vu=partValue (fV hi tu):=by cases pu with | none=>exact⟨0,rfl⟩ | int i t=>exact⟨t,rfl⟩
 obtain⟨tl,rfl⟩:=h1
 obtain⟨tu,rfl⟩:=h2
 refine wpAny_getItem_str_slice (l:=fV lo tl) (u:=fV hi tu) (st:=none) hs rfl ?_
 have ec:=zi z lo hi tl tu
 have key:tx (jN z.cps.toList lo hi)=⟨((slicePicked z (fV lo tl) (fV hi tu) none).filterMap (z.cps[·]?)).toArray⟩:=by rw[ec];rfl
 unfold sliceMade
 split
 next hh =>
  have hl:(slicePicked z (fV lo tl) (fV hi tu) none).length=z.length:=by simpa using hh
  rw[oy,aj,gk] at hl
  have b1:=HT.EE z.length 0 (bN _) lo
  have b2:=HT.EE z.length z.length (aA _) hi
  have e:tx (jN z.cps.toList lo hi)=z:=by
   unfold jN
   rw[←cR,hl]
   by_cases hz0:z.length=0
   ·have:z.cps.toList=[]:=by rw[←List.length_eq_zero_iff,←cR];exact hz0
    rw[this]
    have:=iq z
    rw[‹z.cps.toList=[]›] at this
    simpa using this
   ·rw[show HT.sIx z.length 0 lo=0 by omega,List.drop_zero,dZ (by rw[←cR];exact aA _)]
    exact iq z
  rw[e] at q
  exact⟨.str z,H,I,⟨t,rfl⟩,q⟩
 next =>
  rw[←key]
  refine⟨?_,.str _,H,I.tok _,⟨_,rfl⟩,q⟩
  rw[aJ]
  have:=qm z.cps.toList lo hi
  rw[←cR] at this
  omega
def GK (K:PySem.W.Frag):V->Option Int->Option Int->Hp->VK->Prop:=fun x lo hi H Q=>match x with
 | .ref a=>∃ xs,SqL K H a xs/\nw H (.lst (kZ xs lo hi)) Q
 | .str z=>z.length<=sizeLine/\Q (.str (tx (jN z.cps.toList lo hi))) H
 | _=>False
theorem Lv :SlR X (GK X.K):=by
 intro pins s σ H x v vl vu lo hi sl Q I rx hs pl pu h
 cases x with
 | ref a =>
  obtain⟨xs,h1,h2⟩:=h
  exact GQ pins s σ H _ v vl vu lo hi sl Q I rx hs pl pu ⟨a,xs,rfl,h1,h2.go⟩
 | str z=>exact GR pins s σ H _ v vl vu lo hi sl Q I rx hs pl pu ⟨z,rfl,h.1,h.2⟩
 | _=>exact False.elim h
theorem eP (hK:X.K=K):SlR X (GK K):=hK ▸ Lv
theorem i8.mark {k:Nat}{A:Around}{e:Option Value} (r:i8 k A):i8 k (A.mark e):=⟨r.dp,r.un⟩
end
section
def hZ (x:Key) (l:List Key):Bool:=l.any fun y=>decide (y=x)
theorem sk {x:Key}{l:List Key}:hZ x l=true↔x∈l:=by
 unfold hZ
 rw[List.any_eq_true]
 exact⟨fun ⟨y,h,e⟩=>gy e ▸ h,fun h=>⟨x,h,aC rfl⟩⟩
theorem BS (x y:Key) (l:List Key):hZ x (l++[y])=(hZ x l||decide (y=x)):=by
 unfold hZ
 rw[List.any_append];simp
def dF (val:Nat->Key):Nat->List Key
 | 0=>[]
 | i+1=>if hZ (val i) (dF val i)=true then dF val i else dF val i++[val i]
theorem sr (val:Nat->Key):∀ i,(dF val i).length<=i
 | 0=>aA _
 | i+1=>by
  have ih:=sr val i
  unfold dF
  split
  ·omega
  ·rw[ah,gY];omega
theorem xP {S S':Key->Bool}{n n':Nat} (x:h.SetOf (bH P w) a S n) (e:∀ k,S k=S' k) (en:n=n'):h.SetOf (bH P w) a S' n':=by
 have z:S=S':=funext e
 subst z;subst en;exact x
section
variable {prog:Program}{w:World}{A:Around}{R:Result->Shared->Prop}{c:Addr}{fp wr:List Addr}{G:Array GenState->Array GenState->Prop}{n:Nat}{Pv:Nat->Value->Prop}{Sv:Nat->Shared->Prop}
theorem xY (W:WalksS prog w A.in1 c fp wr G n Pv Sv) (a:Addr) (na:a∉fp) (val:Nat->Key) (hv:∀ i v,Pv i v->mW (val i) v=true/\v.scannable=true) (hb:n+1<scanBound) :
  ∀ (k i:Nat) (s:Shared),n-i=k->i<=n->Sv i s->s.heap.SetOf (bH prog w) a (fun x=>hZ x (dF val i)) (dF val i).length →
   (∀ s',Moved (a::wr) G s s'->s'.heap.SetOf (bH prog w) a (fun x=>hZ x (dF val n)) (dF val n).length->R (.ok (.ret .none)) s') →
   codeAny (model prog w) A (.builtin "set.update.loop" ⟨[.ref a,.ref c],[]⟩) R s:=by
 have nw':a∉wr:=fun z=>na (W.sub _ z)
 have sb:∀ b∈wr,b∈a::wr:=fun b h=>bb _ h
 have nJ:∀ {s s':Shared}{S:Key->Bool}{m:Nat},Moved wr G s s'->s.heap.SetOf (bH prog w) a S m->s'.heap.SetOf (bH prog w) a S m:=fun mv x=>by
  obtain⟨o,es,ep,t,ho,r⟩:=x
  exact⟨o,es,ep,t,mv.heap a _ nw' ho,r⟩
 intro k
 induction k with
 | zero =>
  intro i s hk hi st x q
  have e:i=n:=by omega
  subst e
  refine kq PyProof.Rows.F.entry_set_update_loop ?_
  rw[Around.under_plainId tS _]
  show wpAny _ A.in1 (pyNext (.ref c) >>= _) _ _ s
  refine ar (W.done s _ _ st fun s' mv=>?_)
  exact aO (q s' (mv.mono sb) (nJ mv x))
 | succ k ih =>
  intro i s hk hi st x q
  have lt:i<n:=by omega
  refine kq PyProof.Rows.F.entry_set_update_loop ?_
  rw[Around.under_plainId tS _]
  show wpAny _ A.in1 (pyNext (.ref c) >>= _) _ _ s
  refine ar (W.item i s _ _ lt st fun v s' pv st' mv=>?_)
  obtain⟨hk1,hk2⟩:=hv i v pv
  have x':=nJ mv x
  show wpAny _ A.in1 (holding [v] (setAdd a v) >>= _) _ _ s'
  refine ar (cD ?_)
  unfold setAdd
  refine cD ?_
  refine ar ((bH prog w).pyHash (k:=val i) hk1 ?_)
  have room:(dF val i).length+1<scanBound:=by have:=sr val i;omega
  refine wpAny_setAddHashed_of (knd:=bH prog w) (s:={ s' with toks:=s'.toks+1 }) hk1 hk2 x' room fun g sg xg=>?_
  have x2:g.SetOf (bH prog w) a (fun y=>hZ y (dF val (i+1))) (dF val (i+1)).length:=by
   refine xP xg (fun y=>?_) ?_
   ·show (hZ y (dF val i)||decide (y=val i))=hZ y (if hZ (val i) (dF val i)=true then dF val i else dF val i++[val i])
    by_cases hc:hZ (val i) (dF val i)=true
    ·rw[ao hc]
     by_cases e:y=val i
     ·subst e;rw[hc,Bool.true_or]
     ·rw[aE e,Bool.or_false]
    ·rw[ai hc,BS]
     congr 1
     by_cases e:y=val i
     ·rw[aC e,aC e.symm]
     ·rw[aE e,aE (Ne.symm e)]
   ·show (if hZ (val i) (dF val i)=true then (dF val i).length else (dF val i).length+1)=(if hZ (val i) (dF val i)=true then dF val i else dF val i++[val i]).length
    by_cases hc:hZ (val i) (dF val i)=true
    ·rw[ao hc,ao hc]
    ·rw[ai hc,ai hc,ah];rfl
  refine aO ⟨plainId_quiet tS _,ih (i+1) _ (by omega) lt (W.frame _ s' _ _ st' (Nat.le_succ _) fun b hb o e=>?_) x2 fun s'' mv2 x3=>?_⟩
  ·rw[sg.2 b (fun z:b=a=>na (by rw[←z];exact hb))];exact e
  ·refine q s'' (Moved.trans W.gtrans ((mv.mono sb).then_heap (Nat.le_succ _) fun b o hb e=>?_) mv2) x3
   rw[sg.2 b (fun z:b=a=>hb (by rw[z];exact aR))];exact e
end
def jJ (z:Str) (i:Nat):Key:=Sum.inr ⟨#[z.cps.toList.getD i 0]⟩
theorem sub_str_set:isSubtype (.type "str") (.type "set")=pure false:=by rw[isSubtype_type];kernel_rfl
theorem tL:isSubtype (.type "str") (.type "frozenset")=pure false:=by rw[isSubtype_type];kernel_rfl
set_option maxRecDepth 100000 in
set_option maxHeartbeats 4000000 in
theorem xQ {prog:Program}{w:World}{E:Value->Shared->Prop}{s:Shared}{z:Str}{t:Tok}{Q:Value->Shared->Prop} (hh:A.handled=none) (hb:z.cps.size+1<scanBound)
  (q:∀ (g:Heap) (tk:Nat),g.SetOf (bH prog w) s.heap.objs.size (fun x=>hZ x (dF (jJ z) z.cps.size)) (dF (jJ z) z.cps.size).length->(∀ b o,b<s.heap.objs.size->s.heap.get? b=some o->g.get? b=some o) →
   Q (.ref s.heap.objs.size) { s with heap:=g,toks:=tk }):wpAny (model prog w) A (call (.type "set") [.str z t]) Q E s:=by
 obtain⟨c,tl,hmro⟩:=jr.mro
 have hmade:=jr.made
 have hsub:=jr.sub
 refine wpAny_call (codeAny_of_tree ?_)
 show wpAny _ _ (callAny (.type "set") _) _ _ _
 refine aO ⟨Code.quiet_builtin _ (by decide +kernel),kq F.entry_type_call ?_⟩
 rw[Around.under_plain (weight_type_call_type "set" [.str z t] []) rfl]
 have h1:=jr.notType
 have h2:=jr.canCreate
 have hct:=F.typeCall_set_1 (.str z t)
 repeat (any_goals (first | assumption | wp_step))
 refine codeAny_mono (code_set_new_1 (.str z t) (E:=E) (Q₁:=fun ob s1=>∃ led:Bool,ob=.ref s.heap.objs.size/\s1={ s with heap:=s.heap.push { cls:=.type "set",dict:=none,data:=.set #[] 0 (.fresh 0 0 led) } }) fun led=>⟨led,rfl,rfl⟩) fun r s1 hr=>?_
 cases r with
 | error e=>exact hr
 | ok fl =>
  cases fl with
  | ret ob =>
   obtain⟨led,rfl,rfl⟩:=hr
   generalize hg1:s.heap.push { cls:=.type "set",dict:=none,data:=.set #[] 0 (.fresh 0 0 led) }=g1
   have hS:g1.get? s.heap.objs.size=some { cls:=.type "set",dict:=none,data:=.set #[] 0 (.fresh 0 0 led) }:=by rw[←hg1];exact bL _ rfl
   have hsz:g1.objs.size=s.heap.objs.size+1:=by rw[←hg1,Heap.size_push]
   have hkp:∀ b o,s.heap.get? b=some o->g1.get? b=some o:=fun b o e=>by rw[←hg1];exact aW _ e
   have hT:Shared.TypeIs { s with heap:=g1 } (.ref s.heap.objs.size) "set":=⟨_,hS,rfl⟩
   have hli:=jr.init.lookup
   have hbi:=jr.init.bind (.ref s.heap.objs.size)
   repeat (any_goals (first | assumption | wp_step))
   refine codeAny_mono (codeAny_call_builtin (R:=wants (fun r s2=>r=.none/\∃ g tk,s2={ s with heap:=g,toks:=tk }/\g.SetOf (bH prog w) s.heap.objs.size (fun x=>hZ x (dF (jJ z) z.cps.size)) (dF (jJ z) z.cps.size).length ∧
     (∀ b o,b<s.heap.objs.size->s.heap.get? b=some o->g.get? b=some o)) E) jr.init.plain F.entry_set_init (check_set_init_1 hT ?_)) fun r2 s2 hr2=>?_
   ·have k1:=sub_str_set
    have k2:=tL
    have k3:(Value.type "str"==Value.type "dict")=false:=by decide
    have hh3:A.in1.in1.in1.handled=none:=by simp [hh]
    have hval:∀ i v,SignAt z i v->mW (jJ z i) v=true/\v.scannable=true:=by
     rintro i v ⟨ch,u,e,rfl⟩
     refine⟨?_,rfl⟩
     have e2:z.cps.toList.getD i 0=ch:=by rw[cU,kS,e];rfl
     unfold jJ
     rw[e2]
     exact u7 _ _
    have fin:∀ (g2:Heap),(∀ b o,g1.get? b=some o->g2.get? b=some o)->∀ s',Moved (s.heap.objs.size::[g1.objs.size]) (fun a b=>b=a) { s with heap:=g2 } s' →
      s'.heap.SetOf (bH prog w) s.heap.objs.size (fun x=>hZ x (dF (jJ z) z.cps.size)) (dF (jJ z) z.cps.size).length →
      ∃ g tk,s'={ s with heap:=g,toks:=tk }/\g.SetOf (bH prog w) s.heap.objs.size (fun x=>hZ x (dF (jJ z) z.cps.size)) (dF (jJ z) z.cps.size).length/\(∀ b o,b<s.heap.objs.size->s.heap.get? b=some o->g.get? b=some o):=by
     intro g2 k4 s' mv x
     obtain⟨g,ge,d,tk,os⟩:=s'
     have eg:ge=s.gens:=mv.gens
     have ed:d=s.drawn:=mv.drawn
     have eo:os=s.os:=mv.os
     subst eg;subst ed;subst eo
     refine⟨g,tk,rfl,x,fun b o hb e=>mv.heap b o ?_ (k4 b o (hkp b o e))⟩
     simp only[aH,dh,dm,not_or]
     rw[hsz]
     exact⟨bE hb,bE (iV hb)⟩
    have start:∀ g2:Heap,(∀ b o,g1.get? b=some o->g2.get? b=some o)->g2.SetOf (bH prog w) s.heap.objs.size (fun x=>hZ x (dF (jJ z) 0)) (dF (jJ z) 0).length:=fun g2 k4 =>
     letI:BEq Key:=instBEqOfDecidableEq
     xP ((PyProof.Rows.setObjOf_fresh (knd:=bH prog w) led).setOf (k4 _ _ hS) (by unfold scanBound;omega)) (fun _=>rfl) rfl
    have na:s.heap.objs.size∉[g1.objs.size]:=by simp only[aH,dh,dm];omega
    unfold Builtin.«set.__init__» noKeywords Builtin.Frozenset.updateFrom
    generalize hPI:pyIter=PI
    wp_walk
    subst hPI
    cases ha:z.cps.all (·<128) with
    | true =>
     refine wpAny_pyIter_ascii ha ?_
     refine ar (wpAny_runValue ?_)
     refine xY ((Walks.strAscii hh3 g1.objs.size z t).toS) s.heap.objs.size na (jJ z) hval hb (z.cps.size-0) 0 _ (by omega) (bN _) ⟨_,bL _ rfl,rfl,rfl⟩ (start _ fun b o e=>aW _ e) fun s' mv x=>?_
     obtain⟨g,tk,e,r1,r2⟩:=fin _ (fun b o e=>aW _ e) s' mv x
     refine aO ?_
     show wpAny _ _ (ret Value.none) _ _ _
     exact aO ⟨rfl,g,tk,e,r1,r2⟩
    | false =>
     refine wpAny_pyIter_wide ha ?_
     refine ar (wpAny_runValue ?_)
     refine xY ((Walks.strWide hh3 g1.objs.size z t).toS) s.heap.objs.size na (jJ z) hval hb (z.cps.size-0) 0 _ (by omega) (bN _) ⟨_,bL _ rfl,rfl,rfl⟩ (start _ fun b o e=>aW _ e) fun s' mv x=>?_
     obtain⟨g,tk,e,r1,r2⟩:=fin _ (fun b o e=>aW _ e) s' mv x
     refine aO ?_
     show wpAny _ _ (ret Value.none) _ _ _
     exact aO ⟨rfl,g,tk,e,r1,r2⟩
   ·cases r2 with
    | error e=>exact hr2
    | ok fl2 =>
     cases fl2 with
     | ret v =>
      obtain⟨rfl,g,tk,rfl,x1,x2⟩:=hr2
      repeat (any_goals (first | assumption | wp_step))
      exact q _ _ x1 x2
     | _=>exact hr2.elim
  | _=>exact hr.elim
end
section
def zy (P:Program) (w:World) (a:Addr) (l:List Key):HO:=.ext fun h=>h.SetOf (bH P w) a (fun x=>hZ x l) l.length
theorem GO {l:List Key} (x:h.SetOf (bH P w) a (fun x=>hZ x l) l.length):c8 P w H h a (zy P w a l):=by
 refine⟨x,?_,fun h1 h2 y k=>?_⟩
 ·obtain⟨o,_,_,_,e,_⟩:=x;exact⟨o,e⟩
 ·obtain⟨o,es,ep,t,e,r⟩:=y;exact⟨o,es,ep,t,k o e,r⟩
def E6 (P:Program) (w:World):List V->Hp->VK->Prop:=fun vs H Q=>match vs with
 | [.str z]=>z.length<=4000/\∀ p H',H p=none->aD H H'->H' p=some (zy P w p (dF (jJ z) z.length))->Q (.ref p) H'
 | _=>False
theorem Bh (hc:X.calm=true):cW X (.type "set") (E6 X.prog X.w):=by
 intro pins s σ H xs us Q I r h
 match xs,h with
 | [.str z],h =>
  obtain⟨u,rfl,t,rfl⟩:=vals1 r
  have hf:H s.heap.objs.size=none:=I.hok.fresh (aA _)
  have hz:z.cps.size<=4000:=h.1
  refine xQ (I.ok.hd hc) (by unfold scanBound;omega) fun g tk x k=>?_
  have kk:∀ b o,s.heap.get? b=some o->g.get? b=some o:=fun b o e=>k b o (aT e) e
  exact⟨.ref s.heap.objs.size,upd H s.heap.objs.size (zy X.prog X.w s.heap.objs.size (dF (jJ z) z.length)),I.laid (t':=tk) kk (aA _) (GO x),rfl,h.2 _ _ hf (dY hf) aS⟩
def E4 (P:Program) (w:World):List V->Hp->VK->Prop:=fun vs H Q=>match vs with
 | [.ref p]=>∃ l,H p=some (zy P w p l)/\Q (.int l.length) H
 | _=>False
theorem Be :cW X (.builtin "len") (E4 X.prog X.w):=by
 intro pins s σ H xs us Q I r h
 match xs,h with
 | [.ref p],h =>
  obtain⟨l,e,q⟩:=h
  obtain⟨u,rfl,ru⟩:=vals1 r
  cases ru
  obtain⟨⟨o,es,ep,t,e1,e2,e3,_,_,e4,e5,e6⟩,_⟩:=(show c8 X.prog X.w H s.heap p (zy X.prog X.w p l) from I.hok p _ e)
  refine call_len_set e1 e2 e3 e5 (by have:es.size<4096:=e4;omega) ⟨.int es.size,H,I.tok _,⟨_,rfl⟩,?_⟩
  rw[e6];exact q
theorem Bg (hP:X.prog=P) (hw:X.w=w) (hc:X.calm=true):cW X (.type "set") (E6 P w):=by subst hP hw;exact Bh hc
theorem yg (hP:X.prog=P) (hw:X.w=w):cW X (.builtin "len") (E4 P w):=by subst hP hw;exact Be
theorem su (val:Nat->Key):∀ (n:Nat) (x:Key),x∈dF val n↔∃ i,i<n/\val i=x
 | 0,x=>⟨fun h=>(by cases h),fun ⟨i,h,_⟩=>absurd h (Nat.not_lt_zero _)⟩
 | n+1,x=>by
  have ih:=su val n
  unfold dF
  by_cases hc:hZ (val n) (dF val n)=true
  ·rw[ao hc,ih x]
   obtain⟨j,hj,ej⟩:=(ih (val n)).mp (sk.mp hc)
   constructor
   ·rintro⟨i,h,e⟩;exact⟨i,iV h,e⟩
   ·rintro⟨i,h,e⟩
    rcases pq.mp h with h | h
    ·exact⟨i,h,e⟩
    ·exact⟨j,hj,by rw[ej,←h,e]⟩
  ·rw[ai hc,bw,bt,ih x]
   constructor
   ·rintro (⟨i,h,e⟩ | e)
    ·exact⟨i,iV h,e⟩
    ·exact⟨n,gZ _,e.symm⟩
   ·rintro⟨i,h,e⟩
    rcases pq.mp h with h | h
    ·exact .inl ⟨i,h,e⟩
    ·exact .inr (by rw[←e,h])
theorem uC (val:Nat->Key):∀ n,(dF val n).length=n↔∀ i j,i<n->j<n->val i=val j->i=j
 | 0=>⟨fun _ i _ h=>absurd h (Nat.not_lt_zero _),fun _=>rfl⟩
 | n+1=>by
  have ih:=uC val n
  have hl:=sr val n
  unfold dF
  by_cases hc:hZ (val n) (dF val n)=true
  ·rw[ao hc]
   obtain⟨j,hj,ej⟩:=(su val n (val n)).mp (sk.mp hc)
   constructor
   ·intro h;omega
   ·intro h
    have:=h j n (iV hj) (gZ _) ej
    omega
  ·rw[ai hc,ah,gY]
   have nm:∀ i,i<n->val i≠val n:=fun i hi e=>hc (sk.mpr ((su val n (val n)).mpr ⟨i,hi,e⟩))
   constructor
   ·intro h i j hi hj e
    have h2:=ih.mp (by omega)
    rcases pq.mp hi with hi | hi<;>rcases pq.mp hj with hj | hj
    ·exact h2 i j hi hj e
    ·subst hj;exact absurd e (nm i hi)
    ·subst hi;exact absurd e.symm (nm j hj)
    ·omega
   ·intro h
    have:=ih.mpr fun i j hi hj=>h i j (iV hi) (iV hj)
    omega
theorem uD (z:Str):(dF (jJ z) z.length).length=z.length↔z.cps.toList.Nodup:=by
 rw[uC,List.nodup_iff_pairwise_ne,pj]
 have hl:=cR z
 constructor
 ·intro h i j hi hj hij e
  have:=h i j (by omega) (by omega) (by unfold jJ;rw[cU,cU,bu hi,bu hj,e])
  omega
 ·intro h i j hi hj e
  have hi':i<z.cps.toList.length:=by omega
  have hj':j<z.cps.toList.length:=by omega
  have e2:z.cps.toList[i]=z.cps.toList[j]:=by
   unfold jJ at e
   rw[cU,cU,bu hi',bu hj'] at e
   have e4:=aG Str.cps (Sum.inr.inj e)
   simpa using e4
  rcases Nat.lt_trichotomy i j with z1 | z1 | z1
  ·exact absurd e2 (h i j hi' hj' z1)
  ·exact z1
  ·exact absurd e2.symm (h j i hj' hi' z1)
def AH:V->List V->Hp->VK->Prop:=fun x vs H Q=>match x,vs with
 | .ref l,[.int i,y]=>∃ xs,H l=some (.lst xs)/\0<=i/\i<2^62/\xs.length<sizeLine/\Q .non (upd H l (.lst (xs.take i.toNat++y::xs.drop i.toNat)))
 | _,_=>False
theorem BU :MtM X "list.insert" AH:=by
 intro pins s σ H x vs v us Q I rx rv h
 match x,vs,h with
 | .ref l,[.int i,y],h =>
  obtain⟨xs,hH,h0,h1,hz,q⟩:=h
  cases rx
  obtain⟨u1,u2,rfl,⟨t,rfl⟩,ry⟩:=rv.two
  obtain⟨z,its,n,r,hl,e⟩:=I.DR hH
  have hfit:¬(!Builtin.List.listFitsIndex i)=true:=by unfold Builtin.List.listFitsIndex;simp;omega
  refine gx F.slot_list_insert ⟨_,e,rfl⟩ F.entry_list_insert (F.args_list_insert_3 _ _ _) (AutoListH.list_insert_list_int_val_1 l its.toArray n i t u2 hfit (by rw[bz];omega)) ⟨e,?_⟩
  refine⟨.non,_,I.Kd (ys:=xs.take i.toNat++y::xs.drop i.toNat) (its':=its.take i.toNat++u2::its.drop i.toNat) hH e ?_ ((r.take i.toNat).append (.cons ry (r.drop i.toNat))) ?_,rfl,q⟩
  ·have e0:(if i<0 then (i+((its.toArray.size:Nat):Int)).toNat else min i.toNat its.toArray.size)=min i.toNat its.length:=by rw[ai (by omega),bz]
   show (its.toArray.extract 0 (if i<0 then (i+((its.toArray.size:Nat):Int)).toNat else min i.toNat its.toArray.size)).push u2++its.toArray.extract (if i<0 then (i+((its.toArray.size:Nat):Int)).toNat else min i.toNat its.toArray.size)=_
   rw[e0]
   apply Array.toList_inj.mp
   by_cases hb:i.toNat<=its.length
   ·rw[Nat.min_eq_left hb]
    simp
    rw[dZ (by rw[bA];omega)]
   ·rw[Nat.min_eq_right (by omega)]
    simp [dZ (show its.length<=i.toNat by omega),mh (show its.length<=i.toNat by omega)]
  ·rw[ah,ag,bR,bA];omega
theorem uo (l:List Nat):jN l none (some (-1))=l.dropLast:=by
 unfold jN
 rw[List.dropLast_eq_take]
 have e1:HT.sIx l.length 0 none=0:=rfl
 have e2:HT.sIx l.length l.length (some (-1))=l.length-1:=by
  unfold HT.sIx
  simp
  omega
 rw[e1,e2];rfl
theorem tV:bootBuiltins "ValueError"=some (.type "ValueError"):=by kernel_rfl
def ndB:List Addr->Bool
 | []=>true
 | a::r=>!r.contains a&&ndB r
theorem Hc:∀ {l:List Addr} (_:ndB l=true) {i j:Nat}{a b:Addr},l[i]?=some a->l[j]?=some b->(a==b)=decide (i=j)
 | [],_,_,_,_,_,h,_=>by simp at h
 | x::l,hn,0,0,a,b,ha,hb=>by
  simp at ha hb
  subst ha hb
  simp
 | x::l,hn,0,j+1,a,b,ha,hb=>by
  unfold ndB at hn
  rw[bS,Bool.not_eq_true'] at hn
  simp at ha hb
  subst ha
  have hm:b∈l:=br hb
  have:x≠b:=fun e=>by rw[e,List.contains_iff_mem.mpr hm] at hn;cases hn.1
  simp [this]
 | x::l,hn,i+1,0,a,b,ha,hb=>by
  unfold ndB at hn
  rw[bS,Bool.not_eq_true'] at hn
  simp at ha hb
  subst hb
  have hm:a∈l:=br ha
  have:a≠x:=fun e=>by rw[←e,List.contains_iff_mem.mpr hm] at hn;cases hn.1
  simp [this]
 | x::l,hn,i+1,j+1,a,b,ha,hb=>by
  unfold ndB at hn
  rw[bS] at hn
  rw[Hc hn.2 (i:=i) (j:=j) (by simpa using ha) (by simpa using hb)]
  exact kr.mpr (by omega)
theorem pM (l:List Nat) (j:Nat):jN l none (some (j:Int))=l.take j:=by
 unfold jN
 rw[HT.oG,HT.mO,Nat.sub_zero,List.drop_zero,List.take_eq_take_iff]
 omega
theorem mE (l:List Nat) (j:Nat):jN l (some (j:Int)) none=l.drop j:=by
 unfold jN
 rw[HT.oG,HT.mO]
 by_cases h:j<=l.length
 ·rw[Nat.min_eq_left h]
  exact dZ (by rw[bA];exact aA _)
 ·rw[Nat.min_eq_right (by omega),mh (aA _),mh (by omega),List.take_nil]
theorem fw {H H':Hp} (s:aD H H') {x:V}{t:Tg} (h:eI H x=some t):eI H' x=some t:=by
 cases x with
 | ref a =>
  have h':i3 (H a)=some t:=h
  cases e:H a with
  | none=>rw[e] at h';cases h'
  | some o =>
   show i3 (H' a)=some t
   rw[s a o e,←e];exact h'
 | _=>exact h
end
section
theorem qZ {k:Nat}:items[((k:Nat):Int).toNat]?=(items.toList.drop k)[0]?:=by
 rw[mw,Int.toNat_natCast,Nat.add_zero,kS]
theorem Ac {k:Nat}{v:Value}{r:List Value} (h:items.toList.drop k=v::r):items.toList.drop (k+1)=r:=by
 rw[←List.drop_drop,h];rfl
def lC:List Int->List Int->Bool
 | [],[]=>true
 | [],_::_=>false
 | _::_,[]=>true
 | a::x,c::y=>if a=c then lC x y else decide (c<=a)
theorem FW (l b:Addr) (items items2:Array Value) (n n2:Nat) (dd dd2:Option Addr) (sl sl2:Array (Option Value)) {prog:Program}{w:World}{A:Around}{R:Result->Shared->Prop}{s:Shared}
  (hl:s.heap.get? l=some { cls:=.type "list",dict:=dd,data:=.seq items n,slots:=sl }) (hb:s.heap.get? b=some { cls:=.type "list",dict:=dd2,data:=.seq items2 n2,slots:=sl2 }) :
  ∀ (xs:List Value) (k:Nat) (ns ms:List Int),items.toList.drop k=xs->IntsAre xs ns->IntsAre (items2.toList.drop k) ms->k<=items.size->k<=items2.size->R (.ok (.ret (.bool (lC ns ms)))) s →
   codeAny (model prog w) A (Code.builtin "list.__eq__.loop" { pos:=[.ref l,.ref b,rawInt (k:Int),rawInt 5] }) R s:=by
 obtain⟨hp,g,d,tk,os⟩:=s
 simp only at hl hb
 intro xs
 induction xs with
 | nil =>
  intro k ns ms hx hi hj hk hk2 h
  refine kq MeetsSeq3.entry_eq_loop ?_
  show wpAny _ _ (Builtin.«list.__eq__.loop» { pos:=[.ref l,.ref b,Value.int (k:Int) 0,Value.int 5 0] }) _ _ _
  unfold Builtin.«list.__eq__.loop»
  have e1:items[((k:Nat):Int).toNat]?=none:=by rw[qZ,hx];rfl
  have hz:items.size=k:=by have:=aG List.length hx;rw[bA,gP,ax] at this;omega
  have hz2:items2.size-k=ms.length:=by have:=hj.length;rw[bA,gP] at this;exact this
  wp_walk using AutoSeq1.wpAny_loadPart' hl,AutoSeq1.wpAny_loadPart' hb
  rw[e1]
  wp_walk using AutoSeq1.wpAny_loadPart' hl,AutoSeq1.wpAny_loadPart' hb
  cases hi
  have e2:lC [] ms=decide (items.size≥items2.size):=by
   cases ms with
   | nil=>exact (aC (by simp only[ax] at hz2;omega)).symm
   | cons c y=>exact (aE (by simp only[ag] at hz2;omega)).symm
  rw[e2] at h
  exact h
 | cons v xs ih =>
  intro k ns ms hx hi hj hk hk2 h
  refine kq MeetsSeq3.entry_eq_loop ?_
  show wpAny _ _ (Builtin.«list.__eq__.loop» { pos:=[.ref l,.ref b,Value.int (k:Int) 0,Value.int 5 0] }) _ _ _
  unfold Builtin.«list.__eq__.loop»
  have e1:items[((k:Nat):Int).toNat]?=some v:=by rw[qZ,hx];rfl
  have hz:items.size=k+(xs.length+1):=by have:=aG List.length hx;rw[bA,gP,ag] at this;omega
  wp_walk using AutoSeq1.wpAny_loadPart' hl,AutoSeq1.wpAny_loadPart' hb
  rw[e1]
  cases hi with
  | cons a t hi' =>
  generalize hy:items2.toList.drop k=ys at hj
  cases hj with
  | nil =>
   have e2:items2[((k:Nat):Int).toNat]?=none:=by rw[qZ,hy];rfl
   have hz2:items2.size=k:=by have:=aG List.length hy;rw[bA,gP,ax] at this;omega
   rw[e2]
   wp_walk using AutoSeq1.wpAny_loadPart' hl,AutoSeq1.wpAny_loadPart' hb
   have e3:∀ z,lC (a::z) []=decide (items.size≥items2.size):=fun z=>(aC (by omega)).symm
   rw[e3] at h
   exact h
  | cons c u hj' =>
   have e2:items2[((k:Nat):Int).toNat]?=some (.int c u):=by rw[qZ,hy];rfl
   have hz2:k+1<=items2.size:=by have:=aG List.length hy;rw[bA,gP,ag] at this;omega
   rw[e2]
   obtain⟨e,he,hiff⟩:=HT.Dm (A.under (Code.builtin "list.__eq__.loop" { pos:=[.ref l,.ref b,rawInt (k:Int),rawInt 5] })) ⟨hp,g,d,tk,os⟩ a t c u
   refine ar (he prog w _ _ ?_)
   unfold lC at h
   cases e with
   | true =>
    rw[ao (hiff.mp rfl)] at h
    wp_walk
    exact⟨by with_unfolding_all rfl,ih (k+1) _ _ (Ac hx) hi' (by rw[Ac hy];exact hj') (by omega) (by omega) h⟩
   | false =>
    rw[ai (fun q=>absurd (hiff.mpr q) cf)] at h
    wp_walk using AutoSeq1.wpAny_loadPart' hl,AutoSeq1.wpAny_loadPart' hb
    rw[e1,e2]
    have hri:∀ (A:Around) (E:Value->Shared->Prop) (Q:Value->Shared->Prop),Q (.bool (decide (c<=a))) ⟨hp,g,d,tk,os⟩->wpAny (model prog w) A (richCompare .GtE (.int a t) (.int c u)) Q E ⟨hp,g,d,tk,os⟩:=fun A E Q h=>(PyProof.Rows.ge_int h:wpAny (model prog w) A (compareOp .GtE (.int a t) (.int c u)) Q E _)
    refine ar (hri _ _ _ ?_)
    wp_walk
    exact h
theorem D9 {l b:Addr}{items items2:Array Value}{ns ms:List Int}{prog:Program}{w:World}{A:Around}{E:Value->Shared->Prop}{Q:Value->Shared->Prop} (hl:s.heap.IsList l items) (hb:s.heap.IsList b items2) (hi:IntsAre items.toList ns) (hj:IntsAre items2.toList ms)
  (hu:A.units<cLine) (h:Q (.bool (lC ns ms)) s):wpAny (model prog w) A (compareOp .GtE (.ref l) (.ref b)) Q E s:=by
 obtain⟨⟨c1,dd,d1,sl⟩,ho,g1,n,g2⟩:=id hl
 obtain⟨⟨c2,dd2,d2,sl2⟩,ho2,g3,n2,g4⟩:=id hb
 simp only at g1 g2 g3 g4
 subst g1 g2 g3 g4
 have m:Meets (Builtin.«list.__ge__» ⟨[.ref l,.ref b],[]⟩) (fun _ R s=>s.heap.get? l=some { cls:=.type "list",dict:=dd,data:=.seq items n,slots:=sl }/\s.heap.get? b=some { cls:=.type "list",dict:=dd2,data:=.seq items2 n2,slots:=sl2 } ∧
    R (.ok (.ret (.bool (lC ns ms)))) s):=by
  intro prog w A R s h
  obtain⟨hp,g,d,tk,os⟩:=s;obtain⟨hl,hb,h⟩:=h
  simp only at hl hb
  have f2:=AutoSeq1.sub_list_list
  unfold Builtin.«list.__ge__»
  wp_walk using AutoSeq1.wpAny_loadPart' hl,AutoSeq1.wpAny_loadPart' hb
  exact⟨by with_unfolding_all rfl,FW l b items items2 n n2 dd dd2 sl sl2 hl hb _ 0 ns ms rfl hi hj (bN _) (bN _) h⟩
 exact PySem.W.cmp_ofGtE (richCompare_meets_room (op:=.GtE) ⟨_,ho,rfl⟩ ⟨_,ho2,rfl⟩ PySem.F.slot_list_ge PySem.F.entry_list_ge (PySem.F.args_list_ge_2 _ _) m
  ⟨ho,ho2,show Value.bool (lC ns ms)≠Value.notImplemented/\Q (.bool (lC ns ms)) s from ⟨(fun x=>nomatch x),h⟩⟩ hu)
section
variable {X:Cx}{K:PySem.W.Frag}
def Jn (K:PySem.W.Frag):R2:=fun x y H Q=>match x,y with
 | .int i,.int j=>Q (.bl (decide (j<=i))) H
 | .ref a,.ref b=>∃ ns ms,SqL K H a (ns.map V.int)/\SqL K H b (ms.map V.int)/\Q (.bl (lC ns ms)) H
 | _,_=>False
theorem Ef (hK:X.K=K) (hu:X.A.units<cLine):OpR X (compareOp .GtE) (Jn K):=by
 subst hK
 intro pins s σ H x y v u Q I rx ry h
 cases x with
 | int i=>cases y with
  | int j=>exact IV pins s σ H _ _ v u Q I rx ry h
  | _=>exact False.elim h
 | ref a=>cases y with
  | ref b =>
   obtain⟨ns,ms,ha,hb,q⟩:=h
   cases rx
   cases ry
   obtain⟨its,r1,p1,_⟩:=I.list ha
   obtain⟨its2,r2,p2,_⟩:=I.list hb
   exact D9 p1.isList p2.isList (intsAre_of r1) (intsAre_of r2) hu ⟨.bl (lC ns ms),H,I,rfl,q⟩
  | _=>exact False.elim h
 | _=>exact False.elim h
end
theorem ft {t u:TS} (h:∀ nn:TS,nn=u->t { D with nx:=fun σ' H'=>nn D σ' H' } σ H):Cq t u D σ H:=h u rfl
theorem nX {lo:Int}{n:Nat}{g:TG}{tb:TS}{D:Ends} (Pv:Nat->St->Hp->Prop) (h0:Pv 0 σ H)
  (hs:∀ i σ H,i<n->Pv i σ H->∀ N:St->Hp->Prop,(∀ σ' H',Pv (i+1) σ' H'->N σ' H')->g (.int (lo+i)) σ H fun σ2 H2=>tb { D with nx:=N,ct:=N,bk:=D.nx } σ2 H2) (hd:∀ σ H,Pv n σ H->D.nx σ H):jL g tb D (Itr lo n) σ H :=
 Ai Pv h0 (fun i σ H hi hp=>hs i σ H hi hp _ fun _ _ h=>h) hd
theorem jP {g:TG}{tb:TS}{D:Ends} (Pv:Nat->St->Hp->Prop) (h0:Pv 0 σ H) (hl:∀ i σ H,i<=xs.length->Pv i σ H->SqL K H a xs)
  (hs:∀ i x σ H,xs[i]?=some x->Pv i σ H->∀ N:St->Hp->Prop,(∀ σ' H',Pv (i+1) σ' H'->N σ' H')->g x σ H fun σ2 H2=>tb { D with nx:=N,ct:=N,bk:=D.nx } σ2 H2) (hd:∀ σ H,Pv xs.length σ H->D.nx σ H):jL g tb D (Itl K a) σ H :=
 rp Pv h0 hl (fun i x σ H hi hp=>hs i x σ H hi hp _ fun _ _ h=>h) hd
end
section
theorem nK (c:Nat):∀ (ls:List (List Nat)),(tx [c]).join (ls.map tx)=tx (Mk.b7 c ls)
 | []=>rfl
 | [w]=>by rfl
 | w::v::ws=>by
  have ih:=nK c (v::ws)
  show tx w++tx [c]++(tx [c]).join ((v::ws).map tx)=tx (w++c::Mk.b7 c (v::ws))
  rw[ih,cy,cy,gU]
  rfl
theorem Jx (ls:List Str):(ls.map fun z=>z.cps.toList).map tx=ls:=by
 rw[aK]
 conv=>rhs;rw[←List.map_id ls]
 exact iS fun z _=>iq z
theorem xT (l:List Nat) (c:Nat):Txt.split (tx l) (tx [c])=(Mk.aZ c l).map tx:=by
 have h1:=StrLaws.join_split (tx l) (tx [c])
 have h2:∀ p∈Txt.split (tx l) (tx [c]),c∉p.cps.toList:=fun p hp=>StrLaws.split_free (tx l) c p hp
 have h3:=PyProof.Rows.split_pos (tx l) (tx [c])
 generalize Txt.split (tx l) (tx [c])=ps at h1 h2 h3
 rw[←Jx ps] at h1 ⊢
 rw[nK] at h1
 rw[←dG h1,Mk.cT]
 ·intro e
  have:=aG List.length e
  simp at this
  rw[this] at h3
  simp at h3
 ·intro w hw
  obtain⟨p,hp,rfl⟩:=aM.mp hw
  exact h2 p hp
theorem jZ (c:Nat) (ls:List (List Nat)):Txt.join (tx [c]) (ls.map tx)=tx (Mk.b7 c ls):=by
 have go:∀ (r:List (List Nat)) (acc:List Nat),(r.map tx).foldl (fun acc p=>acc++(tx [c]).cps++p.cps) acc.toArray=(acc++(r.map fun w=>c::w).flatten).toArray:=by
  intro r
  induction r with
  | nil=>intro acc;simp
  | cons a r ih =>
   intro acc
   rw[aQ,List.foldl_cons]
   have e:acc.toArray++(tx [c]).cps++(tx a).cps=(acc++c::a).toArray:=by simp [tx]
   rw[e,ih]
   simp
 have jl:∀ (a:List Nat) (r:List (List Nat)),Mk.b7 c (a::r)=a++(r.map fun w=>c::w).flatten:=by
  intro a r
  induction r generalizing a with
  | nil=>simp [Mk.b7]
  | cons b r ih =>
   show a++c::Mk.b7 c (b::r)=_
   rw[ih b]
   simp
 unfold Txt.join Builtin.Str.glued
 cases ls with
 | nil=>rfl
 | cons a r =>
  have:=go r a
  show Str.mk ((r.map tx).foldl (fun acc p=>acc++(tx [c]).cps++p.cps) a.toArray)=tx (Mk.b7 c (a::r))
  rw[this,jl]
  rfl
def E9:V->List V->Hp->VK->Prop:=fun x vs H Q=>match x,vs with
 | .str z,[.str y]=>z.length<=100000/\∃ c,y=tx [c]/\nw H (.lst ((Mk.aZ c z.cps.toList).map fun w=>.str (tx w))) Q
 | _,_=>False
theorem qj:∀ (l:List (Str×Tok)),Vals ((l.map fun p=>p.1).map V.str) (strValues l)
 | []=>.nil
 | p::l=>.cons ⟨p.2,rfl⟩ (qj l)
theorem zB {prog:Program}{w:World}{A:Around}{E:Value->Shared->Prop}{s:Shared}{x y:Str}{t u:Tok}{Q:Value->Shared->Prop} (hy:(y.length==0)=false) (hsz:x.length+2<=sizeLine)
  (h:∀ (l:List (Str×Tok)) (k:Nat),l.map (fun p=>p.1)=Txt.split x y->Q (.ref s.heap.objs.size) { s with heap:=s.heap.push { cls:=.type "list",data:=.seq (strValues l).toArray },toks:=k }) :
  wpAny (model prog w) A (call (.builtin "str.split") [.str x t,.str y u]) Q E s:=by
 have ex:Txt.split x y=if (decide (x.length<y.length)||decide (Builtin.Str.strKind x<Builtin.Str.strKind y))=true then [x] else if (Builtin.Str.occurrences x y 0 x.length (x.length+1)).isEmpty=true then [x] else Builtin.Str.partsBetween x (Builtin.Str.occurrences x y 0 x.length (x.length+1)) y.length:=rfl
 cases h1:(decide (x.length<y.length)||decide (Builtin.Str.strKind x<Builtin.Str.strKind y)) with
 | true =>
  rw[h1,ao rfl] at ex
  refine gx ka (fc s x t) mS (F.args_str_split_2 (Value.str x t) (Value.str y u)) (meets_str_split_cannot_occur x y t u h1) ?_
  exact h [(x,_)] _ ex.symm
 | false =>
  rw[h1,ai (by decide)] at ex
  cases hf:(Builtin.Str.occurrences x y 0 x.length (x.length+1)).isEmpty with
  | true =>
   rw[hf,ao rfl] at ex
   refine gx ka (fc s x t) mS (F.args_str_split_2 (Value.str x t) (Value.str y u)) (meets_str_split_not_found x y t u h1 hy hf) ?_
   exact h [(x,_)] _ ex.symm
  | false =>
   rw[hf,ai (by decide)] at ex
   have hl:=PyProof.Rows.split_le x y
   rw[ex] at hl
   refine gx ka (fc s x t) mS (F.args_str_split_2 (Value.str x t) (Value.str y u)) (meets_str_split_sep x y t u h1 hy hf (by omega) (by omega)) ?_
   show Q _ _
   rw[strsFrom_eq]
   exact h _ _ ((numbered_texts _ _).trans ex.symm)
theorem lD :MtM X "str.split" E9:=by
 intro pins s σ H x vs v us Q I rx rv h
 match x,vs,h with
 | .str z,[.str y],h =>
  obtain⟨hz,c,rfl,q⟩:=h
  obtain⟨t,rfl⟩:=rx
  obtain⟨u,rfl,ru⟩:=rv.one
  obtain⟨t2,rfl⟩:=ru
  have hb:z.length+2<=sizeLine:=by rw[eL];omega
  refine zB rfl hb fun l k e=>?_
  have e2:l.map (fun p=>p.1)=(Mk.aZ c z.cps.toList).map tx:=by rw[e,←xT,iq]
  have hl:(strValues l).length<=z.length+2:=by
   have:=PyProof.Rows.split_le z (tx [c])
   rw[←e,aj] at this
   rw[show (strValues l).length=l.length from aj ..]
   exact this
  have r:=qj l
  rw[e2,aK] at r
  refine⟨.ref s.heap.objs.size,_,I.laid (t':=k) (o:=.lst ((Mk.aZ c z.cps.toList).map fun w=>.str (tx w))) (fun b ob q=>aW _ q) (aA _) ?_,rfl,q.go _ (I.hok.fresh (aA _))⟩
  refine⟨?_,_,0,r,bL _ rfl⟩
  have:=r.length
  rw[show ((Mk.aZ c z.cps.toList).map fun w=>V.str (tx w))=(Mk.aZ c z.cps.toList).map (V.str ∘ tx) from rfl,this]
  omega
def Hj:R2:=fun x y H Q=>match x,y with
 | .int i,.int j=>(i.natAbs<2^60∨j.natAbs<2^60)/\Q (.int (i*j)) H
 | _,_=>False
theorem rB :OpR X (binaryOp .Mult) Hj:=by
 intro pins s σ H x y v u Q I rx ry h
 cases x with
 | int i=>cases y with
  | int j =>
   refine (opI (X:=X) (f:=binaryOp .Mult) (C:=fun i j=>i.natAbs<2^60∨j.natAbs<2^60) (g:=fun i j=>i*j) fun i j _ _ _ _ _ hc q=>mul_int q ?_) pins s σ H _ _ v u Q I rx ry ⟨_,_,rfl,rfl,h.1,h.2⟩
   rcases hc with hc | hc
   ·exact IntMulOk.of_left (bJ (intBits_le_iff.mpr hc) (by decide))
   ·exact IntMulOk.of_right (bJ (intBits_le_iff.mpr hc) (by decide))
  | _=>exact False.elim h
 | _=>exact False.elim h
end
section
theorem yu {i j}{H:Hp}{Q:VK}:xD (.int i) (.int j) H Q=(Q (.int (i+j)) H):=propext Iff.rfl
theorem yv {a b}{H:Hp}{Q:VK}:xD (.str a) (.str b) H Q=(a.length+b.length<=sizeLine/\Q (.str (a++b)) H):=propext Iff.rfl
theorem yw {l b}{H:Hp}{Q:VK}:xD (.ref l) (.ref b) H Q=(∃ xs zs,H l=some (.lst xs)/\H b=some (.lst zs)/\xs.length+zs.length<=sizeLine/\nw H (.lst (xs++zs)) Q):=propext Iff.rfl
theorem yK {i j}{H:Hp}{Q:VK}:Hq (.int i) (.int j) H Q=(Q (.int (i-j)) H):=propext Iff.rfl
theorem yG {i j}{H:Hp}{Q:VK}:Hl (.int i) (.int j) H Q=(EX i j/\Q (.int (i*j)) H):=propext Iff.rfl
theorem wJ {i j}{H:Hp}{Q:VK}:Ey (.int i) (.int j) H Q=((0<j/\j<2^1000)/\Q (.int (i/j)) H):=propext Iff.rfl
theorem yE {i j}{H:Hp}{Q:VK}:Hi (.int i) (.int j) H Q=(0<j/\Q (.int (i%j)) H):=propext Iff.rfl
theorem yH {i j}{H:Hp}{Q:VK}:Hn (.int i) (.int j) H Q=((0<=j/\j<=1000000/\i.natAbs<2^64)/\Q (.int (i^j.toNat)) H):=propext Iff.rfl
theorem yx {f:Int->Int->Bool}{i j}{H:Hp}{Q:VK}:uI f (.int i) (.int j) H Q=(Q (.bl (f i j)) H):=propext Iff.rfl
theorem Bu {K:PySem.W.Frag}{i j}{H:Hp}{Q:VK}:Jn K (.int i) (.int j) H Q=(Q (.bl (decide (j<=i))) H):=propext Iff.rfl
theorem Br {K:PySem.W.Frag}{i j}{H:Hp}{Q:VK}:qU K (.int i) (.int j) H Q=(Q (.bl (decide (i=j))) H):=propext Iff.rfl
theorem Bs {K:PySem.W.Frag}{i j}{H:Hp}{Q:VK}:qU K (.str i) (.str j) H Q=(Q (.bl (decide (i=j))) H):=propext Iff.rfl
theorem Bt {K:PySem.W.Frag}{a b}{H:Hp}{Q:VK}:qU K (.ref a) (.ref b) H Q=(∃ xs ys,SqL K H a xs/\SqL K H b ys/\xs.all dX=true/\ys.all dX=true/\Q (.bl (pN xs ys)) H):=propext Iff.rfl
theorem Bx {K:PySem.W.Frag}{i j}{H:Hp}{Q:VK}:Cj K (.int i) (.int j) H Q=(Q (.bl (!decide (i=j))) H):=propext Iff.rfl
theorem By {K:PySem.W.Frag}{i j}{H:Hp}{Q:VK}:Cj K (.str i) (.str j) H Q=(Q (.bl (!decide (i=j))) H):=propext Iff.rfl
theorem Bz {K:PySem.W.Frag}{a b}{H:Hp}{Q:VK}:Cj K (.ref a) (.ref b) H Q=(∃ xs ys,SqL K H a xs/\SqL K H b ys/\xs.all dX=true/\ys.all dX=true/\Q (.bl (!pN xs ys)) H):=propext Iff.rfl
theorem Bv {K:PySem.W.Frag}{p i}{H:Hp}{Q:VK}:GJ K (.ref p) (.int i) H Q=(∃ xs v,Sq K H p xs/\atI xs i=some v/\Q v H):=propext Iff.rfl
theorem Bw {K:PySem.W.Frag}{z i}{H:Hp}{Q:VK}:GJ K (.str z) (.int i) H Q=(z.length<=sizeLine/\∃ c,atI z.cps.toList i=some c/\Q (.str ⟨#[c]⟩) H):=propext Iff.rfl
theorem yC {K:PySem.W.Frag}{z}{H:Hp}{Q:VK}:AI K [.str z] H Q=(z.length<=sizeLine/\Q (.int z.length) H):=propext Iff.rfl
theorem yD {K:PySem.W.Frag}{p}{H:Hp}{Q:VK}:AI K [.ref p] H Q=(∃ xs,Sq K H p xs/\Q (.int xs.length) H):=propext Iff.rfl
theorem yt {i}{H:Hp}{Q:VK}:Hf [.int i] H Q=(Q (.int (i.natAbs:Int)) H):=propext Iff.rfl
theorem wL {K:PySem.W.Frag}{a}{H:Hp}{Q:VK}:zm K [.ref a] H Q=(∃ ys,(Sq K H a ys∨∃ lo hi,H a=some (.rng lo hi)/\(-(2^62)<=lo/\lo<2^62/\-(2^62)<=hi/\hi<2^62)/\(hi-lo).toNat<=2^20/\ys=vO lo (hi-lo).toNat)/\nw H (.lst ys) Q):=propext Iff.rfl
theorem yA {c:Tg}{x n}{H:Hp}{Q:VK}:Hh c [x,.ty n] H Q=(n=c.name/\∃ t,eI H x=some t/\Q (.bl (t.sub c)) H):=propext Iff.rfl
theorem B0 {K:PySem.W.Frag}{a}{lo}{hi}{H:Hp}{Q:VK}:GK K (.ref a) lo hi H Q=(∃ xs,SqL K H a xs/\nw H (.lst (kZ xs lo hi)) Q):=propext Iff.rfl
theorem B6 {K:PySem.W.Frag}{z}{lo}{hi}{H:Hp}{Q:VK}:GK K (.str z) lo hi H Q=(z.length<=sizeLine/\Q (.str (tx (jN z.cps.toList lo hi))) H):=propext Iff.rfl
theorem vd {l i y}{H:Hp}{Q:VK}:AH (.ref l) [.int i,y] H Q=(∃ xs,H l=some (.lst xs)/\0<=i/\i<2^62/\xs.length<sizeLine/\Q .non (upd H l (.lst (xs.take i.toNat++y::xs.drop i.toNat)))):=propext Iff.rfl
theorem va {z y}{H:Hp}{Q:VK}:AG (.str z) [.str y] H Q=(0<=Txt.find z y/\Q (.int (Txt.find z y)) H):=propext Iff.rfl
theorem wK {K:PySem.W.Frag}{z p}{H:Hp}{Q:VK}:zl K (.str z) [.ref p] H Q=(∃ ys:List Str,SqL K H p (ys.map V.str)/\(ys.map (·.length)).sum+ys.length*z.length<=16777216/\Q (.str (Txt.join z ys)) H):=propext Iff.rfl
theorem wM {z y}{H:Hp}{Q:VK}:E9 (.str z) [.str y] H Q=(z.length<=100000/\∃ c,y=tx [c]/\nw H (.lst ((Mk.aZ c z.cps.toList).map fun w=>.str (tx w))) Q):=propext Iff.rfl
theorem yF {i j}{H:Hp}{Q:VK}:Hj (.int i) (.int j) H Q=((i.natAbs<2^60∨j.natAbs<2^60)/\Q (.int (i*j)) H):=propext Iff.rfl
theorem yI {P:Program}{w:World}{z}{H:Hp}{Q:VK}:E6 P w [.str z] H Q=(z.length<=4000/\∀ p H',H p=none->aD H H'->H' p=some (zy P w p (dF (jJ z) z.length))->Q (.ref p) H'):=propext Iff.rfl
theorem yB {P:Program}{w:World}{p}{H:Hp}{Q:VK}:E4 P w [.ref p] H Q=(∃ l,H p=some (zy P w p l)/\Q (.int l.length) H):=propext Iff.rfl
theorem yq {K:PySem.W.Frag}{a:Addr}{H:Hp}{R:It->Hp->Prop}:Ak K (.ref a) H R=(((∃ xs,SqL K H a xs)/\R (Itl K a) H)∨((∃ xs,SqT K H a xs)/\R (Itt K a) H)):=propext Iff.rfl
theorem yr {K:PySem.W.Frag}{z:Str}{H:Hp}{R:It->Hp->Prop}:Ak K (.str z) H R=R (Itx z) H:=propext Iff.rfl
end
section
def Ite (K:PySem.W.Frag) (a:Addr):It :=
 ⟨fun i H=>∃ xs x,SqL K H a xs/\xs[i]?=some x,
  fun i H v H'=>∃ x p,(∀ xs,SqL K H a xs->xs[i]?=some x)/\v=.ref p/\H p=none/\H'=upd H p (.tup [.int (i:Int),x]),
  fun i H=>∃ xs,SqL K H a xs/\xs.length<=i⟩
theorem wI {a e it:Addr} (st:(∃ old,IsEnum h e it (i:Int) old)/\h.IsListIter it a i):∀ c∈[e,it],∃ o,h.get? c=some o/\∀ v,o.data≠.cell v:=fun c hc=>by
 obtain⟨⟨old,he⟩,⟨o1,e1,c1,d1⟩⟩:=st
 simp only[aH,dh,dm] at hc
 rcases hc with rfl | rfl
 ·exact⟨_,he,fun v q=>by have q':Data.fields _=Data.cell v:=q;cases q'⟩
 ·exact⟨o1,e1,fun v q=>by rw[d1] at q;cases q⟩
theorem Ct {k:Nat} (a e it:Addr) (D:e≠it):Turn P w K (.Tuple elts k pos) (Ite K a) [e,it] e
  (fun i h=>(∃ old,IsEnum h e it (i:Int) old)/\h.IsListIter it a i) where
 mem:=by simp
 obj:=fun i h st=>wI st
 keep:=fun i h h' st k=>by
  obtain⟨⟨old,he⟩,h1⟩:=st
  exact⟨⟨old,k e (by simp) _ he⟩,h1.at fun o e=>k it (by simp) o e⟩
 item:=by
  intro X hP hw hK hc i pins s σ H E I hf st hg
  subst hP hw hK
  obtain⟨xs,x,hx,ex⟩:=hg
  obtain⟨us,r1,p1,_⟩:=I.list hx
  obtain⟨u,hu,ru⟩:=r1.get ex
  obtain⟨⟨old,he⟩,h1⟩:=id st
  refine wpAny_pyNext_enum_item he h1 p1.isList (x:=u) (by simpa using hu) D fun h' a1 a2 a3 a4 a5=>?_
  refine⟨_,rfl,wpAny_letOwnedTupleGo_enum (s:={ s with heap:=h',toks:=s.toks+1 }) a1 fun h'' b1 b2=>?_⟩
  have b2':Heap.SameBut e h' h'':=b2
  have ne:∀ c∈[e,it],c<s.heap.objs.size:=fun c hc=>by
   obtain⟨o,e,_⟩:=wI st c hc
   exact aT e
  have kk:∀ c o,c∉[e,it]->s.heap.get? c=some o->h''.get? c=some o:=fun c o hc e=>by
   simp only[aH,dh,dm,not_or] at hc
   exact (b2'.2 c hc.1).trans (a5 c o hc.1 hc.2 e)
  have hT:h''.get? s.heap.objs.size=some { cls:=.type "tuple",data:=.seq #[.int (i:Int) s.toks,u] }:=(b2'.2 _ (Nat.ne_of_gt (ne e (by simp)))).trans a3
  have I1:Inv X pins σ (upd H s.heap.objs.size (.tup [.int (i:Int),x])) { s with heap:=h'',toks:=s.toks+1 }:=by
   refine I.AQ (t':=s.toks+1) (ch:=[e,it]) hf kk (fun c o ee=>?_) (aA _) (show c8 X.prog X.w _ h'' _ (.tup [.int (i:Int),x]) from ⟨by show 2<=sizeLine;decide,[.int (i:Int) s.toks,u],.cons ⟨_,rfl⟩ (.cons ru .nil),⟨_,hT,rfl,_,rfl⟩⟩)
   by_cases hc:c∈[e,it]
   ·simp only[aH,dh,dm] at hc
    rcases hc with rfl | rfl
    ·exact⟨_,b1⟩
    ·obtain⟨o1,e1,_⟩:=a2;exact⟨_,(b2'.2 _ (Ne.symm D)).trans e1⟩
   ·exact⟨_,kk c o hc ee⟩
  refine⟨.ref s.heap.objs.size,_,I1,rfl,⟨x,_,fun zs hz=>by rw[I.oi hz hx];exact ex,rfl,I.hok.fresh (aA _),rfl⟩,⟨⟨_,by have:=b1;rw[show ((i+1:Nat):Int)=(i:Int)+1 from rfl];exact this⟩,a2.at fun o e=>(b2'.2 _ (Ne.symm D)).trans e⟩,fun c hc=>?_⟩
  rw[aP (bE (ne c hc))];exact (hf c hc).1
 done:=by
  intro X hP hw hK hc i pins s σ H E I hf st hg
  subst hP hw hK
  obtain⟨xs,hx,hl⟩:=hg
  obtain⟨us,r1,p1,_⟩:=I.list hx
  obtain⟨⟨old,he⟩,h1⟩:=id st
  have l1:=r1.length
  refine wpAny_pyNext_enum_end (I.ok.hd hc) he h1 p1.isList (by simp;omega) fun h' kk=>⟨rfl,I.HF (t':=s.toks) (ch:=[e,it]) hf fun c o hc e=>?_⟩
  simp only[aH,dh,dm,not_or] at hc
  exact kk c o hc.2 e
 self:=fun _ _ _ _ _ st h=>by
  obtain⟨⟨old,he⟩,_⟩:=st
  exact wpAny_pyIter_enum he h
section
variable {X:Cx}
def DD (K:PySem.W.Frag) (ta:TA):TI:=fun σ H R=>ta σ H fun vs H1=>∃ a,vs=[.ref a]/\(∃ xs,SqL K H1 a xs)/\R (Ite K a) H1
theorem CM {K:PySem.W.Frag}{ta:TA}{σ:St}{H:Hp}{R:It->Hp->Prop}:DD K ta σ H R=ta σ H fun vs H1=>∃ a,vs=[.ref a]/\(∃ xs,SqL K H1 a xs)/\R (Ite K a) H1:=propext Iff.rfl
theorem GC {elts:List Expr}{k:Nat}{tpos:Pos}{a:Expr}{p pos:Pos} (hg:Gl X "enumerate") (hm:X.mg "enumerate"=none) (ha:PA X [a] ta) (hs:starEach [a] X.env=[(false,eval a X.env)]:=by rfl) :
  PI X (.Tuple elts k tpos) (.Call (.Name "enumerate" p) [a] [] pos) (DD X.K ta):=by
 intro pins s σ H R I h
 refine Call_ (nj I hg hm uT (m6 (thn (ha pos pins s σ H _ I h) fun us s1 ⟨vs,H1,I1,r1,q1⟩=>?_) hs (by rfl)))
 obtain⟨l1,e,⟨xs,hx⟩,q⟩:=q1
 subst e
 cases r1 with
 | cons r rr =>
  cases rr
  cases r
  obtain⟨us,_,p1,_⟩:=I1.list hx
  refine call_enumerate_list p1.isList fun h' he hi hsz hk=>wpAny_pyIter_enum (s:={ s1 with heap:=h' }) he ?_
  have I2:Inv X pins σ H1 { s1 with heap:=h' }:=I1.kept (t':=s1.toks) hk
  refine⟨_,[s1.heap.objs.size+1,s1.heap.objs.size],_,_,H1,rfl,I2,Ct l1 (s1.heap.objs.size+1) s1.heap.objs.size (Nat.succ_ne_self _),⟨⟨_,he⟩,hi⟩,fun c hc=>?_,q⟩
  have hle:s1.heap.objs.size<=c:=by
   simp only[aH,dh,dm] at hc
   rcases hc with rfl | rfl<;>omega
  exact I1.wQ hle (I1.hok.fresh hle)
theorem Ew {elts:List Expr}{k:Nat}{tpos:Pos}{a:Expr}{p pos:Pos} (hK:X.K=K) (hm:X.mg "enumerate"=none) (ha:PA X [a] ta) (hg:X.env.kindOf "enumerate"=some .globalImplicit:=by kernel_rfl) (hs:noStar a=true:=by kernel_rfl) :
  PI X (.Tuple elts k tpos) (.Call (.Name "enumerate" p) [a] [] pos) (DD K ta):=hK ▸ GC hg hm ha (aU hs)
end
theorem BD {g:TG}{tb:TS}{D:Ends} (Pv:Nat->St->Hp->Prop) (h0:Pv 0 σ H) (hl:∀ i σ H,i<=xs.length->Pv i σ H->SqL K H a xs)
  (hs:∀ i x σ H,xs[i]?=some x->Pv i σ H->∀ N:St->Hp->Prop,(∀ σ' H',Pv (i+1) σ' H'->N σ' H')->∀ p H',H p=none->aD H H'->H' p=some (.tup [.int (i:Int),x])->g (.ref p) σ H' fun σ2 H2=>tb { D with nx:=N,ct:=N,bk:=D.nx } σ2 H2) (hd:∀ σ H,Pv xs.length σ H->D.nx σ H):jL g tb D (Ite K a) σ H:=by
 refine⟨fun i m σ H=>i+m=xs.length/\Pv i σ H,⟨xs.length,by omega,h0⟩,fun i m σ H hw=>?_⟩
 obtain⟨e,hp⟩:=hw
 have hL:=hl i σ H (by omega) hp
 by_cases hm:m=0
 ·subst hm
  have:i=xs.length:=by omega
  subst this
  exact .inl ⟨⟨xs,hL,aA _⟩,hd σ H hp⟩
 ·have hi:xs[i]?=some xs[i]:=bu (by omega)
  refine .inr ⟨⟨xs,_,hL,hi⟩,Pv (i+1),fun σ' H' n=>⟨m-1,by omega,by omega,n⟩,fun v H' hy=>?_⟩
  obtain⟨x,p,h1,rfl,h2,rfl⟩:=hy
  have hx:=h1 xs hL
  exact hs i x σ H hx hp _ (fun _ _ h=>h) p _ h2 (dY h2) aS
section
variable {X:Cx}{tg:Expr}
end
section
variable {X:Cx}
theorem Fh {td ty:TE}{σ:St}{H:Hp}{Q:VK}:EJ td ty σ H Q=td σ H fun x H1=>ty σ H1 fun y H2=>∃ a v,x=.ref a/\lj H2 a y (some v)/\Q v H2:=propext Iff.rfl
theorem CI {td ty:TE}{σ:St}{H:Hp}{Q:VK}:zD td ty σ H Q=td σ H fun x H1=>∃ a,x=.ref a/\IsD H1 a/\ty σ H1 fun y H2=>∃ o,lj H2 a y o/\Q (o.getD .non) H2:=propext Iff.rfl
theorem Em {o i:Expr}{td ty:TE} (hu:X.A.units+1<cLine) (ho:PE X o td) (hi:PE X i ty) (hs:HI i:=by exact fun _ _=>rfl):PE X (.Subscript o i pos) (EJ td ty):=Gw hu ho hi hs
theorem uH {o e:Expr}{td ty:TE}{apos cpos:Pos} (hu:X.A.units+1<cLine) (ho:PE X o td) (he:PE X e ty) (hbase:attributeBase o "get" X.env (eval o X.env)=eval o X.env:=by kernel_rfl) (hs:dS [e]=true:=by kernel_rfl)
  (hline:(apos.endLine==cpos.line)=true:=by kernel_rfl) (htr:backTo cpos (starEach [e] X.env)=[(false,eval e X.env)]:=by rfl):PE X (.Call (.Attribute o "get" apos) [e] [] cpos) (zD td ty):=by
 refine El hu ho he ⟨hbase,?_,hline,htr⟩
 rw[kx hs]
 rfl
end
end
section
def Ha:V->Bool
 | .ref _=>true
 | x=>dX x
theorem nV:∀ {x:V},dX x=true->eqV x x=true
 | .non,_=>rfl
 | .bl b,_=>by show (b==b)=true;simp
 | .int i,_=>by show (i==i)=true;simp
 | .str z,_=>by show (z==z)=true;simp
theorem Bq {x:V}{u v:Value} (ru:RelV x u) (rv:RelV x v) (h:Ha x=true):SeqAt.EqAt A s u v true:=by
 cases x with
 | ref a=>cases ru;cases rv;exact SeqAt.EqAt.same _
 | non=>have:=ng (A:=A) (s:=s) ru rv rfl rfl;rwa [nV rfl] at this
 | bl b=>have:=ng (A:=A) (s:=s) ru rv rfl rfl;rwa [nV rfl] at this
 | int b=>have:=ng (A:=A) (s:=s) ru rv rfl rfl;rwa [nV rfl] at this
 | str b=>have:=ng (A:=A) (s:=s) ru rv rfl rfl;rwa [nV rfl] at this
 | _=>cases h
theorem jQ {us:List Value} (r:Vals xs us) {j:Nat} (h:j<us.toArray.size):∃ x,xs[j]?=some x/\RelV x us.toArray[j]:=by
 have l:=r.length
 rw[bz] at h
 have e1:xs[j]?=some (xs[j]'(by omega)):=bu _
 obtain⟨u,hu,ru⟩:=r.get e1
 refine⟨_,e1,?_⟩
 have:us.toArray[j]=u:=by
  have:=b9.mp hu
  simpa using this.2
 rw[this];exact ru
section
variable {X:Cx}
end
theorem Ap {js:List Nat}{te:TE}{Q:VK} (hc:∀ σ H R,R true H->tc σ H R) (hJ:J.Seq H1 xs) (hl:xs.length<sizeLine) (G:HO->Prop) (hG:∀ ys,¬ G (.lst ys))
  (he:∀ x∈xs,∀ H,aD H1 H->∀ R:VK,(∀ p o H',aD H H'->H' p=some o->G o->R (.ref p) H')->te (some x::js.map fun j=>(σ[j]?).join) H R)
  (q:∀ D vs H,H1 D=none->aD H1 H->H D=some (.lst vs)->vs.length=xs.length->(∀ v∈vs,∃ p o,v=.ref p/\H p=some o/\G o)->Q (.ref D) H):fD (fT 0) tc te (i9 1 js σ) J H1 Q:=by
 intro D hD
 refine⟨fun i m ys σ1 H=>m=xs.length-i/\i<=xs.length/\(∃ o,σ1=o::js.map fun j=>(σ[j]?).join)/\ys.length=i/\(∀ v∈ys,∃ p o,v=.ref p/\H p=some o/\G o)/\aD H1 H/\H D=some (.lst ys),
  ⟨xs.length,by simp,bN _,⟨none,rfl⟩,rfl,(fun v hv=>nomatch hv),(aD.refl H1).fi hD,aS⟩,?_⟩
 rintro i m ys σ1 H ⟨rfl,hi,⟨o,rfl⟩,hy,hg,sH,hL⟩
 refine⟨hL,by omega,?_⟩
 by_cases hlt:i<xs.length
 ·have e:xs[i]?=some xs[i]:=bu hlt
  obtain⟨go,yl⟩:=(hJ H sH).1 i xs[i] e
  refine .inr ⟨go,fun x H' y=>?_⟩
  obtain⟨e1,e2⟩:=yl x H' y
  subst e1 e2
  have hm:xs[i]∈xs:=iR hlt
  show tc (some xs[i]::js.map fun j=>(σ[j]?).join) H' _
  refine hc _ _ _ ?_
  rw[ao rfl]
  refine he xs[i] hm H' sH _ fun p o' H4 s4 hp hgo=>?_
  have hL4:=s4 _ _ hL
  have nD:∀ {b:Addr}{u:HO},H4 b=some u->G u->b≠D:=fun hb hu ee=>by
   subst ee;rw[hL4] at hb;cases hb;exact hG _ hu
  refine⟨hL4,xs.length-(i+1),by omega,rfl,hlt,⟨_,rfl⟩,by rw[ah,hy];rfl,fun v hv=>?_,((sH.trans s4)).fi hD,aS⟩
  rcases bw.mp hv with hv | hv
  ·obtain⟨b,u,rfl,hb,hu⟩:=hg v hv
   have hb4:=s4 _ _ hb
   exact⟨b,u,rfl,by rw[aP (nD hb4 hu)];exact hb4,hu⟩
  ·rw[bt.mp hv]
   exact⟨p,o',rfl,by rw[aP (nD hp hgo)];exact hp,hgo⟩
 ·have e:i=xs.length:=by omega
  subst e
  exact .inl ⟨(hJ H sH).2 _ (aA _),q D ys H hD sH hL hy hg⟩
end
end L2

namespace L2
variable {w:Int}
section
variable {α:Type} [DecidableEq α]
abbrev Nk (α:Type):=α×Bool
structure Ent (α:Type) where
 key:Nk α
 d:Int
 par:Option (Nk α)
 t:Nat
def zj (fs:List (Ent α)) (e:Ent α):List (Ent α):=if fs.any (fun x=>x.key==e.key) then fs.map (fun x=>if x.key==e.key then e else x) else fs++[e]
theorem gR {fs:List (Ent α)}{e x:Ent α}:x∈zj fs e↔x=e∨(x∈fs/\x.key≠e.key):=by
 unfold zj
 split
 ·rename_i h
  obtain⟨y,hy,hk⟩:=List.any_eq_true.mp h
  rw[aM]
  constructor
  ·rintro⟨z,hz,rfl⟩
   split
   ·exact .inl rfl
   ·rename_i hn
    exact .inr ⟨hz,fun q=>hn (by simp [q])⟩
  ·rintro (rfl | ⟨hx,hn⟩)
   ·exact⟨y,hy,by rw[ao hk]⟩
   ·exact⟨x,hx,by rw[ai (by simpa using hn)]⟩
 ·rename_i h
  have h':∀ y∈fs,y.key≠e.key:=fun y hy q=>h (List.any_eq_true.mpr ⟨y,hy,by simp [q]⟩)
  rw[bw,bt]
  constructor
  ·rintro (hx | rfl)
   ·exact .inr ⟨hx,h' x hx⟩
   ·exact .inl rfl
  ·rintro (rfl | ⟨hx,_⟩)
   ·exact .inr rfl
   ·exact .inl hx
theorem BO (fs:List (Ent α)) (e:Ent α):(zj fs e).map Ent.key=fs.map Ent.key∨((zj fs e).map Ent.key=fs.map Ent.key++[e.key]/\e.key∉fs.map Ent.key):=by
 unfold zj
 split
 ·left
  rw[aK]
  apply iS
  intro x _
  show (if x.key==e.key then e else x).key=x.key
  split
  ·rename_i h;exact (eq_of_beq h).symm
  ·rfl
 ·rename_i h
  right
  refine⟨by simp,fun q=>?_⟩
  obtain⟨y,hy,hk⟩:=aM.mp q
  exact h (List.any_eq_true.mpr ⟨y,hy,by simp [hk]⟩)
theorem yX {fs:List (Ent α)}{e:Ent α} (h:(fs.map Ent.key).Nodup):((zj fs e).map Ent.key).Nodup:=by
 rcases BO fs e with q | ⟨q,n⟩
 ·rw[q];exact h
 ·rw[q,List.nodup_append]
  exact⟨h,by simp,fun a ha b hb=>by rw[bt.mp hb];exact fun z=>n (z ▸ ha)⟩
structure Dij (St:Nk α->List (Nk α×Int)) (C:Nk α->Nk α×Int->Prop) (u0:Nk α) (fs ss:List (Ent α)):Prop where
 nf:(fs.map Ent.key).Nodup
 sub:∀ e∈ss,e∈fs
 ns:(ss.map Ent.key).Nodup
 st:∃ e∈fs,e.key=u0/\e.d=0
 nn:∀ e∈fs,0<=e.d
 cl:∀ e∈ss,∀ p,C e.key p->∃ e'∈fs,e'.key=p.1/\e'.d<=e.d+p.2
 pa:∀ e∈fs,(e.par=none/\e.key=u0/\e.d=0)∨∃ u∈ss,∃ c,e.par=some u.key/\(e.key,c)∈St u.key/\e.d=u.d+c
 od:∀ e∈ss,∀ e'∈fs,e'∉ss->e.d<=e'.d
 rk:∀ pre e post,ss=pre++e::post->(e.par=none/\e.key=u0/\e.d=0)∨∃ u∈pre,∃ c,e.par=some u.key/\(e.key,c)∈St u.key/\e.d=u.d+c
theorem Ge {fs:List (Ent α)} (h:(fs.map Ent.key).Nodup) {x y:Ent α} (hx:x∈fs) (hy:y∈fs) (e:x.key=y.key):x=y:=by
 induction fs with
 | nil=>cases hx
 | cons z r ih =>
  rw[aQ,gu] at h
  rcases aH.mp hx with rfl | hx
  ·rcases aH.mp hy with rfl | hy
   ·rfl
   ·exact absurd (aM.mpr ⟨y,hy,e.symm⟩) h.1
  ·rcases aH.mp hy with q | hy
   ·exact absurd (aM.mpr ⟨x,hx,by rw[←q];exact e⟩) h.1
   ·exact ih h.2 hx hy
theorem Dij.start (St:Nk α->List (Nk α×Int)) (C:Nk α->Nk α×Int->Prop) (u0:Nk α) (t:Nat):Dij St C u0 [⟨u0,0,none,t⟩] [] where
 nf:=by simp
 sub:=fun e h=>by cases h
 ns:=by simp
 st:=⟨⟨u0,0,none,t⟩,by simp,rfl,rfl⟩
 nn:=fun e h=>by rw[bt.mp h];exact Int.le_refl 0
 cl:=fun e h=>by cases h
 pa:=fun e h=>by rw[bt.mp h];exact .inl ⟨rfl,rfl,rfl⟩
 od:=fun e h=>by cases h
 rk:=fun pre e post h=>by
  have:=aG List.length h
  simp at this
theorem Dij.put {St:Nk α->List (Nk α×Int)}{C:Nk α->Nk α×Int->Prop}{u0:Nk α}{fs ss:List (Ent α)} (D:Dij St C u0 fs ss) {e:Ent α} (he:e∈ss) (hm:∀ x∈ss,x.d<=e.d) {q:Nk α×Int} (hq:q∈St e.key) (hc:0<=q.2)
  (hl:∀ x∈fs,x.key=q.1->e.d+q.2<x.d) (t:Nat):Dij St (fun k p=>C k p∨(k=e.key/\p=q)) u0 (zj fs ⟨q.1,e.d+q.2,some e.key,t⟩) ss:=by
 have hns:∀ x∈ss,x.key≠q.1:=fun x hx hk=>by
  have h1:=hl x (D.sub x hx) hk
  have h2:=hm x hx
  omega
 have h0:=D.nn e (D.sub e he)
 refine⟨yX D.nf,fun x hx=>gR.mpr (.inr ⟨D.sub x hx,hns x hx⟩),D.ns,?_,fun x hx=>?_,fun x hx p hp=>?_,fun x hx=>?_,fun x hx y hy hyn=>?_,D.rk⟩
 ·obtain⟨x,hx,hk,hd⟩:=D.st
  refine⟨x,gR.mpr (.inr ⟨hx,fun z=>?_⟩),hk,hd⟩
  have:=hl x hx z
  omega
 ·rcases gR.mp hx with rfl | ⟨h,_⟩
  ·show 0<=e.d+q.2;omega
  ·exact D.nn x h
 ·rcases hp with hp | ⟨h1,rfl⟩
  ·obtain⟨y,hy,hyk,hyd⟩:=D.cl x hx p hp
   by_cases z:y.key=q.1
   ·refine⟨_,gR.mpr (.inl rfl),?_,?_⟩
    ·show q.1=p.1;rw[←z,hyk]
    ·show e.d+q.2<=_
     have:=hl y hy z
     omega
   ·exact⟨y,gR.mpr (.inr ⟨hy,z⟩),hyk,hyd⟩
  ·have:x=e:=Ge D.nf (D.sub x hx) (D.sub e he) h1
   subst this
   exact⟨_,gR.mpr (.inl rfl),rfl,Int.le_refl _⟩
 ·rcases gR.mp hx with rfl | ⟨h,_⟩
  ·exact .inr ⟨e,he,q.2,rfl,hq,rfl⟩
  ·exact D.pa x h
 ·rcases gR.mp hy with rfl | ⟨h,_⟩
  ·have:=hm x hx
   show x.d<=e.d+q.2;omega
  ·exact D.od x hx y h hyn
theorem Dij.imp {St:Nk α->List (Nk α×Int)}{C C':Nk α->Nk α×Int->Prop}{u0:Nk α}{fs ss:List (Ent α)} (D:Dij St C u0 fs ss) (h:∀ k p,C' k p->C k p):Dij St C' u0 fs ss :=
 ⟨D.nf,D.sub,D.ns,D.st,D.nn,fun x hx p hp=>D.cl x hx p (h _ _ hp),D.pa,D.od,D.rk⟩
inductive Wk (St:Nk α->List (Nk α×Int)) (u:Nk α):Nk α->Int->Prop
 | nil:Wk St u u 0
 | snoc {v x:Nk α}{w c:Int}:Wk St u v w->(x,c)∈St v->Wk St u x (w+c)
theorem Wk.mono {St St':Nk α->List (Nk α×Int)}{u v:Nk α} (h:∀ k p,p∈St k->p∈St' k) (x:Wk St u v w):Wk St' u v w:=by
 induction x with
 | nil=>exact .nil
 | snoc _ m ih=>exact ih.snoc (h _ _ m)
theorem Wk.cons {St:Nk α->List (Nk α×Int)}{u v y:Nk α}{w c:Int} (m:(v,c)∈St u) (x:Wk St v y w):Wk St u y (c+w):=by
 induction x with
 | nil =>
  have:=Wk.snoc (Wk.nil (St:=St) (u:=u)) m
  rw[Int.zero_add] at this
  rw[Int.add_zero];exact this
 | snoc _ m2 ih =>
  have:=ih.snoc m2
  rw[Int.add_assoc] at this;exact this
theorem Wk.symm {St:Nk α->List (Nk α×Int)}{u v:Nk α} (h:∀ k x c,(x,c)∈St k->(k,c)∈St x) (x:Wk St u v w):Wk St v u w:=by
 induction x with
 | nil=>exact .nil
 | snoc _ m ih=>rw[Int.add_comm];exact Wk.cons (h _ _ _ m) ih
structure KU (St:Nk α->List (Nk α×Int)) (u0:Nk α) (ss:List (Ent α)):Prop where
 ns:(ss.map Ent.key).Nodup
 le:∀ v w,Wk St u0 v w->∃ e∈ss,e.key=v/\e.d<=w
 wk:∀ e∈ss,Wk St u0 e.key e.d
 rk:∀ pre e post,ss=pre++e::post->(e.par=none/\e.key=u0/\e.d=0)∨∃ u∈pre,∃ c,e.par=some u.key/\(e.key,c)∈St u.key/\e.d=u.d+c
theorem EV {St:Nk α->List (Nk α×Int)}{u0:Nk α}:∀ (n:Nat) (ss:List (Ent α)),ss.length=n →
  (∀ pre e post,ss=pre++e::post->(e.par=none/\e.key=u0/\e.d=0)∨∃ u∈pre,∃ c,e.par=some u.key/\(e.key,c)∈St u.key/\e.d=u.d+c)->∀ e∈ss,Wk St u0 e.key e.d
 | 0,ss,hl,_,e,he=>by rw[List.length_eq_zero_iff.mp hl] at he;cases he
 | n+1,ss,hl,h,e,he=>by
  obtain⟨pre,post,q⟩:=List.append_of_mem he
  rcases h pre e post q with ⟨_,hk,hd⟩ | ⟨u,hu,c,_,hm,hd⟩
  ·rw[hk,hd];exact .nil
  ·have lp:pre.length<=n:=by
    have:=aG List.length q
    simp at this
    omega
   have ih:∀ e∈pre,Wk St u0 e.key e.d:=wk_pre_le pre.length n lp pre rfl fun p1 e1 p2 q1=>h p1 e1 (p2++e::post) (by rw[q,q1];simp)
   rw[hd]
   exact (ih u hu).snoc hm
where
 wk_pre_le (m n:Nat) (hmn:m<=n) (ss:List (Ent α)) (hl:ss.length=m) (h:∀ pre e post,ss=pre++e::post->(e.par=none/\e.key=u0/\e.d=0)∨∃ u∈pre,∃ c,e.par=some u.key/\(e.key,c)∈St u.key/\e.d=u.d+c):∀ e∈ss,Wk St u0 e.key e.d :=
  EV m ss hl h
theorem Dij.done {St:Nk α->List (Nk α×Int)}{u0:Nk α}{fs ss:List (Ent α)} (D:Dij St (fun k p=>p∈St k) u0 fs ss) (h:∀ e∈fs,e∈ss):KU St u0 ss:=by
 refine⟨D.ns,fun v w x=>?_,fun e he=>EV ss.length ss rfl D.rk e he,D.rk⟩
 induction x with
 | nil =>
  obtain⟨e,he,hk,hd⟩:=D.st
  exact⟨e,h e he,hk,by omega⟩
 | @snoc v x w c _ m ih =>
  obtain⟨e,he,hk,hd⟩:=ih
  obtain⟨e',he',hk',hd'⟩:=D.cl e he (x,c) (by rw[hk];exact m)
  exact⟨e',h e' he',hk',by have:(x,c).2=c:=rfl;omega⟩
structure Ln (α:Type) where
 a:α
 b:α
 p:Option Int
 c:Option Int
def Ln.cost (l:Ln α) (f:Bool):Option Int:=if f then l.c else l.p
def Up (x:Option Int) (w:Int):Prop:=∃ a,x=some a/\a<=w
theorem Up.mono {x:Option Int}{w w':Int} (h:Up x w) (l:w<=w'):Up x w':=by obtain⟨a,e,q⟩:=h;exact⟨a,e,by omega⟩
section
variable {zs bs:List α}{ls:List (Ln α)}{p g:Int}
end
end
end L2

namespace L2
open PySem PySem.Spec PyProof.Rows
variable {A:Around}{E:Value->Shared->Prop}{H:Hp}{K:PySem.W.Frag}{Pt:Addr}{Q:Value->Shared->Prop}{X:Cx}{f:Addr}{fd:FuncData}{h:Heap}{ns:List Int}{params:Arguments}{q:Str}{s:Shared}{scope:Scope}{sp:Sp}{st:Stmt}{u:Value}{x:Str}{xs:List V}{σ:St}
section
abbrev iz (q:Str):HO:=.tbl #[.str q 0]
section
variable {X:Cx}{pins:List (Addr×Obj)}{σ:St}{H:Hp}{s:Shared}
theorem tab_of {P:Addr} (I:Inv X pins σ H s) (e:H P=some (iz q)):∃ qs:Array Value,s.heap.get? P=some { cls:=.none,data:=.fields qs }/\TriplesOk qs.toList ∧
  ∀ pos c,codeAmong pos qs.toList=some c->∃ c' oc vs t,c=.ref c'/\H c'=some (.frz oc (.own P))/\s.heap.get? c'=some oc/\oc.data=.fields vs/\vs[1]?=some (.str q t):=by
 obtain⟨qs,h1,h2,h3⟩:=(show c8 X.prog X.w H s.heap P (iz q) from I.hok P _ e)
 refine⟨qs,h1,h2,fun pos c z=>?_⟩
 obtain⟨c',oc,vs,t,q',a1,a2,a4,a5,a6⟩:=h3 pos c z
 have a7:q=q':=by
  have:=aG Array.toList a6
  simp at this
  exact this
 subst a7
 exact⟨c',oc,vs,t,a1,a2,(I.hok c' _ a2).1,a4,a5⟩
theorem Inv.tabled {P c':Addr}{h':Heap}{ps more:Array Value}{tk:Nat}{oc:Obj}{vs:Array Value}{tq:Tok} (I:Inv X pins σ H s) (e:H P=some (iz q)) (hx:∀ b o,b≠P->s.heap.get? b=some o->h'.get? b=some o) (hc:s.heap.objs.size<=c')
  (h1:h'.get? P=some { cls:=.none,data:=.fields more }) (h2:TriplesOk more.toList) (h3:∀ pos c,codeAmong pos more.toList=some c->codeAmong pos ps.toList=some c∨c=.ref c') (h0:s.heap.get? P=some { cls:=.none,data:=.fields ps })
  (c1:h'.get? c'=some oc) (c2:oc.data=.fields vs) (c3:vs[1]?=some (.str q tq)):Inv X pins σ (upd H c' (.frz oc (.own P))) { s with heap:=h',toks:=tk }:=by
 have hn:=I.hok.fresh hc
 have nP:∀ b,H b=none->b≠P:=fun b hb z=>by rw[z,e] at hb;cases hb
 have lt:∀ b o,s.heap.get? b=some o->b≠c':=fun b o z=>bE (bD (aT z) hc)
 obtain⟨qs,g1,g2,g3⟩:=tab_of I e
 have eq:qs=ps:=by
  rw[h0] at g1
  have:=Option.some.inj g1
  injection this with _ _ z
  injection z with z
  exact z.symm
 subst eq
 refine I.un ⟨fun b o z n _ _=>hx b o (nP b n) z,fun b o z n _ _=>⟨o.slots,hx b o (nP b n) z⟩,fun b o z n _=>by rw[aP (lt b o z)];exact n,fun b o z _=>?_,fun b xs z=>by rw[aP (b8 z hn)];exact z,fun b u xs z=>by rw[aP (b8 z hn)];exact z,
  fun b xs z=>⟨#[],by rw[aP (b8 z hn),z];simp⟩⟩ fun b u z=>?_
 ·by_cases hb:b=P
  ·rw[hb];exact⟨_,h1⟩
  ·exact⟨o,hx b o hb z⟩
 ·by_cases hb:b=c'
  ·subst hb
   rw[aS] at z;cases z
   exact⟨c1,_,c1⟩
  ·rw[aP hb] at z
   by_cases hp:b=P
   ·subst hp
    rw[e] at z;cases z
    refine⟨more,h1,h2,fun pos c w=>?_⟩
    rcases h3 pos c w with w | rfl
    ·obtain⟨c2',oc2,vs2,t2,a1,a2,a3,a4,a5⟩:=g3 pos c w
     exact⟨c2',oc2,vs2,t2,q,a1,by rw[aP (b8 a2 hn)];exact a2,a4,a5,rfl⟩
    ·exact⟨c',oc,vs,tq,q,rfl,aS,c2,c3,rfl⟩
   ·refine (I.hok b u z).nJ (fun c v hc2 w=>hx c v ?_ w) (fun c w=>by rw[aP (b8 w hn)];exact w) fun c xs w=>by rw[aP (b8 w hn)];exact w
    rcases hc2 with rfl | w2
    ·exact hp
    ·exact qx w2 e (by intro z;cases z)
end
theorem ye {pos p2:Pos}{c:Value}:∀ (l:List Value),TriplesOk l->∀ x,codeAmong pos (l++[rawInt p2.line,rawInt p2.col,c])=some x->codeAmong pos l=some x∨x=c:=by
 intro l h
 fun_induction TriplesOk l with
 | case1 =>
  intro x e
  simp only[kg,codeAmong,rawInt] at e
  split at e
  ·exact .inr (Option.some.inj e).symm
  ·cases e
 | case2 a t b u y rest ih =>
  intro x e
  simp only[List.cons_append,codeAmong] at e ⊢
  split at e
  ·rename_i hc
   rw[ao hc];exact .inl e
  ·rename_i hc
   rw[ai hc];exact ih h x e
 | case3=>exact h.elim
section
variable {X:Cx}{pins:List (Addr×Obj)}{σ:St}{H:Hp}{s:Shared}{a:Addr}{y v:V}{u:Value}{A:Around}{E:Value->Shared->Prop}
end
section
variable {X:Cx}{pins:List (Addr×Obj)}{σ:St}{H:Hp}{s:Shared}
def nL (H:Hp) (P:Addr) (q:Str) (c':Addr):Prop:=∃ oc vs t,H c'=some (.frz oc (.own P))/\oc.data=.fields vs/\vs[1]?=some (.str q t)
theorem nL.same {H H':Hp}{P c':Addr} (h:nL H P q c') (s:aD H H'):nL H' P q c':=by
 obtain⟨oc,vs,t,h1,h2⟩:=h
 exact⟨oc,vs,t,s _ _ h1,h2⟩
theorem nL.rec {P c':Addr} (I:Inv X pins σ H s) (h:nL H P q c'):s.heap.CodeRec (.ref c') q:=by
 obtain⟨oc,vs,t,h1,h2,h3⟩:=h
 exact⟨c',oc,vs,t,rfl,(I.hok c' _ h1).1,h2,h3⟩
end
section
variable {prog:Program}{w:World}{A:Around}{E:Value->Shared->Prop}{s:Shared}{d it:Addr}{D J:Obj}{es:Array DictEntry}{ep i:Nat}
end
section
variable {X:Cx}{pins:List (Addr×Obj)}{σ:St}{H:Hp}{A:Around}{s0:Shared}{l q I S:Addr}{vs:List Value}{R:Result->Shared->Prop}
end
theorem lj.same {H H':Hp}{a:Addr}{y:V}{o:Option V} (s:aD H H') (g:lj H a y o):lj H' a y o:=by
 rcases g with ⟨kvs,k,e,h⟩ | ⟨kvs,k,b,e,h1,h2,h3⟩
 ·exact .inl ⟨kvs,k,e.elim (fun z=>.inl (s _ _ z)) fun ⟨o,z⟩=>.inr ⟨o,s _ _ z⟩,h⟩
 ·exact .inr ⟨kvs,k,b,e.elim (fun z=>.inl (s _ _ z)) fun ⟨o,z⟩=>.inr ⟨o,s _ _ z⟩,h1,s _ _ h2,h3⟩
section
variable {X:Cx}
end
def AN:TE:=fun _ H Q=>nw H (.dT []) Q
theorem CJ {σ:St}{H:Hp}{Q:VK}:AN σ H Q=nw H (.dT []) Q:=propext Iff.rfl
theorem Cd {pos:Pos}:PE X (.Dict [] [] pos) AN:=fun pins s σ H Q I h=>Eo pins s σ H Q I (nw.go h)
theorem Fj {td ty tv:TE}{D:Ends}{σ:St}{H:Hp}:ED td ty tv D σ H=tv σ H fun v H1=>td σ H1 fun x H2=>ty σ H2 fun y H3=>∃ a H4,x=.ref a/\ya H3 a y v H4/\D.nx σ H4:=propext Iff.rfl
theorem xC {o i value:Expr}{pos pos':Pos}{td ty tv:TE} (hu:X.A.units+1<cLine) (ho:PE X o td) (hi:PE X i ty) (hv:PE X value tv) (hs:swapsWith value (some (.Subscript o i pos')) pos.line X.env=pure false:=by kernel_rfl) :
  PS X (.Assign [.Subscript o i pos'] value pos) (ED td ty tv):=GF hu ho hi hv hs
theorem mK {α β:Type}{F:α->β->Prop}:∀ {l₁:List α}{l₂:List β},Paired F l₁ l₂->∀ {i:Nat}{x:α},l₁[i]?=some x->∃ y,l₂[i]?=some y/\F x y
 | _,_,.nil,i,x,e=>by simp at e
 | _,_,.cons r t,0,x,e=>by simp at e;subst e;exact⟨_,rfl,r⟩
 | _,_,.cons r t,i+1,x,e=>mK t (by simpa using e)
theorem BQ {P:Program}{w:World}{K:PySem.W.Frag}{mg mb:Str->Option Value}{CX:CXT}{k:Nat}{fa a c Pt:Addr}{q:Str}{fd:FuncData}{x:Str}{sp:Sp}{s₁:Shared}{vs:List Value}{ns:List Int}
  (KX:K.In s₁.heap) (hns:s₁.heap.Ns mainGlobals mg) (hb:s₁.heap.Ns builtinsNs mb) (hbb:∀ x:Str,x≠"__name__"->mb x=bootBuiltins x) (hlim:s₁.heap.NoLimit)
  (hbm:∃ bm ob,mg "__builtins__"=some (.ref bm)/\bm≠builtinsNs/\s₁.heap.get? bm=some ob/\ob.cls=.type "module"/\ob.dict=some builtinsNs/\ob.data=.plain) (hg:s₁.gens=#[])
  (ha:s₁.heap.get? a=some { cls:=.type "list",data:=.seq vs.toArray }) (hi:IntsAre vs ns) (hl:ns.length<=sizeLine) (hr:dI k callerA) (hC:PySem.W.codeHdIn K c Pt=true) (hPt:s₁.heap.get? Pt=some { cls:=.none,data:=.fields #[] }) (hKP:K.lookup Pt=none)
  (F:∀ base:Heap,K.In base->base.Ns mainGlobals mg->bI P w K mg base CX k fa fd [x] sp) (hbind:∀ (s:Shared) (u:Value),BindsTo s fd ⟨[u],[]⟩ [(x,u)])
  (hsp:∀ H:Hp,SqL K H a (ns.map V.int)->H Pt=some (iz q)->sp [.ref a] H (fun v _=>v=.bl true) fun _ _ _=>False)
  (hCX:∀ H e s',CX [] H s₁ (fun _ _ _=>False) e s'->False) :
  codeAny (model P w) callerA (.call (.ref fa) ⟨[.ref a],[]⟩) (fun r s'=>r=.ok (.ret (.bool true))/\OldK s₁.heap s'.heap/\s'.os=s₁.os/\AllBare s'.gens) s₁:=by
 have rv:=uM hi
 have lenV:=hi.length
 have hCd:=PySem.W.codeHd_of_K KX hC
 have nPa:Pt≠a:=fun z=>by rw[z,ha] at hPt;cases hPt
 have core:∀ H:Hp,SqL K H a (ns.map V.int)->HOk P w H s₁.heap->H Pt=some (iz q)->(∀ b,H b≠none->b=Pt∨(b=a/\∃ o xs,H b=some (.frz o (.lst xs))))->(H a≠none->K.lookup a=none) →
   codeAny (model P w) callerA (.call (.ref fa) ⟨[.ref a],[]⟩) (fun r s'=>r=.ok (.ret (.bool true))/\OldK s₁.heap s'.heap/\s'.os=s₁.os/\AllBare s'.gens) s₁:=by
  intro H hS hok hT hA hK
  have base_of:∀ {b:Addr}{o:Obj},s₁.heap.get? b=some o->H b=none->(vg s₁.heap H).get? b=some o:=fun e n=>DC e n
  have noO:∀ {b:Addr}{o:Obj},s₁.heap.get? b=some o->(∀ xs n,o.data≠.seq xs n)->(∀ xs,o.data≠.fields xs)->H b=none:=fun {b o} e d1 d2=>by
   cases qb:H b with
   | none=>rfl
   | some u =>
    rcases hA b (by rw[qb];simp) with z | ⟨z,_⟩
    ·subst z
     rw[hPt] at e;cases e
     exact absurd rfl (d2 _)
    ·subst z
     rw[ha] at e;cases e
     exact absurd rfl (d1 _ _)
  have nsK:∀ {b:Addr}{m:Str->Option Value},s₁.heap.Ns b m->(vg s₁.heap H).Ns b m:=fun {b m} ⟨o,es,ep,e,d,r⟩=>⟨o,es,ep,base_of e (noO e (fun _ _ z=>by rw[d] at z;cases z) fun _ z=>by rw[d] at z;cases z),d,r⟩
  have hKb:K.In (vg s₁.heap H):=fun b o e=>base_of (KX b o e) (by
   cases qb:H b with
   | none=>rfl
   | some u =>
    rcases hA b (by rw[qb];simp) with z | ⟨z,_⟩
    ·subst z
     rw[hKP] at e;cases e
    ·subst z
     rw[hK (by rw[qb];simp)] at e;cases e)
  have hM:Mod K mg (vg s₁.heap H):=⟨hKb,nsK hns,⟨mb,nsK hb,hbb⟩,let ⟨mc,h1,h2⟩:=hlim;⟨mc,nsK h1,h2⟩,let ⟨bm,ob,b1,b2,b3,b4,b5,b6⟩:=hbm;⟨bm,ob,b1,b2,base_of b3 (noO b3 (fun _ _ z=>by rw[b6] at z;cases z) fun _ z=>by rw[b6] at z;cases z),b4,b5,b6⟩⟩
  have e0:rD P w K mg (vg s₁.heap H) callerA [] s₁ H:=⟨rfl,hM,fun b o e=>Gi e,Nat.le_of_eq (BI _ _),trivial,fun b hb=>absurd (show b∈([]:List Addr) from hb) (by simp),hok,.of_eq hg⟩
  refine codeAny_mono ((F _ hKb (nsK hns)).run callerA [] s₁ H ⟨[.ref a],[]⟩ [.ref a] [.ref a] _ _ hr e0 (hbind s₁ (.ref a)) (.cons rfl .nil) (hsp H hS hT)) fun r s' h=>?_
  cases r with
  | error e=>exact (hCX H e s' h).elim
  | ok fl =>
   cases fl with
   | next=>exact False.elim h
   | brk=>exact False.elim h
   | cont=>exact False.elim h
   | ret u =>
    obtain⟨v,H',os,bare,un,hok',r',qv⟩:=h
    have qv':v=.bl true:=qv
    subst qv'
    obtain rfl:u=Value.bool true:=r'
    refine⟨rfl,⟨fun b o e=>?_,fun b o e=>un.there b o e (by simp)⟩,os,bare⟩
    cases qb:H b with
    | none=>exact .inl (un.keep b o e qb (by intro z;exact absurd (show b∈([]:List Addr) from z) (by simp)) (by simp))
    | some u =>
     rcases hA b (by rw[qb];simp) with z | ⟨z,ob,xs,z1⟩
     ·subst z
      rw[hPt] at e;cases e
      obtain⟨more,z2⟩:=un.tbls b _ hT
      obtain⟨qs,z3,_⟩:=(show c8 P w H' s'.heap b _ from hok' b _ z2)
      exact .inr (.inl ⟨(hCd.tab hPt).isCodeTable,rfl,#[],qs,rfl,by simpa using z3⟩)
     ·have z2:=un.frzs b ob _ z1
      obtain⟨e1,_⟩:=hok b _ z1
      obtain⟨e2,_⟩:=hok' b _ z2
      rw[e] at e1;cases e1
      exact .inl e2
 have okT:∀ H:Hp,c8 P w H s₁.heap Pt (iz q):=fun H=>⟨#[],hPt,trivial,fun pos c z=>by simp [codeAmong] at z⟩
 cases hk:K.lookup a with
 | some o =>
  have e:=KX a o hk
  rw[ha] at e
  cases e
  refine core (fun b=>if b=Pt then some (iz q) else none) (.inr ⟨_,vs.toArray,_,hk,rfl,rfl,rfl,by rw[bz,lenV];exact hl,by simpa using rv⟩) (fun b u z=>?_) (ao rfl) (fun b z=>?_) fun z=>absurd (ai (Ne.symm nPa)) z
  ·by_cases hb':b=Pt
   ·have z':=(ao hb').symm.trans z
    cases z'
    subst hb'
    exact okT _
   ·have z':=(ai hb').symm.trans z
    cases z'
  ·by_cases hb':b=Pt
   ·exact .inl hb'
   ·exact absurd (ai hb') z
 | none =>
  refine core (fun b=>if b=Pt then some (iz q) else if b=a then some (.frz { cls:=.type "list",data:=.seq vs.toArray } (.lst (ns.map V.int))) else none) (.inl (.inr ⟨{ cls:=.type "list",data:=.seq vs.toArray },(ai (Ne.symm nPa)).trans (ao rfl)⟩)) (fun b u z=>?_) (ao rfl) (fun b z=>?_) fun _=>hk
  ·by_cases hb':b=Pt
   ·have z':=(ao hb').symm.trans z
    cases z'
    subst hb'
    exact okT _
   ·have z0:=(ai hb').symm.trans z
    clear z
    have z:=z0
    by_cases hb2:b=a
    ·have z':=(ao hb2).symm.trans z
     cases z'
     subst hb2
     exact⟨ha,by rw[aj];exact hl,vs,_,rv,ha⟩
    ·have z':=(ai hb2).symm.trans z
     cases z'
  ·by_cases hb':b=Pt
   ·exact .inl hb'
   ·by_cases hb2:b=a
    ·exact .inr ⟨hb2,_,_,(ai hb').trans (ao hb2)⟩
    ·exact absurd ((ai hb').trans (ai hb2)) z
theorem EU {l:PySem.W.OpenLaw}{n k:Nat}{qq:Program}{loose:List Str}{XP:(Str->Option Value)->Heap->Prop}{YP:World->Heap->Prop}{d:DefRec}{K:Params->PySem.W.Frag}{CX:World->CXT}{sp:World->Sp}{x:Str}{Pt:Addr} (q:Str)
  (hn:l.most=some n) (hn2:n<=sizeLine) (hdf:d.params.defaults=[]) (hr:dI k callerA)
  (hY:∀ (w:World) (h:Heap),YP w h->(K w.params).In h/\h.get? Pt=some { cls:=.none,data:=.fields #[] })
  (F:∀ (w:World) (mg:Str->Option Value) (fa:Addr) (h:Heap),(K w.params).In h->h.Ns mainGlobals mg->mg d.name=some (.ref fa) →
   (∃ c,PySem.W.codeHdIn (K w.params) c Pt=true)/\∃ fd:FuncData,(∀ (s:Shared) (u:Value),BindsTo s fd ⟨[u],[]⟩ [(x,u)]) ∧
    ∀ base:Heap,(K w.params).In base->base.Ns mainGlobals mg->bI l.prog w (K w.params) mg base (CX w) k fa fd [x] (sp w))
  (hKP:∀ w:World,(K w.params).lookup Pt=none)
  (hsp:∀ (w:World) (H:Hp) (a:Addr) (ns:List Int),ns.length<=n->SqL (K w.params) H a (ns.map V.int)->H Pt=some (iz q)->sp w [.ref a] H (fun v _=>v=.bl true) fun _ _ _=>False)
  (hCX:∀ (w:World) (H:Hp) (s:Shared) (e:Value) (s':Shared),CX w [] H s (fun _ _ _=>False) e s'->False) :
  PySem.W.WalkO qq loose XP YP l.row.toRowW d [] (fun f vs=>PySem.call f vs):=by
 refine Att.wx hn hdf fun w s₀ s₁ mg mb fa o pm cd doc a vs ns G Y ho hd hcd hmg hobj hints hlen hg=>?_
 obtain⟨KX,hPt⟩:=hY w _ Y
 obtain⟨⟨c,hC⟩,fd,hb,hF⟩:=F w mg fa _ KX G.T.g hmg
 exact BQ (q:=q) KX G.T.g G.T.b G.T.builtins G.T.nolimit G.T.bmain hg hobj hints (bJ hlen hn2) hr hC hPt (hKP w) hF hb (fun H hS hT=>hsp w H a ns hlen hS hT) fun H e s'=>hCX w H s₁ e s'
section
variable {P:Program}{w:World}{K:PySem.W.Frag}{mg:Str->Option Value}{base:Heap}
theorem Fun.okT {x qual:Str}{f c:Addr}{N ps:List Str}{k:Nat} (F:Fun K x qual st f fd) (hc:fd.code=.ref c) (S:aL N ps (ay st)) (len:∀ vs H Q E,sp vs H Q E->vs.length=ps.length)
  (hbody:∀ (A:Around) (outer:List Env) (s:Shared) (H:Hp) (vs:List V) (Q:VK) (E:XK),dI k (A.deeper (envOfC qual (ay st) s.heap.objs.size f (.ref c)))->sp vs H Q E →
   ∃ t,PSs (nR (CX1 P w) P w K mg base N qual (ay st) f (.ref c) A outer s H E) (cE st) t/\t { nx:=fun _ H'=>Q .non H',rt:=Q } (start N vs) H):bI P w K mg base (CX1 P w) (k+1) f fd ps sp:=by
 obtain⟨oc,od,kV,doc,pm,an,cdv,ct,osl,rfl,lk,hcd⟩:=F.ex
 have e:cdv=.ref c:=hc
 subst e
 exact uw lk hcd S len fun A outer s H vs Q E hr hsp=>hbody A outer s H vs Q E hr hsp
end
end
section
section
variable {prog:Program}{w:World}{A:Around}{E:Value->Shared->Prop}{s:Shared}
end
section
variable {prog:Program}{w:World}{A:Around}{E:Value->Shared->Prop}{s:Shared}
end
section
variable {α:Type}
theorem JQ {p:List α->Prop} (h:p []) (us:List α) (e:us.length=0):p us:=by
 cases us with
 | nil=>exact h
 | cons _ _=>cases e
theorem bind1 {p:List α->Prop} (h:∀ a,p [a]) (us:List α) (e:us.length=1):p us:=by
 cases us with
 | nil=>cases e
 | cons a r=>exact JQ (p:=fun r=>p (a::r)) (h a) r (Nat.succ.inj e)
theorem eO {p:List α->Prop} (h:∀ a b,p [a,b]) (us:List α) (e:us.length=2):p us:=by
 cases us with
 | nil=>cases e
 | cons a r=>exact bind1 (p:=fun r=>p (a::r)) (h a) r (Nat.succ.inj e)
theorem zN {p:List α->Prop} (h:∀ a b c,p [a,b,c]) (us:List α) (e:us.length=3):p us:=by
 cases us with
 | nil=>cases e
 | cons a r=>exact eO (p:=fun r=>p (a::r)) (h a) r (Nat.succ.inj e)
theorem zO {p:List α->Prop} (h:∀ a b c d,p [a,b,c,d]) (us:List α) (e:us.length=4):p us:=by
 cases us with
 | nil=>cases e
 | cons a r=>exact zN (p:=fun r=>p (a::r)) (h a) r (Nat.succ.inj e)
end
end
section
end
section
inductive EqR (K:PySem.W.Frag) (H:Hp):Nat->V->V->Bool->Prop
 | same {n:Nat}{x:V} (h:Ha x=true):EqR K H n x x true
 | flat {n:Nat}{x y:V} (h1:dX x=true) (h2:dX y=true):EqR K H n x y (eqV x y)
 | lst {n:Nat}{p q:Addr}{xs ys:List V} (e:Nat->Bool) (hne:p≠q) (h1:SqL K H p xs) (h2:SqL K H q ys) (hl:xs.length=ys.length) (h:∀ (i:Nat) x y,xs[i]?=some x->ys[i]?=some y->EqR K H n x y (e i)):EqR K H (n+1) (.ref p) (.ref q) ((List.range xs.length).all e)
 | tup {n:Nat}{p q:Addr}{xs ys:List V} (e:Nat->Bool) (hne:p≠q) (h1:SqT K H p xs) (h2:SqT K H q ys) (h:∀ (i:Nat) x y,xs[i]?=some x->ys[i]?=some y->EqR K H n x y (e i)):EqR K H (n+1) (.ref p) (.ref q) ((List.range (min xs.length ys.length)).all e&&xs.length==ys.length)
theorem EqR.at {X:Cx}{pins:List (Addr×Obj)}{s:Shared}{σ:St}{H:Hp} (I:Inv X pins σ H s) {n:Nat}{x y:V}{b:Bool} (h:EqR X.K H n x y b):∀ {A:Around}{u v:Value},A.units+n<cLine->RelV x u->RelV y v->SeqAt.EqAt A s u v b:=by
 induction h with
 | same h=>intro A u v _ ru rv;exact Bq ru rv h
 | flat h1 h2=>intro A u v _ ru rv;exact ng ru rv h1 h2
 | @lst n p q xs ys e hne h1 h2 hl _ ih =>
  intro A u v hu ru rv
  cases ru;cases rv
  obtain⟨us,r1,p1,_⟩:=I.list h1
  obtain⟨vs,r2,p2,_⟩:=I.list h2
  have l1:=r1.length
  have l2:=r2.length
  have:=SeqAt.RcAt.lists (A:=A) (s:=s) (e:=e) p1.isList p2.isList (by simp only[bz];omega) (by omega) fun j j1 j2=>by
   obtain⟨x,ex,rx⟩:=jQ r1 j1
   obtain⟨y,ey,ry⟩:=jQ r2 j2
   exact ih j x y ex ey (show A.units+1+n<cLine by omega) rx ry
  rw[bz,←l1] at this
  exact SeqAt.EqAt.of_refs hne this
 | @tup n p q xs ys e hne h1 h2 _ ih =>
  intro A u v hu ru rv
  cases ru;cases rv
  obtain⟨us,r1,p1,_⟩:=I.tuple h1
  obtain⟨vs,r2,p2,_⟩:=I.tuple h2
  have l1:=r1.length
  have l2:=r2.length
  have:=SeqAt.RcAt.tuples (A:=A) (s:=s) (e:=e) p1 p2 (by omega) fun j j1 j2=>by
   obtain⟨x,ex,rx⟩:=jQ r1 j1
   obtain⟨y,ey,ry⟩:=jQ r2 j2
   exact ih j x y ex ey (show A.units+1+n<cLine by omega) rx ry
  rw[bz,bz,←l1,←l2] at this
  exact SeqAt.EqAt.of_refs hne this
section
variable {X:Cx}
end
def EA (e:V->Bool):Value->Bool
 | .ref a=>e (.ref a)
 | _=>false
theorem ET {us:List Value} (r:Vals xs us) (e:V->Bool) (h:∀ v∈xs,∃ a,v=.ref a):us.any (EA e)=xs.any e/\us.countP (EA e)=xs.countP e:=by
 induction r with
 | nil=>exact⟨rfl,rfl⟩
 | @cons x u xs us r1 r2 ih =>
  obtain⟨a,rfl⟩:=h x aR
  cases r1
  have:=ih fun v hv=>h v (bb _ hv)
  rw[iP,iP,List.countP_cons,List.countP_cons,this.1,this.2]
  exact⟨rfl,rfl⟩
def InR (K:PySem.W.Frag) (H:Hp) (x:V) (p:Addr) (xs:List V) (e:V->Bool):Prop:=∃ n,n<=6/\SqL K H p xs/\(∀ v∈xs,∃ a,v=.ref a)/\∀ v∈xs,EqR K H n v x (e v)
section
variable {X:Cx}
theorem InR.each {pins:List (Addr×Obj)} (I:Inv X pins σ H s) (hu:X.A.units+9<cLine) {x:V}{p:Addr}{e:V->Bool} (h:InR X.K H x p xs e)  (ru:RelV x u) :
  ∃ its,Vals xs its/\s.heap.IsList p its.toArray/\(∀ y,y∈its.toArray->SeqAt.EqAt X.A.in1 s y u (EA e y))/\its.any (EA e)=xs.any e/\its.countP (EA e)=xs.countP e:=by
 obtain⟨n,hn,h1,h2,h3⟩:=h
 obtain⟨its,r,pl,_⟩:=I.list h1
 obtain⟨a1,a2⟩:=ET r e h2
 refine⟨its,r,pl.isList,fun y hy=>?_,a1,a2⟩
 obtain⟨j,hj,rfl⟩:=Array.getElem_of_mem hy
 obtain⟨v,ev,rv⟩:=jQ r hj
 have hv:=br ev
 obtain⟨a,rfl⟩:=h2 v hv
 have e1:=(h3 _ hv).at I (A:=X.A.in1) (show X.A.units+1+n<cLine by omega) rv ru
 rw[show its.toArray[j]=Value.ref a from rv] at e1 ⊢
 exact e1
end
theorem DP {K:PySem.W.Frag}{J:It}{H1:Hp}{js:List Nat}{σ:St}{tc:TT}{te:TE}{Q:VK} (hJ:J.Seq H1 xs) (hl:xs.length<sizeLine) (fx fy g:Nat->V) (pr:Nat->Bool) (hp:∀ (i:Nat) v,xs[i]?=some v->∃ t,v=.ref t/\H1 t=some (.tup [fx i,fy i]))
  (hc:∀ i,i<xs.length->∀ H,aD H1 H->∀ R:Bool->Hp->Prop,(∀ H',aD H H'->R (pr i) H')->tc (some (fx i)::some (fy i)::js.map fun j=>(σ[j]?).join) H R)
  (he:∀ i,i<xs.length->pr i=true->∀ H,aD H1 H->∀ R:VK,(∀ H',aD H H'->R (g i) H')->te (some (fx i)::some (fy i)::js.map fun j=>(σ[j]?).join) H R)
  (q:∀ D H,H1 D=none->aD H1 H->H D=some (.lst (((List.range xs.length).filter pr).map g))->Q (.ref D) H):fD (D5 K 2 (qo (fT 0) (qo (fT 1) D4))) tc te (i9 2 js σ) J H1 Q:=by
 intro D hD
 refine⟨fun i m ys σ1 H=>m=xs.length-i/\i<=xs.length/\(∃ o1 o2,σ1=o1::o2::js.map fun j=>(σ[j]?).join)/\ys=((List.range i).filter pr).map g/\aD H1 H/\H D=some (.lst ys),
  ⟨xs.length,by simp,bN _,⟨none,none,rfl⟩,by simp,(aD.refl H1).fi hD,aS⟩,?_⟩
 rintro i m ys σ1 H ⟨rfl,hi,⟨o1,o2,rfl⟩,rfl,sH,hL⟩
 have hyl:(((List.range i).filter pr).map g).length<=i:=by
  rw[aj]
  have:=pe pr (List.range i)
  rwa [gk] at this
 refine⟨hL,by omega,?_⟩
 by_cases hlt:i<xs.length
 ·have e:xs[i]?=some xs[i]:=bu hlt
  obtain⟨go,yl⟩:=(hJ H sH).1 i xs[i] e
  refine .inr ⟨go,fun x H' y=>?_⟩
  obtain⟨e1,e2⟩:=yl x H' y
  subst e1 e2
  obtain⟨t,et,ht⟩:=hp i _ e
  rw[et]
  refine⟨t,_,rfl,SqT.of (sH _ _ ht),rfl,fx i,[fy i],rfl,fy i,[],rfl,rfl,?_⟩
  show tc (some (fx i)::some (fy i)::js.map fun j=>(σ[j]?).join) _ _
  refine hc i hlt _ sH _ fun H4 s4=>?_
  have hL4:=s4 _ _ hL
  have rs:List.range (i+1)=List.range i++[i]:=List.range_succ
  cases hpr:pr i with
  | false =>
   rw[ai cf]
   exact⟨xs.length-(i+1),by omega,rfl,hlt,⟨_,_,rfl⟩,by rw[rs,oY];simp [hpr],sH.trans s4,hL4⟩
  | true =>
   rw[ao rfl]
   refine he i hlt hpr H4 (sH.trans s4) _ fun H5 s5=>⟨s5 _ _ hL4,xs.length-(i+1),by omega,rfl,hlt,⟨_,_,rfl⟩,?_,((sH.trans s4).trans s5).fi hD,aS⟩
   rw[rs,oY];simp [hpr]
 ·have e:i=xs.length:=by omega
  subst e
  exact .inl ⟨(hJ H sH).2 _ (aA _),q D H hD sH hL⟩
end
section
theorem GS {X:Cx}{y z:Str}{k1 k2:Nat}{p1 p2 pos:Pos}{Q:List Value->Shared->Prop}{E:Value->Shared->Prop} (h:Q [.str y s.toks,.str z (s.toks+1)] { s with toks:=s.toks+1+1 }) :
  wpAny (model X.prog X.w) X.A (spliced (backTo pos (starEach [.Constant (.str y) k1 p1,.Constant (.str z) k2 p2] X.env))) Q E s:=by
 rw[aU rfl]
 show wpAny _ _ (spliced ((false,eval (.Constant (.str y) k1 p1) X.env)::backTo pos (starEach [.Constant (.str z) k2 p2] X.env))) _ _ s
 refine mR (pB ?_)
 rw[aU rfl]
 show wpAny _ _ (spliced ((false,eval (.Constant (.str z) k2 p2) X.env)::backTo pos (starEach [] X.env))) _ _ _
 refine mR (pB ?_)
 exact Calls.spliced_nil h
section
variable {X:Cx}
end
section
variable {prog:Program}{w:World}{A:Around}{E:Value->Shared->Prop}{s:Shared}
end
section
variable {X:Cx}
end
end
section
structure AU (K:PySem.W.Frag) (x qual:Str) (st:Stmt) (f:Addr) (fd:FuncData):Prop where
 ex:∃ (oc:Value) (od:Option Addr) (dV kV doc pm:Value) (an:Option Addr) (cdv ct:Value) (osl:Array (Option Value)),
  fd=PySem.W.fnOf x qual (dD st) (cE st) (ay st) dV kV doc pm an cdv ct/\K.lookup f=some ⟨oc,od,.func fd,osl⟩/\PySem.W.codeIn K cdv qual=true
 kp:PySem.W.keepIn K (.ref f)=true
section
variable {P:Program}{w:World}{K:PySem.W.Frag}{mg:Str->Option Value}{base:Heap}
theorem FU {x qual:Str}{oc:Value}{od an:Option Addr}{osl:Array (Option Value)}{dV kV doc pm cdv ct:Value} (l:K.lookup f=some ⟨oc,od,.func (PySem.W.fnOf x qual (dD st) (cE st) (ay st) dV kV doc pm an cdv ct),osl⟩)
  (c:PySem.W.codeIn K cdv qual=true) (k:PySem.W.keepIn K (.ref f)=true):AU K x qual st f (PySem.W.fnOf x qual (dD st) (cE st) (ay st) dV kV doc pm an cdv ct):=⟨⟨oc,od,dV,kV,doc,pm,an,cdv,ct,osl,rfl,l,c⟩,k⟩
theorem AU.okX {x qual:Str}{N ps:List Str}{k:Nat} (F:AU K x qual st f fd) (S:aL N ps (ay st)) (len:∀ vs H Q E,sp vs H Q E->vs.length=ps.length)
  (hbody:∀ (cdv:Value) (A:Around) (outer:List Env) (s:Shared) (H:Hp) (vs:List V) (Q:VK) (E:XK),dI k (A.deeper (envOfC qual (ay st) s.heap.objs.size f cdv))->sp vs H Q E →
   ∃ t,PSs (nR (CX1 P w) P w K mg base N qual (ay st) f cdv A outer s H E) (cE st) t/\t { nx:=fun _ H'=>Q .non H',rt:=Q } (start N vs) H):bI P w K mg base (CX1 P w) (k+1) f fd ps sp:=by
 obtain⟨oc,od,dV,kV,doc,pm,an,cdv,ct,osl,rfl,lk,hcd⟩:=F.ex
 exact uw lk hcd S len fun A outer s H vs Q E hr hsp=>hbody cdv A outer s H vs Q E hr hsp
theorem AU.okT {x qual:Str}{f c:Addr}{N ps:List Str}{k:Nat} (F:AU K x qual st f fd) (hc:fd.code=.ref c) (S:aL N ps (ay st)) (len:∀ vs H Q E,sp vs H Q E->vs.length=ps.length)
  (hbody:∀ (A:Around) (outer:List Env) (s:Shared) (H:Hp) (vs:List V) (Q:VK) (E:XK),dI k (A.deeper (envOfC qual (ay st) s.heap.objs.size f (.ref c)))->sp vs H Q E →
   ∃ t,PSs (nR (CX1 P w) P w K mg base N qual (ay st) f (.ref c) A outer s H E) (cE st) t/\t { nx:=fun _ H'=>Q .non H',rt:=Q } (start N vs) H):bI P w K mg base (CX1 P w) (k+1) f fd ps sp:=by
 obtain⟨oc,od,dV,kV,doc,pm,an,cdv,ct,osl,rfl,lk,hcd⟩:=F.ex
 have e:cdv=.ref c:=hc
 subst e
 exact uw lk hcd S len fun A outer s H vs Q E hr hsp=>hbody A outer s H vs Q E hr hsp
end
structure HH (P:Program) (w:World) (K:PySem.W.Frag) (mg:Str->Option Value) (base:Heap) (CX:CXT) (C:Addr) (m:Str) (k:Nat) (ps:List Str) (sp:Sp):Prop where
 ex:∃ (f:Addr) (fd:FuncData),bI P w K mg base CX k f fd ps sp/\Meth K C m f/\Binds K fd ps [.none]
 cl:Cls K C
def spD (sp:Sp):Sp:=fun vs H Q E=>sp (vs++[.non]) H Q E
theorem Im {sp:Sp}{vs:List V}{H:Hp}{Q:VK}{E:XK}:spD sp vs H Q E=sp (vs++[.non]) H Q E:=propext Iff.rfl
section
variable {X:Cx}{CX:CXT}{E:St->XK}
theorem Es {pl:Sem Bool}{C:Addr}{m:Str}{k:Nat}{ps:List Str}{o e:Expr}{es:List Expr}{ta:TE}{t:TA}{apos pos:Pos} (M:HH X.prog X.w X.K X.mg X.base CX C m k ps sp) (hx:Passes CX X E) (hr:dI k X.A) (he:PE X o ta) (ha:PA X (e::es) t)
  (hs:dS (e::es)=true:=by kernel_rfl)
  (ht:eval (.Call (.Attribute o m apos) (e::es) [] pos) X.env=(do
   let ov ←eval o X.env
   standAt apos.atName
   let (f,first) ←holding [ov] (getMethod ov m pl)
   callWith pos f first (backTo pos (starEach (e::es) X.env)) (backToKw pos (keywordEach [] X.env))):=by rfl) :
  PE X (.Call (.Attribute o m apos) (e::es) [] pos) (tM C m (spD sp) E ta t):=by
 obtain⟨f,fd,F,hm,hb⟩:=M.ex
 intro pins s σ H Q I h
 refine A7 (ta:=up ta) (t:=t) he.up M.cl hm F hr hb (.cons (show RelV .non .none from rfl) .nil) hx ha (aU (bh hs).1) (cZ (bh hs).2) ht pins s σ H Q I ⟨_,h,fun x H1 q=>?_⟩
 cases x with
 | ref a =>
  obtain⟨dx,fs,h1,h2,h3⟩:=q
  exact⟨a,dx,fs,rfl,h1,h2,h3⟩
 | _=>exact False.elim q
end
section
variable {X:Cx}{pins:List (Addr×Obj)}{σ:St}{H:Hp}{s:Shared}
abbrev An (q:Str) (params:Arguments) (body:Expr) (scope:Scope) (cl:List (Str×Addr)) (pm cd ctv:Value):Obj :=
 { cls:=.type "function",data:=.func (PySem.W.kla_fn "<lambda>" q params body scope cl pm cd ctv) }
theorem BP {A:Around}{E:Value->Shared->Prop}{Q:Value->Shared->Prop}{P c:Addr}{params:Arguments}{body:Expr}{scope:Scope}{lpos:Pos}{cl:List (Str×Addr)} (I:Inv X pins σ H s) (e:H P=some (iz q))
  (hcd:X.env.code=.ref c) (hC:PySem.W.codeHdIn X.K c P=true) (hq:X.env.qual++"<lambda>"=q) (hd:defaultsOf params X.env=([],[])) (hcl:clo X.env.cells scope.names []=some cl)
  (k:∀ f c' ctv H' s',Inv X pins σ H' s'->aD H H'->H f=none->H' f=some (.frz (An q params body scope cl ((X.mg "__name__").getD .none) (.ref c') ctv) (.own P))->nL H' P q c'->Q (.ref f) s') :
  wpAny (model X.prog X.w) A (eval (.Lambda params body scope lpos) X.env) Q E s:=by
 refine PySem.W.kla_eval hd ?_
 rw[hq]
 have C:=PySem.W.codeHd_of_K I.kIn hC
 obtain⟨qs,g1,g2,g3⟩:=tab_of I e
 have hg:=I.mod.glob.keeps I.bk
 obtain⟨bm,ob,b1,b2,b3,b4,b5,b6⟩:=I.mod.bmn
 have hgP:mainGlobals≠P:=fun z=>by
  obtain⟨o,es,ep,w1,w2,_⟩:=I.mod.glob
  have:=(I.bs _ _ w1).2
  rw[z,e] at this;cases this
 have hbP:bm≠P:=fun z=>by
  have:=(I.bs _ _ b3).2
  rw[z,e] at this;cases this
 have hbG:bm≠mainGlobals:=fun z=>by
  obtain⟨o,es,ep,w1,w2,_⟩:=I.mod.glob
  rw[z,w1] at b3;cases b3;rw[w2] at b6;cases b6
 have hb:s.heap.BuiltinsAt X.mg P:=⟨bm,ob,b1,b2,hbG,hbP,I.bk _ _ b3,b4,b5,b6⟩
 have hcl':=iA hcl
 cases hf:codeAmong lpos qs.toList with
 | none =>
  refine PySem.W.kla_makeFunction (mg:=X.mg) hcl' I.ok.glob hg hcd C g1 g2 hf hgP hb fun c' ctv h' tk hx hge hlt hrec htb=>?_
  obtain⟨c2,oc,vs,t,z1,z2,z3,z4⟩:=id hrec
  cases z1
  have I1:Inv X pins σ (upd H c' (.frz oc (.own P))) { s with heap:=h',toks:=tk }:=I.tabled (ps:=qs) e (fun b o hb z=>hx b o hb z) hge htb (by simpa using TriplesOk_snoc _ _ _ _ g2) (fun pos x z=>ye qs.toList g2 x (by simpa using z)) g1 z2 z3 z4
  have hn:=I.hok.fresh hge
  have kp:∀ b o,h'.get? b=some o->(h'.push (PySem.W.kla_obj "<lambda>" q params body scope cl ((X.mg "__name__").getD .none) c' ctv)).get? b=some o:=fun b o z=>aW _ z
  have hf1:=I1.hok.fresh (aA h'.objs.size)
  have hfH:H h'.objs.size=none:=I.hok.fresh (aN (gw hge hlt))
  refine k h'.objs.size c' ctv _ _ (I1.laid (a:=h'.objs.size) (o:=.frz (An q params body scope cl ((X.mg "__name__").getD .none) (.ref c') ctv) (.own P)) (t':=tk) kp (aA _) ⟨bL _ rfl,_,bL _ rfl⟩) ((dY hn).trans (dY hf1)) hfH aS ?_
  exact nL.same ⟨oc,vs,t,aS,z3,z4⟩ (dY hf1)
 | some cv =>
  obtain⟨c',oc,vs,t,a1,a2,a3,a4,a5⟩:=g3 lpos cv hf
  subst a1
  refine PySem.W.kla_makeFunctionHit (mg:=X.mg) hcl' I.ok.glob hg hcd C g1 g2 hf hb fun ctv h' tk hx hsz=>?_
  have kp:∀ b o,s.heap.get? b=some o->(h'.push { cls:=.type "function",data:=.func (PySem.W.kla_fn "<lambda>" q params body scope cl ((X.mg "__name__").getD .none) (.ref c') ctv) }).get? b=some o:=fun b o z=>aW _ (hx b o z)
  have hf1:=I.hok.fresh hsz
  refine k h'.objs.size c' ctv _ _ (I.laid (a:=h'.objs.size) (o:=.frz (An q params body scope cl ((X.mg "__name__").getD .none) (.ref c') ctv) (.own P)) (t':=tk) kp hsz ⟨bL _ rfl,_,bL _ rfl⟩) (dY hf1) hf1 aS ?_
  exact nL.same ⟨oc,vs,t,a2,a4,a5⟩ (dY hf1)
def pF (q:Str) (Pt:Addr) (H:Hp) (f:Addr):Prop:=∃ (pm ctv:Value) (c':Addr) (params:Arguments) (scope:Scope) (x:Str) (j:Nat) (p:Pos),
 H f=some (.frz (An q params (.Constant (.bool false) j p) scope [] pm (.ref c') ctv) (.own Pt))/\nL H Pt q c' ∧
 (∀ u:Value,bindArgs (PySem.W.kla_fn "<lambda>" q params (.Constant (.bool false) j p) scope [] pm (.ref c') ctv) ⟨[u],[]⟩=pure [(x,u)]) ∧
 scope.isCoroutine=false/\scope.isGenerator=false/\scope.kind=.function/\(∀ y∈scope.names,y.2≠.cell)/\scope.names.lookup x=some .local
theorem pF.same {q:Str}{Pt f:Addr}{H H':Hp} (h:pF q Pt H f) (s:aD H H'):pF q Pt H' f:=by
 obtain⟨pm,ctv,c',params,scope,x,j,p,h1,h2,h3⟩:=h
 exact⟨pm,ctv,c',params,scope,x,j,p,s _ _ h1,h2.same s,h3⟩
theorem CQ {R:Value->Shared->Prop}{E:Value->Shared->Prop}{Pt f:Addr}{u:Value} (I:Inv X pins σ H s) (hr:A.depth<recursionLimit) (B:pF q Pt H f) (k:∀ s',Inv X pins σ H s'->R (.bool false) s') :
  wpAny (model X.prog X.w) A (call (.ref f) [u]) R E s:=by
 obtain⟨pm,ctv,c',params,scope,x,j,p,hf,hc,hbind,hco,hgen,hk,hcell,hx⟩:=B
 have hf':=(I.hok f _ hf).1
 refine wpAny_call (PySem.W.kla_callFunE hr hf' rfl hco hgen rfl (hc.rec I) ?_)
 rw[hbind]
 refine aO (wpAny_newFunctionEnv hcell (fun y hy=>by rw[bt.mp hy];exact hx) (fun h₁ hns hsb=>⟨(I.nolimit).fresh _ hsb,?_⟩) hk)
 show codeAny _ _ (.expr _ (PySem.W.envX q scope s.heap.objs.size f (.ref c') [])) _ _
 have k1:∀ b o,s.heap.get? b=some o->h₁.get? b=some o:=fun b o z=>hsb.extBut b o (bE (aT z)) (aW _ z)
 have I1:Inv X pins σ H { s with heap:=h₁,toks:=s.toks+1 }:=I.kept (t':=s.toks+1) k1
 refine PySem.W.kla_codeExpr ?_
 exact Constant_bool (k _ I1)
end
def Hw (q:Str) (Pt:Addr):TE:=fun _ H Q=>H Pt=some (iz q)/\∀ f H',H f=none->aD H H'->pF q Pt H' f->Q (.ref f) H'
theorem Fq {q:Str}{Pt:Addr}{σ:St}{H:Hp}{Q:VK}:Hw q Pt σ H Q=(H Pt=some (iz q)/\∀ f H',H f=none->aD H H'->pF q Pt H' f->Q (.ref f) H'):=propext Iff.rfl
def EI (q:Str) (Pt:Addr) (tv:TE) (t:TA):TE:=fun σ H Q=>tv σ H fun x H1=>∃ f,x=.ref f/\pF q Pt H1 f/\t σ H1 fun vs H2=>pF q Pt H2 f/\vs.length=1/\Q (.bl false) H2
theorem CG {q:Str}{Pt:Addr}{tv:TE}{t:TA}{σ:St}{H:Hp}{Q:VK}:EI q Pt tv t σ H Q=tv σ H fun x H1=>∃ f,x=.ref f/\pF q Pt H1 f/\t σ H1 fun vs H2=>pF q Pt H2 f/\vs.length=1/\Q (.bl false) H2:=propext Iff.rfl
section
variable {X:Cx}
theorem Gx {Pt c:Addr}{q x:Str}{params:Arguments}{j:Nat}{p lpos:Pos} (hcd:X.env.code=.ref c) (hC:PySem.W.codeHdIn X.K c Pt=true) (hq:X.env.qual++"<lambda>"=q) (hcl:clo X.env.cells scope.names []=some [])
  (hx:scope.names.lookup x=some .local)
  (hbind:∀ (pm ctv:Value) (c':Addr) (u:Value),bindArgs (PySem.W.kla_fn "<lambda>" q params (.Constant (.bool false) j p) scope [] pm (.ref c') ctv) ⟨[u],[]⟩=pure [(x,u)])
  (hd:defaultsOf params X.env=([],[]):=by rfl)
  (hco:scope.isCoroutine=false:=by rfl) (hgen:scope.isGenerator=false:=by rfl) (hk:scope.kind=.function:=by rfl) (hcell:∀ y∈scope.names,y.2≠.cell:=by decide +kernel) :
  PE X (.Lambda params (.Constant (.bool false) j p) scope lpos) (Hw q Pt):=by
 intro pins s σ H Q I h
 obtain⟨h1,h2⟩:=h
 exact BP I h1 hcd hC hq hd hcl fun f c' ctv H' s' I' sm hn hf hc=>⟨.ref f,H',I',rfl,h2 f H' hn sm ⟨_,ctv,c',params,scope,x,j,p,hf,hc,fun u=>hbind _ _ _ u,hco,hgen,hk,hcell,hx⟩⟩
theorem sT {q x:Str}{e:Expr}{tv:TE}{t:TA}{p pos:Pos}{k:Nat} (hv:PE X (.Name x p) tv) (hr:dI k X.A) (ha:PA X [e] t) (hs:dS [e]=true:=by kernel_rfl):PE X (.Call (.Name x p) [e] [] pos) (EI q Pt tv t):=by
 intro pins s σ H Q I h
 refine mC (thn (hv pins s σ H _ I h) fun u s1 ⟨v,H1,I1,r,f,ev,B1,q1⟩=>?_)
 subst ev
 cases r
 have fnA:∀ {H:Hp}{s:Shared},Inv X pins σ H s->pF q Pt H f->PySem.W.FnAt f s.heap:=fun I B=>by
  obtain⟨pm,ctv,c',params,scope,x,j,p,hf,_⟩:=B
  exact⟨_,_,_,_,(I.hok f _ hf).1⟩
 refine PySem.W.callWith_F (fnA I1 B1) (thn (ha pos pins s1 σ H1 _ I1 q1) fun us s2 ⟨vs,H2,I2,r2,B2,l2,q2⟩=>⟨fnA I2 B2,?_⟩) (aU (bh hs).1) (cZ (bh hs).2)
 obtain⟨u,rfl⟩:∃ u,us=[u]:=by
  have:=r2.length
  rw[l2] at this
  match us,this with
  | [u],_=>exact⟨u,rfl⟩
 exact CQ I2 hr.depth B2 fun s3 I3=>⟨.bl false,H2,I3,rfl,q2⟩
end
def E3:List V->Hp->VK->Prop:=fun vs H Q=>match vs with
 | [.ref a]=>∃ kvs,Rd H a (.dK kvs)/\Q (.int kvs.length) H
 | _=>False
theorem Dq {a:Addr}{H:Hp}{Q:VK}:E3 [.ref a] H Q=(∃ kvs,Rd H a (.dK kvs)/\Q (.int kvs.length) H):=propext Iff.rfl
theorem Bd :cW X (.builtin "len") E3:=by
 intro pins s σ H xs us Q I r h
 match xs,h with
 | [.ref a],h =>
  obtain⟨kvs,ha,q⟩:=h
  obtain⟨u,rfl,r2⟩:=vals1 r
  cases r2
  exact JS I ha fun t s' I'=>⟨.int kvs.length,H,I',⟨t,rfl⟩,q⟩
def Jp:List V->Hp->VK->Prop:=fun vs H Q=>match vs with
 | [.ref a]=>∃ kvs:List (Int×V),Rd H a (.dK (kvs.map fun q=>(.inl q.1,q.2)))/\kvs.length<64/\∀ ns:List Int,ns.Perm (kvs.map (·.1))->ns.Pairwise (·<=·)->nw H (.lst (ns.map V.int)) Q
 | _=>False
theorem rZ:∀ {vs:List Value}{ns:List Int},vs.length=ns.length->(∀ (i:Nat) v,vs[i]?=some v->∃ n t,ns[i]?=some n/\v=.int n t)->IntsAre vs ns
 | [],[],_,_=>.nil
 | v::vs,n::ns,hl,h=>by
  obtain⟨m,t,e,rfl⟩:=h 0 v rfl
  cases e
  exact .cons _ t (rZ (by simpa using hl) fun i v e=>h (i+1) v (by simpa using e))
theorem kR:∀ {ns:List Int}{us:List Value},IntsAre us ns->Vals (ns.map V.int) us
 | _,_,.nil=>.nil
 | _,_,.cons z t h=>.cons ⟨t,rfl⟩ (kR h)
section
variable {prog:Program}{w:World}{A:Around}{E:Value->Shared->Prop}{s:Shared}
theorem EG {T:String}{r d:Addr}{n:Nat}{Pv:Nat->Value->Prop}{OK:Heap->Prop}{Q:Value->Shared->Prop} (K:PySem.W.KdlSrc prog w T r d n Pv OK) (hh:A.handled=none) (hok:OK s.heap) (hn:n<64) (hl:ns.length=n)
  (hv:∀ (i:Nat) v,i<n->Pv i v->∃ m t,ns[i]?=some m/\v=.int m t)
  (k:∀ (h1 h':Heap) (tk:Nat) (out:Array Value) (ms:List Int) (c:Nat),(∀ b o,s.heap.get? b=some o->h1.get? b=some o)->(∀ b o,h1.get? b=some o->h'.get? b=some o)->h'.get? h1.objs.size=some (seqObj "list" out c)->IntsAre out.toList ms->ms.Perm ns->ms.Pairwise (·<=·)->Q (.ref h1.objs.size) { s with heap:=h',toks:=tk }) :
  wpAny (model prog w) A (call (.builtin "sorted") [.ref r]) Q E s:=by
 refine Calls.call_function_entry kind_sorted plain_sorted entry_sorted (args_sorted1 _) ?_
 unfold Builtin.«sorted»
 have hz:n<=sizeLine:=aN (bD hn (by rw[eL];omega))
 refine ar (m:=checkCount "sorted" 1 1 _) (aO (ar (PySem.W.kdu_collect (A:=A.in1) K hh hok hz fun h1 tk acc k1 hacc=>?_)))
 have la:acc.toList.length=n:=by rw[gP];exact hacc.1
 have hI:IntsAre acc.toList ns:=rZ (by rw[la,hl]) fun i v e=>hv i v (by rw[←la];exact (b9.mp e).1) (hacc.2 i v (by rw[←kS];exact e))
 generalize acc.toList=vs at hI la
 refine ar (wpAny_newList ?_ (by rw[la];exact hz))
 have gL:(h1.push (seqObj "list" vs.toArray 0)).get? h1.objs.size=some (seqObj "list" vs.toArray 0):=bL _ rfl
 refine ar (cD (wpAny_call_entry slot_list_sort ⟨_,gL,rfl⟩ entry_list_sort (list_sort_tree gL hI (by omega) fun out ms b1 b2 b3=>⟨_,rfl,aO ⟨_,rfl,?_⟩⟩) (args_list_sort _)))
 obtain⟨e1,g1⟩:∃ e1,((h1.push (seqObj "list" vs.toArray 0)).update h1.objs.size (Obj.mapSeq fun _=>#[])).get? h1.objs.size=some (seqObj "list" #[] e1):=⟨_,get?_update_seq gL fun _=>#[]⟩
 have g2:((((h1.push (seqObj "list" vs.toArray 0)).update h1.objs.size (Obj.mapSeq fun _=>#[])).push (seqObj "tuple" vs.toArray 0)).push (seqObj "list" #[] 0)).get? h1.objs.size=some (seqObj "list" #[] e1):=aW _ (aW _ g1)
 refine show Q (.ref h1.objs.size) { s with heap:=sortedHeap (h1.push (seqObj "list" vs.toArray 0)) h1.objs.size vs out,toks:=tk } from ?_
 obtain⟨c3,g3⟩:∃ c3,(sortedHeap (h1.push (seqObj "list" vs.toArray 0)) h1.objs.size vs out).get? h1.objs.size=some (seqObj "list" out c3):=⟨_,get?_update_seq g2 fun _=>out⟩
 refine k h1 _ tk out ms c3 k1 (fun b o z=>?_) g3 b1 b2 b3
 have hb:h1.objs.size≠b:=Nat.ne_of_gt (aT z)
 exact (eU _ _ hb).trans (aW _ (aW _ ((eU _ _ hb).trans (aW _ z))))
end
theorem yj (hc:X.calm=true):cW X (.builtin "sorted") Jp:=by
 intro pins s σ H xs us Q I r h
 match xs,h with
 | [.ref a],h =>
  obtain⟨kvs,ha,h64,k⟩:=h
  obtain⟨u,rfl,r2⟩:=vals1 r
  cases r2
  obtain⟨z,hd,vs,rel,dd⟩:=nT I.hok ha
  obtain⟨ep,hat⟩:=dd.dictAt
  have lv:(kvs.map fun q=>((.inl q.1,q.2):Key×V)).length=vs.length:=Paired.length rel
  rw[aj] at lv
  refine EG (ns:=kvs.map (·.1)) (PySem.W.kdl_dict (knd:=bH X.prog X.w) (kvs:=vs) (ep:=ep) hd) (I.ok.hd hc) hat (by omega) (by rw[aj];omega) (fun i v hi hP=>?_) fun h1 h' tk out ms c k1 k2 hg hS hp hs=>?_
  ·obtain⟨kk,x,e,hk⟩:=hP
   have e1:kvs[i]?=some (kvs[i]'(by omega)):=bu _
   have e2:(kvs.map fun q=>((.inl q.1,q.2):Key×V))[i]?=some (.inl (kvs[i]'(by omega)).1,(kvs[i]'(by omega)).2):=by rw[bY,e1];rfl
   obtain⟨y,ey,f1,f2⟩:=mK rel e2
   rw[e] at ey
   cases ey
   have f1':kk=.inl (kvs[i]'(by omega)).1:=f1.symm
   subst f1'
   obtain⟨t,et⟩:∃ t,v=.int (kvs[i]'(by omega)).1 t:=by
    have hk':mW (Sum.inl (kvs[i]'(by omega)).1) v=true:=hk
    rcases cS hk' with ⟨n,t,e3,e4⟩ | ⟨y,t,e3,e4⟩
    ·rw[Sum.inl.inj e3];exact⟨t,e4⟩
    ·cases e3
   exact⟨_,t,by rw[bY,e1];rfl,et⟩
  ·have I1:Inv X pins σ H { s with heap:=h1,toks:=tk }:=I.kept (t':=tk) k1
   have hn:=I1.hok.fresh (aA h1.objs.size)
   have lw:=hp.length_eq
   rw[aj] at lw
   exact⟨.ref h1.objs.size,upd H h1.objs.size (.lst (ms.map V.int)),I1.laid (t':=tk) (o:=.lst (ms.map V.int)) k2 (aA _) ⟨by rw[aj,lw];exact aN (bD h64 (by rw[eL];omega)),out.toList,c,kR hS,by rw[Array.toArray_toList];exact hg⟩,rfl,k ms hp hs _ _ hn (dY hn) aS⟩
end
section
def Gq {κ:Type} [DecidableEq κ] (kvs:List (κ×V)) (k:κ):List (κ×V):=kvs.filter fun q=>decide (q.1≠k)
theorem KV.out {kvs:List (Key×V)}{xs:List (Key×Value)} (r:KV kvs xs) (k:Key):KV (Gq kvs k) (without xs k):=by
 induction r with
 | nil=>exact .nil
 | @cons a b l₁ l₂ f t ih =>
  obtain⟨e,rv⟩:=f
  unfold Gq without at *
  by_cases h:a.1=k
  ·rw[oZ (by simp [h]),oZ (by simp [←e,h])];exact ih
  ·rw[pb (by simp [h]),pb (by simp [←e,h])];exact .cons ⟨e,rv⟩ ih
section
variable {prog:Program}{w:World}{K:Type} [DecidableEq K] {knd:HeapKind prog w K}{A:Around}{E:Value->Shared->Prop}{s:Shared}{d a:Addr}{xs:List (K×Addr×Value)}{k:K}
def Km (xs:List (K×Addr×Value)) (k:K):List (K×Addr×Value):=xs.filter fun q=>decide (q.1≠k)
end
theorem KT.out {kvs:List (List Key×V)}{xs:List (List Key×Addr×Value)} (r:KT H kvs xs) (k:List Key):KT H (Gq kvs k) (Km xs k):=by
 unfold KT at *
 induction r with
 | nil=>exact .nil
 | @cons a b l₁ l₂ f t ih =>
  have e:a.1=b.1:=f.1
  unfold Gq Km at *
  by_cases h:a.1=k
  ·rw[oZ (by simp [h]),oZ (by simp [←e,h])];exact ih
  ·rw[pb (by simp [h]),pb (by simp [←e,h])];exact .cons f ih
end
section
section
variable {prog:Program}{w:World}{A:Around}{E:Value->Shared->Prop}{s:Shared}
end
section
variable {prog:Program}{w:World}{A:Around}{E:Value->Shared->Prop}{s:Shared}
end
section
variable {X:Cx}
end
end
section
section
variable {prog:Program}{w:World}{A:Around}{E:Value->Shared->Prop}{h:Heap}{g:Array GenState}{d:Drawn}{t:Nat}{os:OsState}
variable {nm q:Str}{C N:Addr}{bs bm bmB:List Value}{hdct:Bool}{sn:List Str}{sub:List Value}{ab:Bool}{col:Option Bool}{dd:Option Addr}{k0 k1 k2 k3 k5:Option Value}{B newId initId:String}
end
section
variable {prog:Program}{w:World}{A:Around}{E:Value->Shared->Prop}{s:Shared}{K:PySem.W.Frag}{x C t:Addr}{name:Str}{v:Value}
end
abbrev JX:List Value:=[.type "ValueError",.type "Exception",.type "BaseException",.type "object"]
theorem IK {N:Addr}{m:Str->Option Value}{v:Value} (X:K.In h) (G:h.Ns N m) (q:PySem.W.nsIn K N x=some (some v)):m x=some v:=by
 obtain⟨ob,ents,pp,h1,h2,_,h3⟩:=G
 unfold PySem.W.nsIn at q
 split at q
 next c d l n sl e1 =>
  have e2:=(X _ _ e1).symm.trans h1
  cases e2
  cases h2
  split at q
  next u e3 =>
   cases q
   rw[←h3]
   unfold nsFind findBy
   rw[←Array.find?_toList,e3]
   rfl
  next=>split at q<;>cases q
 next=>cases q
structure JB (K:PySem.W.Frag) (C f:Addr):Prop where
 ex:∃ nm q N bs bm hdct sn sub ab col dd k0 k1 k2 k3 k5,K.lookup C=some (excClassObj nm q C N bs bm hdct sn sub ab col dd k0 k1 k2 k3 k5 "ValueError.__new__")/\PySem.W.nsOkIn K N=true/\PySem.W.nsIn K N "__init__"=some (some (.ref f))/\PySem.W.tailIn K JX bm=true
 fn:PySem.W.isFn K (.ref f)=true
 kp:PySem.W.keepIn K (.ref C)=true
theorem JB.at {C f:Addr} (O:JB K C f) (X:K.In h) :
  ∃ nm q N bs bm hdct sn sub ab col dd k0 k1 k2 k3 k5 mN oI,h.get? C=some (excClassObj nm q C N bs bm hdct sn sub ab col dd k0 k1 k2 k3 k5 "ValueError.__new__")/\h.Ns N mN/\mN "__init__"=some (.ref f)/\OwnTail h JX bm/\h.get? f=some oI/\oI.cls=.type "function":=by
 obtain⟨nm,q,N,bs,bm,hdct,sn,sub,ab,col,dd,k0,k1,k2,k3,k5,h1,h2,h3,h4⟩:=O.ex
 have hns:h.Ns N _:=.of_isNs (PySem.W.isNs_of_in X h2)
 have hf:PySem.W.typeIn K (.ref f)=some (.type "function"):=eK.mp O.fn
 have:∃ oI,h.get? f=some oI/\oI.cls=.type "function":=by
  have hf':(K.lookup f).map (fun o=>o.cls)=some (.type "function"):=hf
  obtain⟨o,q1,q2⟩:=fB.mp hf'
  exact⟨o,X _ _ q1,q2⟩
 obtain⟨oI,i1,i2⟩:=this
 exact⟨nm,q,N,bs,bm,hdct,sn,sub,ab,col,dd,k0,k1,k2,k3,k5,_,oI,X _ _ h1,hns,IK X hns h3,PySem.W.tail_of_in X h4,i1,i2⟩
section
variable {X:Cx}{pins:List (Addr×Obj)}{σ:St}{H:Hp}{s:Shared}
end
section
variable {P:Program}{w:World}{K:PySem.W.Frag}{mg:Str->Option Value}{base:Heap}{N:List Str}{qual:Str}{scope:Scope}{f:Addr}{cd:Value}{A:Around}{outer:List Env}{s:Shared}{H:Hp}{E:XK}
end
section
variable {X:Cx}
end
section
variable {X:Cx}
end
section
variable {X:Cx}
end
section
variable {X:Cx}
end
section
variable {X:Cx}
end
end
end L2

namespace L2
open PySem PySem.Spec PyProof.Rows PySem.W
variable {ns:List Int}
theorem Hb:∀ (f n r:Nat),r<=1->n<=f->1<=f->minRun' f n r<=64
 | 0,_,_,_,_,h=>by omega
 | f+1,n,r,hr,hn,_=>by
  rw[minRun'_succ]
  by_cases h:n<64
  ·rw[ao h];omega
  ·rw[ai h]
   exact Hb f (n/2) (max r (n%2)) (by omega) (by omega) (by omega)
theorem Kf {n:Nat} (h:1<=n):minRun' n n 0<=n:=by
 by_cases h64:n<64
 ·obtain⟨r,rfl⟩:∃ r,n=r+1:=⟨n-1,by omega⟩
  rw[minRun'_succ,ao h64];omega
 ·exact bJ (Hb n n 0 (by decide) (aA _) h) (by omega)
section
variable {prog:Program}{w:World}{A:Around}{E:Value->Shared->Prop}{κ:SortKind}{it:Array Keyed}{s:Shared}
theorem EC {n:Nat}{Q:Unit->SortSt->Shared->Prop} (h2:2<=n)
  (hG:∀ st',arrOf st'=(List.toArray (List.range n)).map (kas_item it)->failedOf st'=none->Q () st' s) (h:(kas_asc (List.toArray (List.range n)) (n-1) 1).kasWp (kas_cmp prog w A κ it) (fun m s'=>m=n/\s'=s) s) :
  kasC (model prog w) A E sortRuns' Q (kas_st κ it (List.toArray (List.range n))) s:=by
 obtain⟨r,rfl⟩:∃ r,n=r+2:=⟨n-2,by omega⟩
 have hrs:(List.toArray (List.range (r+2))).size=r+2:=by simp
 rw[sortRuns'_eq]
 refine kasC_bind (kasC_get ?_)
 dsimp only
 have hsz:(arrOf (kas_st κ it (List.toArray (List.range (r+2))))).size=r+2:=by
  show ((List.toArray (List.range (r+2))).map (kas_item it)).size=_
  rw[Array.size_map,hrs]
 have hmr:=Kf (n:=r+2) (by omega)
 simp only[hsz]
 generalize minRun' (r+2) (r+2) 0=mr at hmr
 refine kasC_bind (kasC_range ?_)
 show kasC _ _ _ (forIn (0::1::List.range' 2 r) _ _) _ _ _
 refine kasC_cons ?_
 dsimp only
 rw[ai (by omega)]
 simp only[Nat.sub_zero,Nat.zero_add]
 have hc:(kas_count (r+2) (List.toArray (List.range (r+2)))).kasWp (kas_cmp prog w A κ it) (fun q s'=>q=(r+2,List.toArray (List.range (r+2)))/\s'=s) s:=by
  unfold kas_count
  rw[KasT.kasWp_bind]
  refine kas_wp_mono h fun m s' hm=>?_
  obtain⟨rfl,rfl⟩:=hm
  rw[ao (by simp)]
  exact⟨rfl,rfl⟩
 refine kasC_bind (kas_count_ (by omega) (by rw[hrs];exact aA _) (fun m p' s' hm1 hm2 hp hg=>?_) hc)
 obtain⟨hg,rfl⟩:=hg
 injection hg with e1 e2
 subst e1 e2
 dsimp only
 rw[ai (by omega)]
 refine kasC_bind (kasC_get ?_)
 rw[show (pendingOf (kas_st κ it (List.toArray (List.range (r+2))))).back?=none from rfl]
 dsimp only
 refine kasC_bind (kasC_modify (kasC_pure ?_))
 show kasC _ _ _ (forIn (1::List.range' 2 r) _ _) _ _ _
 refine kasC_cons ?_
 dsimp only
 rw[ao (aA _)]
 refine kasC_pure ?_
 dsimp only
 refine kasC_bind (kasC_range ?_)
 show kasC _ _ _ (forIn (0::1::List.range' 2 r) _ _) _ _ _
 refine kasC_cons ?_
 refine kasC_bind (kasC_get ?_)
 rw[ao (show (pendingOf (setPending (kas_st κ it (List.toArray (List.range (r+2)))) ((pendingOf (kas_st κ it (List.toArray (List.range (r+2))))).push (0,r+2,0)))).size<=1 from aA 1)]
 refine kasC_pure ?_
 dsimp only
 exact kasC_pure (hG _ rfl rfl)
theorem zM {n:Nat}{p:Array Nat}{cmp:Nat->Nat->(Bool->Shared->Prop)->Shared->Prop} (hc:∀ j (C:Bool->Shared->Prop),1<=j->j<n->C false s->cmp (p.getD j 0) (p.getD (j-1) 0) C s):∀ (f m:Nat),1<=m->m+f=n->(kas_asc p f m).kasWp cmp (fun q s'=>q=n/\s'=s) s
 | 0,m,_,e=>⟨by omega,rfl⟩
 | f+1,m,h1,e=>hc m _ h1 (by omega) (zM hc f (m+1) (by omega) (by omega))
theorem rY:∀ {vs:List Value}{ns:List Int},IntsAre vs ns->∀ {j:Nat},j<vs.length->∃ n t,vs[j]?=some (.int n t)/\ns[j]?=some n
 | _,_,.cons n t r,0,_=>⟨n,t,rfl,rfl⟩
 | _,_,.cons n t r,j+1,h=>rY r (j:=j) (by simpa using h)
theorem EF {a:Addr}{vs:List Value}{n:Nat}{P:PySem.Fin->Shared->Prop} (ho:s.heap.get? a=some (seqObj "list" vs.toArray n)) (hI:IntsAre vs ns) (hp:ns.Pairwise (·<=·)) (hz:vs.length<=sizeLine)
  (h:P (.done (.ret .none)) { s with heap:=sortedHeap s.heap a vs vs.toArray }):wpAny (model prog w) A (Builtin.«list.sort» ⟨[.ref a],[]⟩) P E s:=by
 rw[list_sort_plain]
 have ha:a<s.heap.objs.size:=aT ho
 have hsz:vs.toArray.size=vs.length:=by simp
 refine ar (listItems_at ho rfl ?_)
 refine ar (listUpdate_at ho rfl ?_ (by omega) (bN _))
 obtain⟨e1,ho1⟩:∃ e1,(s.heap.update a (Obj.mapSeq fun _=>#[])).get? a=some (seqObj "list" #[] e1):=⟨_,get?_update_seq ho (fun _=>#[])⟩
 refine ar (seqEpoch_at ho1 rfl ?_)
 refine ar (wpAny_newTuple ?_ hz)
 refine ar (wpAny_newList ?_ (bN _))
 refine cD ?_
 have ho6:(((s.heap.update a (Obj.mapSeq fun _=>#[])).push (seqObj "tuple" vs.toArray 0)).push (seqObj "list" #[] 0)).get? a=some (seqObj "list" #[] e1):=aW _ (aW _ ho1)
 show wpAny (model prog w) A _ P E { s with heap:=((s.heap.update a (Obj.mapSeq fun _=>#[])).push (seqObj "tuple" vs.toArray 0)).push (seqObj "list" #[] 0) }
 dsimp only
 have zs:(vs.toArray.zip vs.toArray).map (·.2)=vs.toArray:=by
  apply Array.toList_inj.mp
  rw[Array.toList_map,Array.toList_zip]
  exact List.map_snd_zip (aA _)
 have fin:∀ (st':SortSt),failedOf st'=none->(arrOf st').map (·.2)=vs.toArray->wpAny (model prog w) A (do
   let touched:=(←seqEpoch a) != e1
   Builtin.List.listUpdate (.ref a) fun _=>(arrOf st').map (·.2)
   if let some e:=failedOf st' then rule "list.sort.comparison-raised";throw e
   if touched then rule "list.sort.modified";raiseError "ValueError" "list modified during sort"
   ret .none) P E { s with heap:=((s.heap.update a (Obj.mapSeq fun _=>#[])).push (seqObj "tuple" vs.toArray 0)).push (seqObj "list" #[] 0) }:=fun st' hf he=>by
  refine ar (seqEpoch_at ho6 rfl ?_)
  rw[he]
  refine ar (listUpdate_at ho6 rfl ?_ (bN _) (by omega))
  rw[hf]
  simp only[bne_self_eq_false,mQ,hV]
  exact aO h
 by_cases h2:vs.toArray.size<2
 ·rw[ao h2,ao h2]
  refine ar (aO ?_)
  rw[StateT.run_pure]
  refine ar (aO ?_)
  exact fin _ rfl zs
 ·rw[ai h2,ai h2]
  rw[hsz] at h2
  obtain⟨v₁,v₂,rest,rfl⟩:∃ v₁ v₂ rest,vs=v₁::v₂::rest:=by
   match vs,h2 with
   | [],h2=>simp at h2
   | [_],h2=>simp at h2
   | v₁::v₂::rest,_=>exact⟨v₁,v₂,rest,rfl⟩
  rw[keyKind_ints hI]
  refine ar (aO ?_)
  generalize hvs:v₁::v₂::rest=us at *
  have est:SortSt.mk' oneType' (us.toArray.zip us.toArray) #[] 7 none=kas_st oneType' (us.toArray.zip us.toArray) (List.toArray (List.range us.length)):=by
   have e:=kas_range (us.toArray.zip us.toArray)
   rw[show (us.toArray.zip us.toArray).size=us.length by simp] at e
   show SortSt.mk' oneType' (us.toArray.zip us.toArray) #[] 7 none=SortSt.mk' oneType' ((List.toArray (List.range us.length)).map (kas_item (us.toArray.zip us.toArray))) #[] 7 none
   rw[e]
  rw[est]
  have er:(List.toArray (List.range us.length)).map (kas_item (us.toArray.zip us.toArray))=us.toArray.zip us.toArray:=by
   have e:=kas_range (us.toArray.zip us.toArray)
   rwa [show (us.toArray.zip us.toArray).size=us.length by simp] at e
  have hl:=hI.length
  refine ar (bq (EC (E:=E) (Q:=fun _ st' s'=>failedOf st'=none/\(arrOf st').map (·.2)=us.toArray/\s'={ s with heap:=((s.heap.update a (Obj.mapSeq fun _=>#[])).push (seqObj "tuple" us.toArray 0)).push (seqObj "list" #[] 0) }) (by omega) (fun st' a1 a2=>⟨a2,by rw[a1,er];exact zs,rfl⟩) ?_) ?_ fun _ _ e=>e)
  ·refine zM (fun j C h1 hj hC=>?_) _ _ (aA 1) (by omega)
   have gr:∀ {j:Nat},j<us.length->(List.toArray (List.range us.length)).getD j 0=j:=fun {j} hj=>by simp [Array.getD,hj]
   rw[gr hj,gr (show j-1<us.length by omega)]
   unfold kas_cmp
   rw[kat_item rfl,kat_item rfl]
   obtain⟨n1,t1,q1,q2⟩:=rY hI (show j<us.length from hj)
   obtain⟨n0,t0,q3,q4⟩:=rY hI (show j-1<us.length by omega)
   rw[cU,cU,q1,q3]
   refine kat_lt_int ?_
   have hle:n0<=n1:=by
    obtain⟨l1,e1⟩:=b9.mp q2
    obtain⟨l0,e0⟩:=b9.mp q4
    have:=pj.mp hp (j-1) j l0 l1 (by omega)
    rw[e0,e1] at this
    exact this
   rw[aE (by omega)]
   exact hC
  ·rintro⟨⟨⟩,st'⟩ s' ⟨hf,he,rfl⟩
   exact fin st' hf he
theorem GU {T:String}{r d:Addr}{n:Nat}{Pv:Nat->Value->Prop}{OK:Heap->Prop}{Q:Value->Shared->Prop} (K:PySem.W.KdlSrc prog w T r d n Pv OK) (hh:A.handled=none) (hok:OK s.heap) (hn:n<=sizeLine) (hl:ns.length=n) (hp:ns.Pairwise (·<=·))
  (hv:∀ (i:Nat) v,i<n->Pv i v->∃ m t,ns[i]?=some m/\v=.int m t)
  (k:∀ (h1 h':Heap) (tk:Nat) (out:Array Value) (c:Nat),(∀ b o,s.heap.get? b=some o->h1.get? b=some o)->(∀ b o,h1.get? b=some o->h'.get? b=some o)->h'.get? h1.objs.size=some (seqObj "list" out c)->IntsAre out.toList ns->Q (.ref h1.objs.size) { s with heap:=h',toks:=tk }) :
  wpAny (model prog w) A (call (.builtin "sorted") [.ref r]) Q E s:=by
 refine Calls.call_function_entry kind_sorted plain_sorted entry_sorted (args_sorted1 _) ?_
 unfold Builtin.«sorted»
 refine ar (m:=checkCount "sorted" 1 1 _) (aO (ar (PySem.W.kdu_collect (A:=A.in1) K hh hok hn fun h1 tk acc k1 hacc=>?_)))
 have la:acc.toList.length=n:=by rw[gP];exact hacc.1
 have hI:IntsAre acc.toList ns:=rZ (by rw[la,hl]) fun i v e=>hv i v (by rw[←la];exact (b9.mp e).1) (hacc.2 i v (by rw[←kS];exact e))
 generalize acc.toList=vs at hI la
 refine ar (wpAny_newList ?_ (by rw[la];exact hn))
 have gL:(h1.push (seqObj "list" vs.toArray 0)).get? h1.objs.size=some (seqObj "list" vs.toArray 0):=bL _ rfl
 refine ar (cD (wpAny_call_entry slot_list_sort ⟨_,gL,rfl⟩ entry_list_sort (EF (s:={ s with heap:=h1.push (seqObj "list" vs.toArray 0),toks:=tk }) gL hI hp (by rw[la];exact hn) ⟨_,rfl,aO ⟨_,rfl,?_⟩⟩) (args_list_sort _)))
 obtain⟨e1,g1⟩:∃ e1,((h1.push (seqObj "list" vs.toArray 0)).update h1.objs.size (Obj.mapSeq fun _=>#[])).get? h1.objs.size=some (seqObj "list" #[] e1):=⟨_,get?_update_seq gL fun _=>#[]⟩
 have g2:((((h1.push (seqObj "list" vs.toArray 0)).update h1.objs.size (Obj.mapSeq fun _=>#[])).push (seqObj "tuple" vs.toArray 0)).push (seqObj "list" #[] 0)).get? h1.objs.size=some (seqObj "list" #[] e1):=aW _ (aW _ g1)
 refine show Q (.ref h1.objs.size) { s with heap:=sortedHeap (h1.push (seqObj "list" vs.toArray 0)) h1.objs.size vs vs.toArray,toks:=tk } from ?_
 obtain⟨c3,g3⟩:∃ c3,(sortedHeap (h1.push (seqObj "list" vs.toArray 0)) h1.objs.size vs vs.toArray).get? h1.objs.size=some (seqObj "list" vs.toArray c3):=⟨_,get?_update_seq g2 fun _=>vs.toArray⟩
 refine k h1 _ tk vs.toArray c3 k1 (fun b o z=>?_) g3 (by simpa using hI)
 have hb:h1.objs.size≠b:=Nat.ne_of_gt (aT z)
 exact (eU _ _ hb).trans (aW _ (aW _ ((eU _ _ hb).trans (aW _ z))))
end
def E8:List V->Hp->VK->Prop:=fun vs H Q=>match vs with
 | [.ref a]=>∃ kvs:List (Int×V),Rd H a (.dK (kvs.map fun q=>(.inl q.1,q.2)))/\(kvs.length<64∨(kvs.map (·.1)).Pairwise (·<=·))/\∀ ns:List Int,ns.Perm (kvs.map (·.1))->ns.Pairwise (·<=·)->nw H (.lst (ns.map V.int)) Q
 | _=>False
theorem B7 {a:Addr}{H:Hp}{Q:VK}:E8 [.ref a] H Q=(∃ kvs:List (Int×V),Rd H a (.dK (kvs.map fun q=>(.inl q.1,q.2)))/\(kvs.length<64∨(kvs.map (·.1)).Pairwise (·<=·))/\∀ ns:List Int,ns.Perm (kvs.map (·.1))->ns.Pairwise (·<=·)->nw H (.lst (ns.map V.int)) Q):=propext Iff.rfl
theorem yi {X:Cx} (hc:X.calm=true):cW X (.builtin "sorted") E8:=by
 intro pins s σ H xs us Q I r h
 match xs,h with
 | [.ref a],h =>
  obtain⟨kvs,ha,hor,k⟩:=h
  rcases hor with h64 | hasc
  ·exact yj hc pins s σ H _ us Q I r ⟨kvs,ha,h64,k⟩
  obtain⟨u,rfl,r2⟩:=vals1 r
  cases r2
  obtain⟨z,hd,vs,rel,dd⟩:=nT I.hok ha
  obtain⟨ep,hat⟩:=dd.dictAt
  have lv:(kvs.map fun q=>((.inl q.1,q.2):Key×V)).length=vs.length:=Paired.length rel
  rw[aj] at lv z
  refine GU (ns:=kvs.map (·.1)) (PySem.W.kdl_dict (knd:=bH X.prog X.w) (kvs:=vs) (ep:=ep) hd) (I.ok.hd hc) hat (by omega) (by rw[aj];omega) hasc (fun i v hi hP=>?_) fun h1 h' tk out c k1 k2 hg hS=>?_
  ·obtain⟨kk,x,e,hk⟩:=hP
   have e1:kvs[i]?=some (kvs[i]'(by omega)):=bu _
   have e2:(kvs.map fun q=>((.inl q.1,q.2):Key×V))[i]?=some (.inl (kvs[i]'(by omega)).1,(kvs[i]'(by omega)).2):=by rw[bY,e1];rfl
   obtain⟨y,ey,f1,f2⟩:=mK rel e2
   rw[e] at ey
   cases ey
   have f1':kk=.inl (kvs[i]'(by omega)).1:=f1.symm
   subst f1'
   obtain⟨t,et⟩:∃ t,v=.int (kvs[i]'(by omega)).1 t:=by
    have hk':mW (Sum.inl (kvs[i]'(by omega)).1) v=true:=hk
    rcases cS hk' with ⟨n,t,e3,e4⟩ | ⟨y,t,e3,e4⟩
    ·rw[Sum.inl.inj e3];exact⟨t,e4⟩
    ·cases e3
   exact⟨_,t,by rw[bY,e1];rfl,et⟩
  ·have I1:Inv X pins σ H { s with heap:=h1,toks:=tk }:=I.kept (t':=tk) k1
   have hn:=I1.hok.fresh (aA h1.objs.size)
   refine⟨.ref h1.objs.size,upd H h1.objs.size (.lst ((kvs.map (·.1)).map V.int)),I1.laid (t':=tk) (o:=.lst ((kvs.map (·.1)).map V.int)) k2 (aA _) ⟨by rw[aj,aj];exact z,out.toList,c,kR hS,by rw[Array.toArray_toList];exact hg⟩,rfl,k _ (List.Perm.refl _) hasc _ _ hn (dY hn) aS⟩
end L2

namespace L2
open PySem PySem.Spec PyProof.Rows
variable {E:St->XK}{H:Hp}{K:PySem.W.Frag}{P:Program}{Q:Value->Shared->Prop}{X:Cx}{body:List Stmt}{c:Nat}{ea:Addr}{es:List Expr}{h:Heap}{p:Pos}{tb:(St->XK)->TS}{vs:Array Value}{w:World}
section
theorem tW:entryFor table "proto.unchain"=some Builtin.«proto.unchain»:=entryFor_of_fast (by kernel_rfl)
section
variable {prog:Program}{w:World}{A:Around}{E:Value->Shared->Prop}{s:Shared}
theorem wb {e:Value}{ob:Obj} (h1:s.heap.get? ea=some ob) (h2:ob.data=.fields vs) (h3:vs[2]?=some .none) (h:Q .none s) :
  wpAny (model prog w) A (runValue (.builtin "proto.unchain" ⟨[e,.ref ea,.ref ea,.bool false],[]⟩)) Q E s:=by
 refine wpAny_runValue (kq tW ?_)
 show wpAny _ _ (field (.ref ea) 2 >>= _) _ _ s
 refine ar (wpAny_field h1 h2 h3 ?_)
 exact aO h
theorem xE {α:Type}{e ea:Addr}{o ob:Obj}{us vs:Array Value}{Q:α->Shared->Prop} (hh:A.handled=some (.ref ea)) (hne:ea≠e) (h1:s.heap.get? ea=some ob) (h2:ob.data=.fields vs) (h3:vs[2]?=some .none)
  (o1:s.heap.get? e=some o) (o2:o.data=.fields us) (o3:2<us.size) (h:E (.ref e) { s with heap:=s.heap.update e (Obj.mapFields (·.setIfInBounds 2 (.ref ea))) }) :
  wpAny (model prog w) A (raiseNew (.ref e):Sem α) Q E s:=by
 unfold raiseNew
 refine ar (wpAny_handled ?_)
 rw[hh]
 dsimp only
 rw[ao (by simp only[bne_iff_ne,ne_eq,Value.ref.injEq];exact hne)]
 refine ar (cD (wb h1 h2 h3 (ar ?_)))
 refine bq (wpAny_setField (E:=E) o1 o2 o3 (Q:=fun _ s'=>E (.ref e) s') h) (fun _ s' q=>wpAny_throw q) (fun _ _ q=>q)
end
section
variable {X:Cx}{tg:Expr}
end
section
variable {X:Cx}{pins:List (Addr×Obj)}{σ:St}{H1:Hp}{s₂:Shared}{E:Value->Shared->Prop}
end
section
variable {X:Cx}{pins:List (Addr×Obj)}{σ:St}{H:Hp}{s:Shared}
end
section
variable {X:Cx}{tg:Expr}
end
end
section
def dH (K:PySem.W.Frag) (x:Str) (st:Stmt):Prop:=∃ f fd,Fun K x x st f fd/\PySem.W.nsIn K mainGlobals x=some (some (.ref f))
def lq (K:PySem.W.Frag) (C:Addr) (m q:Str) (st:Stmt):Prop:=∃ f fd,Fun K m q st f fd/\PySem.W.findIn K (.ref C) m=some (some (.ref f))/\PySem.W.isFn K (.ref f)=true
section
variable {K:PySem.W.Frag}{x m q:Str}{st:Stmt}{f C:Addr}{oc:Value}{od an:Option Addr}{osl:Array (Option Value)}{kV doc pm cdv ct:Value}
theorem FD (a:PySem.W.nsIn K mainGlobals x=some (some (.ref f))) (l:K.lookup f=some ⟨oc,od,.func (PySem.W.fnOf x x (dD st) (cE st) (ay st) .none kV doc pm an cdv ct),osl⟩) (c:PySem.W.codeIn K cdv x=true) (k:PySem.W.keepIn K (.ref f)=true):dH K x st:=⟨f,_,rV l c k,a⟩
theorem FE (a:PySem.W.findIn K (.ref C) m=some (some (.ref f))) (i:PySem.W.isFn K (.ref f)=true) (l:K.lookup f=some ⟨oc,od,.func (PySem.W.fnOf m q (dD st) (cE st) (ay st) .none kV doc pm an cdv ct),osl⟩) (c:PySem.W.codeIn K cdv q=true) (k:PySem.W.keepIn K (.ref f)=true):lq K C m q st:=⟨f,_,rV l c k,a,i⟩
end
section
variable {P:Program}{w:World}{K:PySem.W.Frag}{h base:Heap}{mg:Str->Option Value}{k:Nat}{x m q:Str}{st:Stmt}{C:Addr}{ps:List Str}{sp:Sp}
theorem dH.fnc {CX:CXT} (X:K.In h) (G:h.Ns mainGlobals mg) (d:dH K x st) (o:∀ f fd,Fun K x x st f fd->bI P w K mg base CX k f fd ps sp)
  (b:∀ (kV doc pm:Value) (an:Option Addr) (cdv ct:Value) (us:List Value),us.length=ps.length->bindArgs (PySem.W.fnOf x x (dD st) (cE st) (ay st) .none kV doc pm an cdv ct) ⟨us,[]⟩=pure (ps.zip us)):Fnc P w K mg base CX k x ps sp:=by
 obtain⟨f,fd,F,a⟩:=d
 exact⟨f,fd,o f fd F,bO X G a,F.kp,F.binds b⟩
theorem lq.mtd (c:Cls K C) (d:lq K C m q st) (o:∀ f fd,Fun K m q st f fd->bI P w K mg base (CX1 P w) k f fd ps sp)
  (b:∀ (kV doc pm:Value) (an:Option Addr) (cdv ct:Value) (us:List Value),us.length=ps.length->bindArgs (PySem.W.fnOf m q (dD st) (cE st) (ay st) .none kV doc pm an cdv ct) ⟨us,[]⟩=pure (ps.zip us)):Mtd P w K mg base (CX1 P w) C m k ps sp:=by
 obtain⟨f,fd,F,a,i⟩:=d
 exact⟨⟨f,fd,o f fd F,⟨a,i,F.kp⟩,F.binds b⟩,c⟩
end
end
section
theorem Df (m:Nat):Str.ofString (toString ((m:Nat):Int))=tx (Mk.dgN m):=by
 rw[←iq (Str.ofString (toString ((m:Nat):Int))),PySem.W.KIN.signs_num];rfl
theorem uB {i:Int} (h0:0<=i) (h1:i<1000000000):i.natAbs.log2<1920:=by
 by_cases h:i.natAbs=0
 ·rw[h];decide
 ·exact (Nat.log2_lt h).mpr (bD (by omega:i.natAbs<2^30) (m5 (by decide) (by decide)))
def Ho:List V->Hp->VK->Prop:=fun vs H Q=>match vs with
 | [.int i]=>0<=i/\i<1000000000/\Q (.str (tx (Mk.dgN i.toNat))) H
 | _=>False
theorem Ds {i:Int}{H:Hp}{Q:VK}:Ho [.int i] H Q=(0<=i/\i<1000000000/\Q (.str (tx (Mk.dgN i.toNat))) H):=propext Iff.rfl
theorem pL :cW X (.type "str") Ho:=by
 intro pins s σ H xs us Q I r h
 match xs,h with
 | [.int i],h =>
  obtain⟨h0,h1,q⟩:=h
  obtain⟨u,rfl,ru⟩:=vals1 r
  obtain⟨t,rfl⟩:=ru
  refine PySem.P.str_of_int (uB h0 h1) ?_
  obtain⟨m,rfl⟩:=cC h0
  rw[Df]
  exact⟨.str _,H,I.tok _,⟨_,rfl⟩,q⟩
def Hg:List V->Hp->VK->Prop:=fun vs H Q=>match vs with
 | [.str z]=>∃ m:Nat,z=tx (Mk.dgN m)/\m<1000000000/\Q (.int m) H
 | _=>False
theorem Dp {z:Str}{H:Hp}{Q:VK}:Hg [.str z] H Q=(∃ m:Nat,z=tx (Mk.dgN m)/\m<1000000000/\Q (.int m) H):=propext Iff.rfl
theorem Bc :cW X (.type "int") Hg:=by
 intro pins s σ H xs us Q I r h
 match xs,h with
 | [.str z],h =>
  obtain⟨m,rfl,h1,q⟩:=h
  obtain⟨u,rfl,ru⟩:=vals1 r
  obtain⟨t,rfl⟩:=ru
  rw[←Df]
  exact PySem.W.KIN.call_num (by omega) (by omega) ⟨.int m,H,I.tok _,⟨_,rfl⟩,q⟩
abbrev TF:=St->Hp->List Nat->VK->Prop
def rFV (v:V) (acc:List Nat) (k:List Nat->Prop):Prop:=match v with
 | .str z=>(acc++z.cps.toList).length<=100000/\k (acc++z.cps.toList)
 | .int i=>0<=i/\i<1000000000/\(acc++Mk.dgN i.toNat).length<=100000/\k (acc++Mk.dgN i.toNat)
 | _=>False
theorem FJ {z:Str}{acc:List Nat}{k:List Nat->Prop}:rFV (.str z) acc k=((acc++z.cps.toList).length<=100000/\k (acc++z.cps.toList)):=propext Iff.rfl
theorem FK {i:Int}{acc:List Nat}{k:List Nat->Prop}:rFV (.int i) acc k=(0<=i/\i<1000000000/\(acc++Mk.dgN i.toNat).length<=100000/\k (acc++Mk.dgN i.toNat)):=propext Iff.rfl
def tF0:TF:=fun _ H acc Q=>Q (.str (tx acc)) H
def tFc (lit:Str) (t:TF):TF:=fun σ H acc Q=>(acc++lit.cps.toList).length<=100000/\t σ H (acc++lit.cps.toList) Q
def tFv (te:TE) (t:TF):TF:=fun σ H acc Q=>te σ H fun v H1=>rFV v acc fun acc'=>t σ H1 acc' Q
def tFN (t:TF):TE:=fun σ H Q=>t σ H [] Q
theorem JG {σ:St}{H:Hp}{acc:List Nat}{Q:VK}:tF0 σ H acc Q=Q (.str (tx acc)) H:=propext Iff.rfl
theorem JI {lit:Str}{t:TF}{σ:St}{H:Hp}{acc:List Nat}{Q:VK}:tFc lit t σ H acc Q=((acc++lit.cps.toList).length<=100000/\t σ H (acc++lit.cps.toList) Q):=propext Iff.rfl
theorem JJ {te:TE}{t:TF}{σ:St}{H:Hp}{acc:List Nat}{Q:VK}:tFv te t σ H acc Q=te σ H fun v H1=>rFV v acc fun acc'=>t σ H1 acc' Q:=propext Iff.rfl
theorem JH {t:TF}{σ:St}{H:Hp}{Q:VK}:tFN t σ H Q=t σ H [] Q:=propext Iff.rfl
section
variable {X:Cx}
def PF (X:Cx) (parts:List Expr) (t:TF):Prop:=∀ pins s σ H acc Q,Inv X pins σ H s->acc.length<=100000->t σ H acc Q->wpAny (model X.prog X.w) X.A (joinParts (tx acc) (evalEach parts X.env)) (EP X pins σ Q) X.xe s
theorem fits {acc:List Nat} (h:acc.length<=100000):(tx acc).length<=sizeLine:=by rw[aJ,eL];omega
theorem KQ (acc:List Nat) (z:Str):tx acc++z=tx (acc++z.cps.toList):=by rw[←cy,iq]
theorem zf:PF X [] tF0:=fun pins s σ H acc Q I hl h=>PyProof.Rows.joinParts_nil ⟨.str _,H,I.tok _,⟨_,rfl⟩,h⟩ (fits hl)
theorem pV {lit:Str}{k:Nat}{t:TF} (h:PF X es t):PF X (.Constant (.str lit) k p::es) (tFc lit t):=by
 intro pins s σ H acc Q I hl q
 refine PyProof.Rows.joinParts_consE (PyProof.Rows.joinParts_cons (pB ?_))
 show (tx acc++lit).length<=sizeLine/\wpAny _ _ (joinParts (tx acc++lit) _) _ _ _
 rw[KQ]
 exact⟨fits q.1,h pins _ σ H _ Q (I.tok _) q.1 q.2⟩
theorem nz {e:Expr}{te:TE}{t:TF} (he:PE X e te) (h:PF X es t):PF X (.FormattedValue e (-1) none p::es) (tFv te t):=by
 intro pins s σ H acc Q I hl q
 refine PyProof.Rows.joinParts_consE (PyProof.Rows.joinParts_cons (PyProof.Rows.FormattedValue_plain (thn (he pins _ σ H _ I q) fun u s1 ⟨x,H1,I1,rx,q1⟩=>?_)))
 replace q1:rFV x acc fun acc'=>t σ H1 acc' Q:=q1
 unfold rFV at q1
 split at q1
 next z =>
  obtain⟨l1,q2⟩:=q1
  obtain⟨tk,rfl⟩:=(show ∃ t,u=Value.str z t from rx)
  have hz:z.length<=sizeLine:=by
   have:z.cps.toList.length=z.length:=by show _=z.cps.size;simp
   rw[ah] at l1
   rw[eL];omega
  refine PyProof.Rows.formatField_str (fun t' tk=>?_) hz
  show (tx acc++z).length<=sizeLine/\wpAny _ _ (joinParts (tx acc++z) _) _ _ _
  rw[KQ]
  exact⟨fits l1,h pins _ σ H1 _ Q (I1.tok _) l1 q2⟩
 next i =>
  obtain⟨h0,h1,l1,q2⟩:=q1
  obtain⟨tk,rfl⟩:=(show ∃ t,u=Value.int i t from rx)
  refine PyProof.Rows.formatField_int_small (uB h0 h1) ?_
  obtain⟨m,rfl⟩:=cC h0
  rw[Df]
  show (tx acc++tx (Mk.dgN m)).length<=sizeLine/\wpAny _ _ (joinParts (tx acc++tx (Mk.dgN m)) _) _ _ _
  rw[cy]
  exact⟨fits l1,h pins _ σ H1 _ Q (I1.tok _) l1 q2⟩
 next=>exact q1.elim
theorem Ep {a b:Expr}{pos:Pos}{t:TF} (h:PF X (a::b::es) t):PE X (.JoinedStr (a::b::es) pos) (tFN t) :=
 fun pins s σ H Q I q=>PyProof.Rows.JoinedStr_many (h pins s σ H [] Q I (bN _) q)
end
theorem subAt_one (l:List Nat) (c i:Nat):Builtin.Str.subAt (tx l) (tx [c]) i=decide (l[i]?=some c):=by
 unfold Builtin.Str.subAt
 show (l.toArray.extract i (i+1)==#[c])=_
 rw[ph,eK,bP]
 constructor
 ·intro h
  have:=aG Array.toList h
  simp only[Array.toList_extract,List.extract_eq_take_drop] at this
  rw[show i+1-i=1 by omega] at this
  cases e:l.drop i with
  | nil=>rw[e] at this;simp at this
  | cons x r =>
   rw[e] at this
   have e2:l[i]?=some x:=by
    have:=aG (fun l=>l[0]?) e
    simpa using this
   simp at this
   rw[e2,this]
 ·intro h
  apply Array.ext'
  simp only[Array.toList_extract,List.extract_eq_take_drop]
  rw[show i+1-i=1 by omega]
  obtain⟨hi,e⟩:=b9.mp h
  rw[List.drop_eq_getElem_cons hi,e]
  rfl
theorem vv (l:List Nat) (c n:Nat):∀ (suf:List Nat) (i:Nat) (acc:List Nat) (free:Nat),free<=i->l.drop i=suf →
  (forIn (List.range' i (suf.length+1)) (acc.toArray,free) (StrLaws.occBody (tx l) (tx [c]) l.length n)).run.fst.toList=acc++(Mk.oz c i suf).take (n-acc.length)
 | [],i,acc,free,hf,hd=>by
  have hl:l.length<=i:=by simpa using hd
  rw[show List.range' i (([]:List Nat).length+1)=[i] from rfl,List.forIn_cons]
  unfold StrLaws.occBody
  have:¬ ((((acc.toArray,free).fst.size<n/\(acc.toArray,free).snd<=i)/\i+(tx [c]).length<=l.length)/\Builtin.Str.subAt (tx l) (tx [c]) i=true):=fun h=>by
   have h2:i+1<=l.length:=h.1.2
   omega
  rw[ai this]
  simp [Mk.oz]
 | x::suf,i,acc,free,hf,hd=>by
  have hi:i<l.length:=by
   have:=aG List.length hd
   simp at this
   omega
  have hx:l[i]?=some x:=by
   have:=aG (fun l=>l[0]?) hd
   simpa using this
  have hd':l.drop (i+1)=suf:=by
   have:=aG List.tail hd
   simpa using this
  rw[show List.range' i ((x::suf).length+1)=i::List.range' (i+1) (suf.length+1) from rfl,List.forIn_cons]
  unfold StrLaws.occBody
  rw[subAt_one,hx]
  by_cases h:acc.length<n/\x=c
  ·have c1:(((acc.toArray,free).fst.size<n/\(acc.toArray,free).snd<=i)/\i+(tx [c]).length<=l.length)/\decide (some x=some c)=true:=⟨⟨⟨by simpa using h.1,hf⟩,hi⟩,by rw[h.2];simp⟩
   rw[ao c1]
   have ih:=vv l c n suf (i+1) (acc++[i]) (i+1) (aA _) hd'
   have e:(acc++[i]).toArray=acc.toArray.push i:=by simp
   rw[e] at ih
   refine Eq.trans ih ?_
   rw[Mk.oz,ao h.2,ah,gU]
   obtain⟨m,hm⟩:∃ m,n-acc.length=m+1:=⟨n-acc.length-1,by omega⟩
   rw[hm,pk,show n-(acc.length+[i].length)=m by simp;omega]
   rfl
  ·have c2:¬ ((((acc.toArray,free).fst.size<n/\(acc.toArray,free).snd<=i)/\i+(tx [c]).length<=l.length)/\decide (some x=some c)=true):=fun q=>h ⟨by simpa using q.1.1.1,by simpa using q.2⟩
   rw[ai c2]
   have ih:=vv l c n suf (i+1) acc free (by omega) hd'
   refine Eq.trans ih ?_
   rw[Mk.oz]
   by_cases hx2:x=c
   ·have:n-acc.length=0:=by
     rcases Nat.lt_or_ge acc.length n with z | z
     ·exact absurd ⟨z,hx2⟩ h
     ·omega
    rw[this,List.take_zero,List.take_zero]
   ·rw[ai hx2]
theorem Au (l:List Nat) (c n:Nat):Builtin.Str.occurrences (tx l) (tx [c]) 0 (tx l).length n=(Mk.oz c 0 l).take n:=by
 rw[StrLaws.occ_eq,aJ]
 have:=vv l c n l 0 [] 0 (aA _) rfl
 simpa using this
theorem uG (l:List Nat):∀ (cuts:List Nat) (i:Nat),((i::cuts.map (·+1)).zip (cuts++[l.length])).map (fun (a,b)=>Builtin.Str.strSub (tx l) a b)=(Mk.ym l i cuts).map tx
 | [],i=>by
  show [Builtin.Str.strSub (tx l) i l.length]=[tx (l.drop i)]
  congr 1
  unfold Builtin.Str.strSub tx
  congr 1
  apply Array.ext'
  simp
  exact dZ (by simp)
 | q::qs,i=>by
  have ih:=uG l qs (q+1)
  show Builtin.Str.strSub (tx l) i q::_=tx ((l.drop i).take (q-i))::(Mk.ym l (q+1) qs).map tx
  rw[←ih]
  congr 1
  unfold Builtin.Str.strSub tx
  congr 1
  apply Array.ext'
  simp
theorem xx (l:List Nat) (c n:Nat):Builtin.Str.partsBetween (tx l) (Builtin.Str.occurrences (tx l) (tx [c]) 0 (tx l).length n) 1=(Mk.bZ c n [] l).map tx:=by
 rw[Au]
 unfold Builtin.Str.partsBetween
 rw[aJ,uG]
 congr 1
 exact Mk.yn l n l [] [] rfl
def AJ:V->List V->Hp->VK->Prop:=fun x vs H Q=>match x,vs with
 | .str z,[.str y,.int k]=>z.length<=100000/\1<=k/\k<=1000/\∃ c,y=tx [c]/\nw H (.lst ((Mk.bZ c k.toNat [] z.cps.toList).map fun w=>.str (tx w))) Q
 | _,_=>False
theorem yJ {z y:Str}{k:Int}{H:Hp}{Q:VK}:AJ (.str z) [.str y,.int k] H Q=(z.length<=100000/\1<=k/\k<=1000/\∃ c,y=tx [c]/\nw H (.lst ((Mk.bZ c k.toNat [] z.cps.toList).map fun w=>.str (tx w))) Q):=propext Iff.rfl
theorem DM {l:List Nat} (hc:c∈l) (h:Builtin.Str.strKind (tx l)<Builtin.Str.strKind (tx [c])):False:=by
 unfold Builtin.Str.strKind at h
 have e1:(tx [c]).cps.all (·<256)=decide (c<256):=by simp [tx]
 have e2:(tx [c]).cps.all (·<65536)=decide (c<65536):=by simp [tx]
 have f1:(tx l).cps.all (·<256)=true->c<256:=fun h=>by simp [tx] at h;exact h c hc
 have f2:(tx l).cps.all (·<65536)=true->c<65536:=fun h=>by simp [tx] at h;exact h c hc
 rw[e1,e2] at h
 generalize (tx l).cps.all (·<256)=p at h f1
 generalize (tx l).cps.all (·<65536)=q at h f2
 cases p<;>cases q<;>by_cases h1:c<256<;>by_cases h2:c<65536<;>simp [h1,h2] at h f1 f2
theorem xS {prog:Program}{w:World}{A:Around}{E:Value->Shared->Prop}{s:Shared}{l:List Nat}{c:Nat}{k:Int}{t u v:Tok}{Q:Value->Shared->Prop} (hsz:l.length<=100000) (hk:1<=k/\k<=1000)
  (h:∀ (ps:List (Str×Tok)) (m:Nat),ps.map (fun p=>p.1)=(Mk.bZ c k.toNat [] l).map tx->ps.length<=1001->Q (.ref s.heap.objs.size) { s with heap:=s.heap.push { cls:=.type "list",data:=.seq (strValues ps).toArray },toks:=m }) :
  wpAny (model prog w) A (call (.builtin "str.split") [.str (tx l) t,.str (tx [c]) u,.int k v]) Q E s:=by
 have hk2:(decide (k < -(2^63:Int))||decide (k≥2^63))=false:=by
  rw[Bool.or_eq_false_iff,decide_eq_false_iff_not,decide_eq_false_iff_not]
  omega
 have hlim:limitOf (tx l) k=k.toNat:=ai (by omega)
 have hp:=xx l c k.toNat
 have lo:=StrLaws.occ_length_le (tx l) (tx [c]) 0 (tx l).length k.toNat
 have key:(occs:c∉l)->(Mk.bZ c k.toNat [] l).map tx=[tx l]:=fun occs=>by rw[Mk.jo _ _ _ occs];rfl
 obtain⟨raising,tree⟩:=split_sep_max_tree (tx l) (tx [c]) k t u v hk2
 have one:c∉l->∀ m,Q (.ref s.heap.objs.size) { s with heap:=s.heap.push { cls:=.type "list",data:=.seq #[.str (tx l) t] },toks:=m }:=fun hc m=>h [(tx l,t)] m (by rw[key hc];rfl) (by show 1<=1001;decide)
 cases h1:(decide ((tx l).length<(tx [c]).length)||decide (Builtin.Str.strKind (tx l)<Builtin.Str.strKind (tx [c]))) with
 | true =>
  have hc:c∉l:=fun hc=>by
   rw[Bool.or_eq_true,bP,bP,aJ,aJ] at h1
   have:=List.length_pos_of_mem hc
   rcases h1 with h1 | h1
   ·simp at h1;rw[h1] at hc;cases hc
   ·exact DM hc h1
  refine wpAny_call_entry ka (fc s (tx l) t) mS ?_ (F.args_str_split_3 _ _ _)
  rw[tree,h1,ao rfl]
  exact ar (wpAny_rule (ar (wpAny_newList (aO ⟨_,rfl,one hc s.toks⟩) (by show 1<=sizeLine;decide))))
 | false =>
  cases hf:(Builtin.Str.occurrences (tx l) (tx [c]) 0 (tx l).length (limitOf (tx l) k)).isEmpty with
  | true =>
   have hc:c∉l:=by
    rw[hlim,Au,List.isEmpty_iff] at hf
    refine Mk.xB 0 l ?_
    obtain⟨m,hm⟩:∃ m,k.toNat=m+1:=⟨k.toNat-1,by omega⟩
    rw[hm] at hf
    cases e:Mk.oz c 0 l with
    | nil=>rfl
    | cons a b=>rw[e,pk] at hf;cases hf
   refine wpAny_call_entry ka (fc s (tx l) t) mS ?_ (F.args_str_split_3 _ _ _)
   rw[tree,h1,ai (by decide),ai (by rw[aJ];simp),hf,ao (by rfl)]
   exact ar (wpAny_rule (ar (wpAny_newList (aO ⟨_,rfl,one hc s.toks⟩) (by show 1<=sizeLine;decide))))
  | false =>
   have hp':Builtin.Str.partsBetween (tx l) (Builtin.Str.occurrences (tx l) (tx [c]) 0 (tx l).length (limitOf (tx l) k)) 1=(Mk.bZ c k.toNat [] l).map tx:=by rw[hlim];exact hp
   rw[←hlim] at lo
   have l2:(Builtin.Str.partsBetween (tx l) (Builtin.Str.occurrences (tx l) (tx [c]) 0 (tx l).length (limitOf (tx l) k)) 1).length<=1001:=by
    unfold Builtin.Str.partsBetween
    rw[aj,List.length_zip,ag,aj]
    rw[hlim] at lo ⊢
    omega
   refine gx ka (fc s (tx l) t) mS (F.args_str_split_3 _ _ _) (meets_str_split_sep_max (tx l) (tx [c]) k t u v hk2 h1 (by rw[aJ];rfl) hf (by rw[aJ,eL];omega) (by rw[eL];exact bJ l2 (by decide))) ?_
   show Q _ _
   rw[strsFrom_eq]
   refine h _ _ ((numbered_texts _ _).trans hp') ?_
   have:=aG List.length (numbered_texts s.toks (Builtin.Str.partsBetween (tx l) (Builtin.Str.occurrences (tx l) (tx [c]) 0 (tx l).length (limitOf (tx l) k)) 1))
   rw[aj] at this
   rw[show (tx [c]).length=1 from rfl,this]
   exact l2
theorem BV :MtM X "str.split" AJ:=by
 intro pins s σ H x vs v us Q I rx rv h
 match x,vs,h with
 | .str z,[.str y,.int k],h =>
  obtain⟨hz,k1,k2,c,rfl,q⟩:=h
  obtain⟨t,rfl⟩:=rx
  obtain⟨u1,u2,rfl,r1,r2⟩:=rv.two
  obtain⟨t2,rfl⟩:=r1
  obtain⟨t3,rfl⟩:=r2
  have hl:z.cps.toList.length<=100000:=by rw[show z.cps.toList.length=z.length from by show _=z.cps.size;simp];exact hz
  have:=xS (prog:=X.prog) (w:=X.w) (A:=X.A) (E:=X.xe) (s:=s) (c:=c) (t:=t) (u:=t2) (v:=t3) (Q:=EP X pins σ Q) hl ⟨k1,k2⟩ fun ps m e lp=>?_
  ·rw[iq] at this;exact this
  have r:=qj ps
  rw[e,aK] at r
  refine⟨.ref s.heap.objs.size,_,I.laid (t':=m) (o:=.lst ((Mk.bZ c k.toNat [] z.cps.toList).map fun w=>.str (tx w))) (fun b ob q=>aW _ q) (aA _) ⟨?_,_,0,r,bL _ rfl⟩,rfl,q.go _ (I.hok.fresh (aA _))⟩
  have:=aG List.length e
  rw[aj,aj] at this
  rw[aj,←this,eL]
  exact bJ lp (by decide)
structure TyI (K:PySem.W.Frag) (C:Addr):Prop where
 a:PySem.W.findIn K (.ref C) "__class__"=some (some (.builtin "object.__class__"))
 b:PySem.W.specialIn K (.builtin "object.__class__") "__get__"=some (some (.builtin "getset_descriptor.__get__"))
 c:PySem.W.takesIn K (.builtin "object.__class__")=some true
 d:PySem.W.mroIn K C (.type "object")=some true
 e:PySem.W.kitOne K (.ref C) (.ref C)=some true
theorem TyI.ty {C a dx:Addr}{fs:List (Str×V)} (T:TyI K C) (cl:Cls K C) (e:H a=some (.ins C dx fs)):TyX K H (.ref a) (.ref C):=.inl (.ins e cl T.a T.b T.c T.d)
end
section
section
variable {prog:Program}{w:World}{A:Around}{E:Value->Shared->Prop}{s:Shared}{env:Env}
variable {nm q:Str}{C N:Addr}{bs bm bmB:List Value}{hdct:Bool}{sn:List Str}{sub:List Value}{ab:Bool}{col:Option Bool}{dd:Option Addr}{k0 k1 k2 k3 k5:Option Value}{newId:String}
theorem zq {x c:Sem Value}{Q:Flow->Shared->Prop} (hc:∀ (R:Value->Shared->Prop) (s:Shared),R .none s->wpAny (model prog w) A c R E s) (hbase:bm.contains (.type "BaseException")=true) (hh:A.handled=some (.ref ea))
  (k:wpAny (model prog w) A x (fun v s₁=>∃ e t,v=.ref e/\s₁.heap.get? C=some (excClassObj nm q C N bs bm hdct sn sub ab col dd k0 k1 k2 k3 k5 newId)/\s₁.heap.get? e=some { cls:=.ref C,data:=.fields #[.ref t,.none,.none,.none,.bool false,.none] }/\ea≠e ∧
   (∃ ob vs,s₁.heap.get? ea=some ob/\ob.data=.fields vs/\vs[2]?=some .none)/\∀ h',(∀ b o,b≠e->s₁.heap.get? b=some o->h'.get? b=some o)->h'.get? e=some { cls:=.ref C,data:=.fields #[.ref t,.none,.ref ea,.none,.bool true,.none] }->E (.ref e) { s₁ with heap:=h' }) E s) :
  wpAny (model prog w) A (raiseStmt env (some x) (some c)) Q E s:=by
 have has:(Value.ref C::bm).contains (.type "BaseException")=true:=by rw[List.contains_cons,hbase,Bool.or_true]
 unfold raiseStmt
 refine ar (bq k (fun v s₁ z=>?_) fun _ _ z=>z)
 obtain⟨e,t,rfl,hC,he,hne,⟨ob,vs,h1,h2,h3⟩,hE⟩:=z
 obtain⟨hp,g,d,tk,os⟩:=s₁
 refine ar (cD (hc _ _ ?_))
 repeat (first | with_reducible refine wpAny_loadPart_at he ?_ | with_reducible refine wpAny_loadPart_at hC ?_ | (with_reducible refine wpAny_isSubtype_exc hC ?_;rw[has]) | wp_step)
 have nCe:C≠e:=fun z=>by rw[z] at hC;rw[hC] at he;cases he
 have up:∀ (f g:Obj->Obj) (b:Addr) (o:Obj),b≠e->hp.get? b=some o->((hp.update e f).update e g).get? b=some o:=fun f g b o hb z=>(eU _ _ (Ne.symm hb)).trans ((eU _ _ (Ne.symm hb)).trans z)
 have he2:((hp.update e (Obj.mapFields fun x=>x.setIfInBounds 3 Value.none)).update e (Obj.mapFields fun x=>x.setIfInBounds 4 (Value.bool true))).get? e=some { cls:=.ref C,data:=.fields #[.ref t,.none,.none,.none,.bool true,.none] }:=kb _ (kb _ he rfl) rfl
 have hC2:=up (Obj.mapFields fun x=>x.setIfInBounds 3 Value.none) (Obj.mapFields fun x=>x.setIfInBounds 4 (Value.bool true)) C _ nCe hC
 have h12:=up (Obj.mapFields fun x=>x.setIfInBounds 3 Value.none) (Obj.mapFields fun x=>x.setIfInBounds 4 (Value.bool true)) ea _ hne h1
 have keep:∀ b o,b≠e->hp.get? b=some o->((hp.update e (Obj.mapFields fun x=>x.setIfInBounds 3 Value.none)).update e (Obj.mapFields fun x=>x.setIfInBounds 4 (Value.bool true))).get? b=some o:=fun b o=>up _ _ b o
 generalize (hp.update e (Obj.mapFields fun x=>x.setIfInBounds 3 Value.none)).update e (Obj.mapFields fun x=>x.setIfInBounds 4 (Value.bool true))=h2' at he2 hC2 h12 keep
 refine wpAny_loadPart_at hC2 (aO ?_)
 refine aO ?_
 show wpAny _ _ (setFlight (.ref e) none >>= fun _=>raiseNew (.ref e)) _ _ _
 unfold setFlight
 repeat (first | with_reducible refine wpAny_loadPart_at he2 ?_ | wp_step)
 refine xE hh hne h12 h2 h3 he2 rfl (show 2<6 by decide) (hE _ (fun b o hb z=>(eU _ _ (Ne.symm hb)).trans (keep b o hb z)) (kb _ he2 rfl))
end
def CX2 (P:Program) (w:World):CXT:=fun outer H s E e s'=>∃ (ea C t:Addr) (B:Heap) (H':Hp),e=.ref ea/\s'.os=s.os/\AllBare s'.gens/\Un (frs outer) [] H H' s.heap s'.heap/\HOk P w H' s'.heap ∧
 Heap.FlyingW B outer ea (.ref C) (.ref t) s'.heap/\(∃ oe,s'.heap.get? ea=some oe/\oe.dict=none) ∧
 (∀ b o,s'.heap.get? b=some o->b∉frs outer->(H' b≠none∨∃ u,s.heap.get? b=some u)->B.get? b=some o)/\E (.ref C) none H'
def qY (X:Cx) (E:St->XK):Prop:=∀ (pins:List (Addr×Obj)) (σ:St) (H:Hp) (s:Shared) (h1:Heap) (e C t:Addr) (oe:Obj) (vs:Array Value),Inv X pins σ H s->(∀ b o,s.heap.get? b=some o->h1.get? b=some o)->s.heap.get? e=none →
 h1.get? e=some oe->oe.cls=.ref C->oe.dict=none->oe.data=.fields vs->vs[0]?=some (.ref t)->vs[1]?=some .none->E σ (.ref C) none H->X.xe (.ref e) { s with heap:=h1 }
theorem qY.one (r:qY X E):yd X E:=fun pins σ H s h1 e C vs I hx hE=>by
 obtain⟨t,a,_,_⟩:=hx.there
 exact r pins σ H s h1 e C t _ _ I hx.keeps hx.new a rfl rfl rfl rfl rfl hE
section
variable {P:Program}{w:World}{K:PySem.W.Frag}{mg:Str->Option Value}{base:Heap}{N:List Str}{qual:Str}{scope:Scope}{f:Addr}{cd:Value}{A:Around}{outer:List Env}{s:Shared}{H:Hp}{E:XK}
theorem n4:qY (nR (CX2 P w) P w K mg base N qual scope f cd A outer s H E) (fun _=>E):=by
 intro pins σ H1 s1 h1 e C t oe vs I keep hn het hcl hdi hda v0 v1 hE
 show wpAny _ _ _ _ _ _
 have hin:∀ env∈(envOfC qual scope s.heap.objs.size f cd::outer),∀ b,env.frame=some b->b∈frs (envOfC qual scope s.heap.objs.size f cd::outer):=fun env he b hb=>pf.mpr ⟨env,he,hb⟩
 have st:(PySem.W.hideAll s1.heap (frs (envOfC qual scope s.heap.objs.size f cd::outer))).StaysIn h1:=fun b o q=>keep b o (pC _ q)
 have ff:h1.FunFrames (PySem.W.hideAll s1.heap (frs (envOfC qual scope s.heap.objs.size f cd::outer))) (envOfC qual scope s.heap.objs.size f cd::outer):=(PySem.W.funFrames_hide I.stack hin).of_keeps fun b o hb _=>⟨o,keep b o hb,rfl⟩
 have hen:(PySem.W.hideAll s1.heap (frs (envOfC qual scope s.heap.objs.size f cd::outer))).get? e=none:=by
  cases q:(PySem.W.hideAll s1.heap (frs (envOfC qual scope s.heap.objs.size f cd::outer))).get? e with
  | none=>rfl
  | some o=>have:=pC _ q;rw[hn] at this;cases this
 refine bq (KD.any (s:={ s1 with heap:=h1 }) (E:=fun _ _=>False) (ni _ _) (wpAny_leaving_firstW (s:={ s1 with heap:=h1 }) (a0:=.ref t) (oe:=oe) (Q:=fun _ s''=>∃ h',s''={ s1 with heap:=h' }/\Heap.FlyingW (PySem.W.hideAll s1.heap (frs (envOfC qual scope s.heap.objs.size f cd::outer))) outer e (.ref C) (.ref t) h'/\h1.UpToSlots h') I.ok.frames ff rfl het st hen hda v1 v0 fun h' hL=>?_)) ?_ (fun _ _ z=>False.elim z.1)
 ·obtain⟨k1,⟨_,_,k2⟩,k3,k4⟩:=hL
  rw[hcl] at k3
  exact⟨h',rfl,⟨k1,hen,k2,k3⟩,k4⟩
 rintro _ s'' ⟨⟨h',rfl,x1,x4⟩,dk⟩
 obtain⟨u1,u2,u3⟩:=rM (h':=h') I rfl rfl rfl x1.1 ((Heap.UpToSlots.of_keeps keep).trans x4) (fun b o e1 e2 _=>PySem.W.hideAll_get _ e1 e2)
 obtain⟨oe',hoe',_,hd',_⟩:=dk e _ het
 exact⟨e,C,t,_,H1,rfl,I.os,I.bare,u1,u2,x1,⟨oe',hoe',hd'.trans hdi⟩,u3,hE⟩
theorem Fun.Lg {x qual:Str}{st:Stmt}{f:Addr}{fd:FuncData}{N ps:List Str}{k:Nat}{sp:Sp} (F:Fun K x qual st f fd) (S:aL N ps (ay st)) (len:∀ vs H Q E,sp vs H Q E->vs.length=ps.length)
  (hbody:∀ (cdv:Value) (A:Around) (outer:List Env) (s:Shared) (H:Hp) (vs:List V) (Q:VK) (E:XK),dI k (A.deeper (envOfC qual (ay st) s.heap.objs.size f cdv))->sp vs H Q E →
   ∃ t,PSs (nR (CX2 P w) P w K mg base N qual (ay st) f cdv A outer s H E) (cE st) t/\t { nx:=fun _ H'=>Q .non H',rt:=Q } (start N vs) H):bI P w K mg base (CX2 P w) (k+1) f fd ps sp:=by
 obtain⟨oc,od,kV,doc,pm,an,cdv,ct,osl,rfl,lk,hcd⟩:=F.ex
 exact uw lk hcd S len fun A outer s H vs Q E hr hsp=>hbody cdv A outer s H vs Q E hr hsp
end
def Hu (K:PySem.W.Frag) (tb:(St->XK)->TS) (CE C:Addr) (E:St->XK):TS:=fun D σ H=>tb (fun σ' c d H'=>PySem.W.exmOne K c (.ref CE)=some true/\∀ H2,aD H' H2->E σ' (.ref C) none H2) D σ H
theorem F0 {K:PySem.W.Frag}{tb:(St->XK)->TS}{CE C:Addr}{E:St->XK}{D:Ends}{σ:St}{H:Hp}:Hu K tb CE C E D σ H=tb (fun σ' c d H'=>PySem.W.exmOne K c (.ref CE)=some true/\∀ H2,aD H' H2->E σ' (.ref C) none H2) D σ H:=propext Iff.rfl
section
variable {X:Cx}
theorem GH {body:List Stmt}{x y:Str}{CE C:Addr}{np hpos pos np2 cpos kp kpos rpos:Pos}{kn:Nat}{str:Const}{v:V}{E:St->XK}{tb:(St->XK)->TS}{newId initId B':String}{bmB:List Value} (FB:ExcBaseFacts B' newId initId bmB) (hq:PySem.W.excIn X.K C bmB newId=true)
  (hst:X.stack=X.env::X.outer) (hf:X.env.frame=some X.env.locals) (hex:X.ex=[]) (hm:X.mg x=some (.ref CE)) (hm2:X.mg y=some (.ref C)) (hrx:qY X E) (hpo:∀ hd,PassesOwnAt (model X.prog X.w) (X.A.mark hd) X.A X.env X.xe)
  (hb:∀ (pn:List (Addr×Obj)) (xe:Value->Shared->Prop) (E:St->XK),PassesOwn (model X.prog X.w) X.A X.env xe->Passes (CX1 X.prog X.w) { X with pn:=pn,xe:=xe } E->PSs { X with pn:=pn,xe:=xe } body (tb E))
  (ha:∀ ea:Addr,PA { X with A:=X.A.mark (some (.ref ea)),calm:=false,xe:=fun _ _=>False } [.Constant str kn kpos] (oT (tC v) xU))
  (hg:X.env.kindOf x=some .globalImplicit:=by kernel_rfl) (hd:(x==("__debug__":Str))=false:=by kernel_rfl) (hg2:X.env.kindOf y=some .globalImplicit:=by kernel_rfl) (hd2:(y==("__debug__":Str))=false:=by kernel_rfl) :
  PS X (.Try body [.ExceptHandler (some (.Name x np)) none [.Raise (some (.Call (.Name y np2) [.Constant str kn kpos] [] cpos)) (some (.Constant .none 0 kp)) rpos] hpos] [] [] pos) (Hu X.K tb CE C E):=by
 intro pins s σ H D I h
 refine wpAny_Try_except ?_
 refine bq (hb (X.pn++pins) _ _ PassesOwn.looking ?_ [] s σ H D I.Kp h) ?_ (fun e s1 he=>he)
 ·intro pins' σ' H1 s1 e s' I' hcx
  obtain⟨ea,C0,t,B,H',d,rfl,os,bare,un,hok,fl,⟨oe,hoe,hdo⟩,hdx,hkb,htrue,hE⟩:=hcx
  have IX:Inv X pins σ' H1 s1:=I'.jw
  have I2:Inv X pins σ' H' s':=IX.uk (ch:=[]) os un hok bare (fun b z=>absurd z (by simp))
  have hfr:∀ b∈frs X.stack,∃ o,s'.heap.get? b=some o/\∀ vs,o.data≠.fields vs:=fun b hb=>(I2.stack.mem hb).2
  have hff:∀ b∈frs X.stack,H' b=none:=I2.oR
  obtain⟨oe0,vs0,hoe0,_,hdat0,_⟩:=fl.first
  have nfr:ea∉frs X.stack:=fun z=>by
   obtain⟨o,e1,e2⟩:=hfr ea z
   rw[hoe0] at e1;cases e1;exact e2 _ hdat0
  have hea:H' ea=none:=by
   cases q:H' ea with
   | none=>rfl
   | some o=>have:=hkb ea oe hoe nfr (.inl (by rw[q];simp));rw[fl.2.1] at this;cases this
  have new1:s1.heap.get? ea=none:=by
   cases q:s1.heap.get? ea with
   | none=>rfl
   | some o=>have:=hkb ea oe hoe nfr (.inr ⟨o,q⟩);rw[fl.2.1] at this;cases this
  have new0:X.s₀.heap.get? ea=none:=by
   cases q:X.s₀.heap.get? ea with
   | none=>rfl
   | some o =>
    obtain⟨o2,e2⟩:=IX.base.there ea o q (by rw[hex];simp)
    rw[new1] at e2;cases e2
  have mk:∀ h6,Heap.FlyingW B X.stack ea (.ref C0) (.ref t) h6->s'.heap.UpToSlots h6->(∃ o6,h6.get? ea=some o6/\XD o6 d)->Inv X pins σ' (upd H' ea (yL ea (.ref C0) d)) { s' with heap:=h6 }:=by
   intro h6 f6 sm6 ⟨o6,e6,d6⟩
   have J:Inv X pins σ' H' { s' with heap:=h6 }:=IX.uk (s':={ s' with heap:=h6 }) (ch:=[]) os (AR un hkb f6.1 sm6 hfr) (wR hok hkb f6.1 hff) bare (fun b z=>absurd z (by simp))
   obtain⟨o7,v7,e7,c7,t7,_⟩:=f6.first
   rw[e6] at e7
   cases e7
   refine J.HE hea new0 (fun z=>?_) (fun y c e z=>?_) (fun p hp z=>?_) (FQ e6 c7 d6)
   ·obtain⟨m,⟨ob,_,_,e9,_⟩,_⟩:=IX.loc
    rw[←z,new1] at e9;cases e9
   ·obtain⟨w9,o9,e9,_⟩:=IX.cell y c e
    rw[z,new1] at e9;cases e9
   ·have e9:=(IX.pin p hp).1
    rw[z,new1] at e9;cases e9
  refine bq (KD.any (E:=fun _ _=>False) (vm _ _) (wpAny_looks_onW (Q:=fun _ s''=>∃ h4,s''={ s' with heap:=h4 }/\Heap.HeldW B X.stack ea (.ref C0) (.ref t) X.env.locals h4/\s'.heap.UpToSlots h4) (by rw[←hst];exact I.ok.frames) hf (by rw[←hst];exact fl) fun h4 x1 x2=>⟨h4,rfl,by rw[hst];exact x1,x2⟩)) ?_ (fun _ _ z=>False.elim z.1)
  rintro _ _ ⟨⟨h4,rfl,l4,sm4⟩,dk4⟩
  refine bq (KD.any (E:=fun _ _=>False) (jS _ _) (wpAny_landsW (s:={ s' with heap:=h4 }) (Q:=fun _ s''=>∃ h5,s''={ s' with heap:=h5 }/\Heap.FlyingW B X.stack ea (.ref C0) (.ref t) h5/\h4.UpToSlots h5) l4 fun h5 x1 x2=>⟨h5,rfl,x1,x2⟩)) ?_ (fun _ _ z=>False.elim z.1)
  rintro _ _ ⟨⟨h5,rfl,f5,sm5⟩,dk5⟩
  obtain⟨o5,e5,_,d5,g5⟩:=(dk4.trans dk5) ea oe hoe
  have I5:=mk h5 f5 (sm4.trans sm5) ⟨o5,e5,hdo.dk d5 g5⟩
  obtain⟨o5',v5,e5',c5,t5,_⟩:=f5.first
  rw[e5] at e5'
  cases e5'
  refine wpAny_handleBy_cons (codeAny_handlers_test ?_) (by intro q;cases q)
  refine kz (X:={ X with A:=X.A.mark (some (.ref ea)),calm:=false,xe:=fun _ _=>False }) I5.vn hg hm ?_ hd
  have LT:PySem.W.Looks (model X.prog X.w) h5 (typeOf (.ref ea)) (.ref C0):=c5 ▸ (PySem.W.Looks.ld e5).andThen .now
  refine PySem.W.exm_one I5.kIn LT htrue _ _ _ _ (fun _ _ e=>e) ?_
  refine codeAny_handlers_suite ?_
  refine bq (KD.any (E:=fun _ _=>False) (jS _ _) (lands_againW (s:={ s' with heap:=h5 }) (Q:=fun _ s''=>∃ h6,s''={ s' with heap:=h6 }/\Heap.FlyingW B X.stack ea (.ref C0) (.ref t) h6/\h5.UpToSlots h6) f5 fun h6 x1 x2=>⟨h6,rfl,x1,x2⟩)) ?_ (fun _ _ z=>False.elim z.1)
  rintro _ _ ⟨⟨h6,rfl,f6,sm6⟩,dk6⟩
  obtain⟨o6,e6,_,d6,g6⟩:=dk6 ea o5 e5
  have I6:=mk h6 f6 ((sm4.trans sm5).trans sm6) ⟨o6,e6,(hdo.dk d5 g5).dk d6 g6⟩
  have IM:=I6.vn (e:=some (.ref ea))
  obtain⟨bm,N,nm,qn,bs,hdct,sn,sub,ab,col,dd,k0,k1,k2,k3,k5,mN,g1,g2,g3,g4⟩:=uu I.ok.mod.kin hq
  refine wpAny_execs_cons ?_
  rw[arm_exec_Raise]
  refine ar (gz ?_)
  refine zq (C:=C) (nm:=nm) (q:=qn) (N:=N) (bs:=bs) (bm:=bm) (hdct:=hdct) (sn:=sn) (sub:=sub) (ab:=ab) (col:=col) (dd:=dd) (k0:=k0) (k1:=k1) (k2:=k2) (k3:=k3) (k5:=k5) (newId:=newId) (ea:=ea) (fun R s2 hR=>ar (show wpAny _ _ (eval (.Constant .none 0 kp) X.env) _ _ _ from fun _ _ _=>ar (gz (aO hR)))) (g4.hasType FB.hasBase) rfl ?_
  refine ar (bq (wpAny_Call_ofName (kz (X:={ X with A:=X.A.mark (some (.ref ea)),calm:=false,xe:=fun _ _=>False }) IM hg2 hm2 ?_ hd2)) (fun v s₃ h₃=>ar (gz (aO h₃))) fun _ _ x=>x)
  have hs0:=aU (e:=Expr.Constant str kn kpos) (es:=[]) (env:=X.env) rfl
  have ha':=ha ea cpos pins _ σ' _ (fun vs H1=>vs=[v]/\H1=upd H' ea (yL ea (.ref C0) d)) IM ⟨rfl,rfl⟩
  unfold callWith
  have ha2:wpAny (model X.prog X.w) (X.A.mark (some (Value.ref ea))) (evalArgs (.ref C) true (backTo cpos (starEach [Expr.Constant str kn kpos] X.env)) []) (fun a s₂=>a.kw=[]/\a.pos.length=1/\Inv X pins σ' (upd H' ea (yL ea (.ref C0) d)) s₂) (fun _ _=>False) { s' with heap:=h6 }:=by
   rw[hs0] at ha' ⊢
   refine pE (bq ha' (fun vs s2 h2=>?_) fun _ _ y=>y)
   obtain⟨xs,H2,I2,r,z,q⟩:=h2
   subst z q
   exact⟨rfl,by rw[←r.length];rfl,Inv.markFrom I.ok I2⟩
  refine ar (cD (bq ha2 (fun a s₂ h₂=>ar (gz ?_)) fun _ _ z=>z.elim))
  obtain⟨apos,akw⟩:=a
  obtain⟨hkw,hlen,J2⟩:=h₂
  obtain rfl:akw=[]:=hkw
  have q1:=J2.bk _ _ g1
  have q2:=g2.keeps J2.bk
  have q4:=g4.keeps J2.bk
  obtain⟨⟨o9,e9,_,_,v9,w9,x9⟩,_⟩:=(show c8 X.prog X.w _ s₂.heap ea (yL ea (.ref C0) d) from J2.hok ea _ aS)
  obtain⟨hp,g,d',tk,os'⟩:=s₂
  simp only[show (backTo cpos (starEach [Expr.Constant str kn kpos] X.env)).any (·.1)=false from cZ rfl]
  refine ar (wpAny_keeperOf_exc q1 ?_)
  refine ar (wpAny_call_exc_subT (hrest:=by rw[kg,hlen];exact aN (av (by decide))) FB q4 q1 q2 g3 fun h' e hm=>ar (cD (wpAny_point (aO ?_))))
  obtain⟨t',ht',_,_⟩:=hm.there
  have nea:ea≠e:=fun z=>by rw[z,hm.new] at e9;cases e9
  refine⟨e,t',rfl,hm.keeps _ _ q1,ht',nea,⟨o9,v9,hm.keeps _ _ e9,w9,x9⟩,fun h3 k3 e3=>?_⟩
  refine hpo _ _ _ (hrx pins σ' _ ⟨hp,g,d',tk,os'⟩ h3 e C t' _ _ J2 (fun b o z=>k3 b o (fun y=>by rw[y,hm.new] at z;cases z) (hm.keeps b o z)) hm.new e3 rfl rfl rfl rfl rfl (hE _ (dY hea)))
 ·intro f s1 hsp
  cases f with
  | next =>
   obtain⟨σ9,H9,I9,q9⟩:=hsp
   exact ku ⟨σ9,H9,I9.jw,q9⟩
  | brk =>
   obtain⟨σ9,H9,I9,q9⟩:=hsp
   exact⟨σ9,H9,I9.jw,q9⟩
  | cont =>
   obtain⟨σ9,H9,I9,q9⟩:=hsp
   exact⟨σ9,H9,I9.jw,q9⟩
  | ret u =>
   obtain⟨v9,σ9,H9,I9,r9,q9⟩:=hsp
   exact⟨v9,σ9,H9,I9.jw,r9,q9⟩
end
def mV (a:Addr) (c:Value):HO:=.ext fun h=>∃ o,h.get? a=some o/\o.cls=c/\o.dict=none/\∃ vs,o.data=.fields vs
theorem Dw {a:Addr}{c:Value}{o:Obj} (e:h.get? a=some o) (h1:o.cls=c) (h2:o.dict=none) (h3:o.data=.fields vs):c8 P w H h a (mV a c) :=
 ⟨⟨o,e,h1,h2,vs,h3⟩,⟨o,e⟩,fun _ _ ⟨o,e,q⟩ k=>⟨o,k o e,q⟩⟩
def Ht (K:PySem.W.Frag) (tb:(St->XK)->TS) (CE:Addr) (i:Nat) (th:TS):TS:=fun D σ H =>
 tb (fun σ' c _ H'=>PySem.W.exmOne K c (.ref CE)=some true/\∀ ea H2,H' ea=none->aD H' H2->H2 ea=some (mV ea c)->th (D.un i) (σ'.set i (some (.ref ea))) H2) D σ H
theorem Fz {K:PySem.W.Frag}{tb:(St->XK)->TS}{CE:Addr}{i:Nat}{th:TS}{D:Ends}{σ:St}{H:Hp}:Ht K tb CE i th D σ H =
 tb (fun σ' c _ H'=>PySem.W.exmOne K c (.ref CE)=some true/\∀ ea H2,H' ea=none->aD H' H2->H2 ea=some (mV ea c)->th (D.un i) (σ'.set i (some (.ref ea))) H2) D σ H:=propext Iff.rfl
theorem Dv {a C:Addr} (x:HOk P w H h) (e:H a=some (mV a (.ref C))):ExcAt a C h:=by
 obtain⟨⟨o,e1,e2,e3,vs,e4⟩,_⟩:=(show c8 P w H h a (mV a (.ref C)) from x a _ e)
 refine⟨o,none,e1,e2,?_,?_⟩
 ·unfold PySem.W.notCls;rw[e4]
 ·rw[e3];trivial
def E2 (K:PySem.W.Frag):List V->Hp->VK->Prop:=fun vs H Q=>match vs with
 | [.ref a,.ref c]=>∃ C b,H a=some (mV a (.ref C))/\uN K C/\PySem.W.kitOne K (.ref C) (.ref c)=some b/\Q (.bl b) H
 | [.ref a,.ty n]=>∃ C b,H a=some (mV a (.ref C))/\uN K C/\PySem.W.kitOne K (.ref C) (.type n)=some b/\Q (.bl b) H
 | _=>False
theorem yy {K:PySem.W.Frag}{a c:Addr}{H:Hp}{Q:VK}:E2 K [.ref a,.ref c] H Q=(∃ C b,H a=some (mV a (.ref C))/\uN K C/\PySem.W.kitOne K (.ref C) (.ref c)=some b/\Q (.bl b) H):=propext Iff.rfl
theorem yz {K:PySem.W.Frag}{a:Addr}{n:String}{H:Hp}{Q:VK}:E2 K [.ref a,.ty n] H Q=(∃ C b,H a=some (mV a (.ref C))/\uN K C/\PySem.W.kitOne K (.ref C) (.type n)=some b/\Q (.bl b) H):=propext Iff.rfl
theorem cJ (hK:X.K=K):cW X (.builtin "isinstance") (E2 K):=by
 subst hK
 intro pins s σ H xs us Q I r h
 match xs,h with
 | [.ref a,.ty n],h =>
  obtain⟨C,b,hH,hC,hk,q⟩:=h
  obtain⟨u,v,rfl,r1,r2⟩:=vals2 r
  cases (show v=Value.type n from r2)
  cases (show u=Value.ref a from r1)
  exact eh (wZ hC) I.kIn (Dv I.hok hH) hk (fun z=>by cases z) fun tk=>⟨.bl b,H,I.tok _,rfl,q⟩
 | [.ref a,.ref c],h =>
  obtain⟨C,b,hH,hC,hk,q⟩:=h
  obtain⟨u,v,rfl,r1,r2⟩:=vals2 r
  cases (show v=Value.ref c from r2)
  cases (show u=Value.ref a from r1)
  exact eh (wZ hC) I.kIn (Dv I.hok hH) hk (fun z=>by cases z) fun tk=>⟨.bl b,H,I.tok _,rfl,q⟩
section
variable {X:Cx}
theorem GG {body:List Stmt}{b₀:Stmt}{suite:List Stmt}{x n:Str}{i:Nat}{CE:Addr}{np hpos pos:Pos}{tb:(St->XK)->TS}{th:TS} (hst:X.stack=X.env::X.outer) (hf:X.env.frame=some X.env.locals) (hex:X.ex=[]) (hN:X.N.Nodup) (hm:X.mg x=some (.ref CE))
  (hb:∀ (pn:List (Addr×Obj)) (xe:Value->Shared->Prop) (E:St->XK),PassesOwn (model X.prog X.w) X.A X.env xe->Passes (CX2 X.prog X.w) { X with pn:=pn,xe:=xe } E->PSs { X with pn:=pn,xe:=xe } body (tb E))
  (hh:∀ ea:Addr,PSs { X with A:=X.A.mark (some (.ref ea)),calm:=false,xe:=fun _ _=>False } (b₀::suite) th)
  (hi:X.N[i]?=some n:=by kernel_rfl) (hn:X.env.scope.names.lookup n=some .local:=by kernel_rfl) (hg:X.env.kindOf x=some .globalImplicit:=by kernel_rfl) (hd:(x==("__debug__":Str))=false:=by kernel_rfl) :
  PS X (.Try body [.ExceptHandler (some (.Name x np)) (some n) (b₀::suite) hpos] [] [] pos) (Ht X.K tb CE i th):=by
 intro pins s σ H D I h
 refine wpAny_Try_except ?_
 refine bq (hb (X.pn++pins) _ _ PassesOwn.looking ?_ [] s σ H D I.Kp h) ?_ (fun e s1 he=>he)
 ·intro pins' σ' H1 s1 e s' I' hcx
  obtain⟨ea,C,t,B,H',rfl,os,bare,un,hok,fl,⟨oe,hoe,hdo⟩,hkb,htrue,hE⟩:=hcx
  have IX:Inv X pins σ' H1 s1:=I'.jw
  have I2:Inv X pins σ' H' s':=IX.uk (ch:=[]) os un hok bare (fun b z=>absurd z (by simp))
  have hfr:∀ b∈frs X.stack,∃ o,s'.heap.get? b=some o/\∀ vs,o.data≠.fields vs:=fun b hb=>(I2.stack.mem hb).2
  have hff:∀ b∈frs X.stack,H' b=none:=I2.oR
  obtain⟨oe0,vs0,hoe0,_,hdat0,_⟩:=fl.first
  have nfr:ea∉frs X.stack:=fun z=>by
   obtain⟨o,e1,e2⟩:=hfr ea z
   rw[hoe0] at e1;cases e1;exact e2 _ hdat0
  have hea:H' ea=none:=by
   cases q:H' ea with
   | none=>rfl
   | some o=>have:=hkb ea oe hoe nfr (.inl (by rw[q];simp));rw[fl.2.1] at this;cases this
  have new1:s1.heap.get? ea=none:=by
   cases q:s1.heap.get? ea with
   | none=>rfl
   | some o=>have:=hkb ea oe hoe nfr (.inr ⟨o,q⟩);rw[fl.2.1] at this;cases this
  have new0:X.s₀.heap.get? ea=none:=by
   cases q:X.s₀.heap.get? ea with
   | none=>rfl
   | some o =>
    obtain⟨o2,e2⟩:=IX.base.there ea o q (by rw[hex];simp)
    rw[new1] at e2;cases e2
  have mk:∀ h6,Heap.FlyingW B X.stack ea (.ref C) (.ref t) h6->s'.heap.UpToSlots h6->(∃ o6,h6.get? ea=some o6/\o6.dict=none)->Inv X pins σ' (upd H' ea (mV ea (.ref C))) { s' with heap:=h6 }:=by
   intro h6 f6 sm6 ⟨o6,e6,d6⟩
   have J:Inv X pins σ' H' { s' with heap:=h6 }:=IX.uk (s':={ s' with heap:=h6 }) (ch:=[]) os (AR un hkb f6.1 sm6 hfr) (wR hok hkb f6.1 hff) bare (fun b z=>absurd z (by simp))
   obtain⟨o7,v7,e7,c7,t7,_⟩:=f6.first
   rw[e6] at e7
   cases e7
   refine J.HE hea new0 (fun z=>?_) (fun y c e z=>?_) (fun p hp z=>?_) (Dw e6 c7 d6 t7)
   ·obtain⟨m,⟨ob,_,_,e9,_⟩,_⟩:=IX.loc
    rw[←z,new1] at e9;cases e9
   ·obtain⟨w9,o9,e9,_⟩:=IX.cell y c e
    rw[z,new1] at e9;cases e9
   ·have e9:=(IX.pin p hp).1
    rw[z,new1] at e9;cases e9
  refine bq (KD.any (E:=fun _ _=>False) (vm _ _) (wpAny_looks_onW (Q:=fun _ s''=>∃ h4,s''={ s' with heap:=h4 }/\Heap.HeldW B X.stack ea (.ref C) (.ref t) X.env.locals h4/\s'.heap.UpToSlots h4) (by rw[←hst];exact I.ok.frames) hf (by rw[←hst];exact fl) fun h4 x1 x2=>⟨h4,rfl,by rw[hst];exact x1,x2⟩)) ?_ (fun _ _ z=>False.elim z.1)
  rintro _ _ ⟨⟨h4,rfl,l4,sm4⟩,dk4⟩
  refine bq (KD.any (E:=fun _ _=>False) (jS _ _) (wpAny_landsW (s:={ s' with heap:=h4 }) (Q:=fun _ s''=>∃ h5,s''={ s' with heap:=h5 }/\Heap.FlyingW B X.stack ea (.ref C) (.ref t) h5/\h4.UpToSlots h5) l4 fun h5 x1 x2=>⟨h5,rfl,x1,x2⟩)) ?_ (fun _ _ z=>False.elim z.1)
  rintro _ _ ⟨⟨h5,rfl,f5,sm5⟩,dk5⟩
  obtain⟨o5,e5,_,d5,_⟩:=(dk4.trans dk5) ea oe hoe
  have I5:=mk h5 f5 (sm4.trans sm5) ⟨o5,e5,d5.trans hdo⟩
  obtain⟨o5',v5,e5',c5,t5,_⟩:=f5.first
  rw[e5] at e5'
  cases e5'
  refine wpAny_handleBy_cons (codeAny_handlers_test ?_) (by intro q;cases q)
  refine kz (X:={ X with A:=X.A.mark (some (.ref ea)),calm:=false,xe:=fun _ _=>False }) I5.vn hg hm ?_ hd
  have LT:PySem.W.Looks (model X.prog X.w) h5 (typeOf (.ref ea)) (.ref C):=c5 ▸ (PySem.W.Looks.ld e5).andThen .now
  refine PySem.W.exm_one I5.kIn LT htrue _ _ _ _ (fun _ _ e=>e) ?_
  refine codeAny_handlers_suite_as ?_
  refine bq (KD.any (E:=fun _ _=>False) (jS _ _) (lands_againW (s:={ s' with heap:=h5 }) (Q:=fun _ s''=>∃ h6,s''={ s' with heap:=h6 }/\Heap.FlyingW B X.stack ea (.ref C) (.ref t) h6/\h5.UpToSlots h6) f5 fun h6 x1 x2=>⟨h6,rfl,x1,x2⟩)) ?_ (fun _ _ z=>False.elim z.1)
  rintro _ _ ⟨⟨h6,rfl,f6,sm6⟩,dk6⟩
  obtain⟨o6,e6,_,d6,_⟩:=dk6 ea o5 e5
  have I6:=mk h6 f6 ((sm4.trans sm5).trans sm6) ⟨o6,e6,d6.trans (d5.trans hdo)⟩
  refine jY (X:={ X with A:=X.A.mark (some (.ref ea)),calm:=false,xe:=fun _ _=>False }) (v:=.ref ea) I6.vn hN hi (.inl hn) rfl (fun s7 I7=>?_) (.inr hn)
  refine bq (hh ea pins s7 _ _ (D.un i) I7 (hE ea _ hea (dY hea) aS)) (fun f s8 hsp=>?_) (fun _ _ z=>False.elim z)
  cases f with
  | next =>
   obtain⟨σ9,H9,I9,q9⟩:=hsp
   exact mP (Inv.markFrom I.ok I9) hN hi hn fun s9 J=>⟨_,H9,J,q9⟩
  | brk =>
   obtain⟨σ9,H9,I9,q9⟩:=hsp
   exact mP (Inv.markFrom I.ok I9) hN hi hn fun s9 J=>⟨_,H9,J,q9⟩
  | cont =>
   obtain⟨σ9,H9,I9,q9⟩:=hsp
   exact mP (Inv.markFrom I.ok I9) hN hi hn fun s9 J=>⟨_,H9,J,q9⟩
  | ret u =>
   obtain⟨v9,σ9,H9,I9,r9,q9⟩:=hsp
   exact mP (Inv.markFrom I.ok I9) hN hi hn fun s9 J=>⟨v9,_,H9,J,r9,q9⟩
 ·intro f s1 hsp
  cases f with
  | next =>
   obtain⟨σ9,H9,I9,q9⟩:=hsp
   exact ku ⟨σ9,H9,I9.jw,q9⟩
  | brk =>
   obtain⟨σ9,H9,I9,q9⟩:=hsp
   exact⟨σ9,H9,I9.jw,q9⟩
  | cont =>
   obtain⟨σ9,H9,I9,q9⟩:=hsp
   exact⟨σ9,H9,I9.jw,q9⟩
  | ret u =>
   obtain⟨v9,σ9,H9,I9,r9,q9⟩:=hsp
   exact⟨v9,σ9,H9,I9.jw,r9,q9⟩
end
def Hm:V->List V->Hp->VK->Prop:=fun x vs H Q=>match x,vs with
 | .str z,[.str y]=>z.length<=100000/\∃ c a b,y=tx [c]/\z=tx (a++c::b)/\c∉a/\nw H (.tup [.str (tx a),.str (tx [c]),.str (tx b)]) Q
 | _,_=>False
theorem Dr {z y:Str}{H:Hp}{Q:VK}:Hm (.str z) [.str y] H Q=(z.length<=100000/\∃ c a b,y=tx [c]/\z=tx (a++c::b)/\c∉a/\nw H (.tup [.str (tx a),.str (tx [c]),.str (tx b)]) Q):=propext Iff.rfl
theorem DV :MtM X "str.partition" Hm:=by
 intro pins s σ H x vs v us Q I rx rv h
 match x,vs,h with
 | .str z,[.str y],h =>
  obtain⟨hz,c,a,b,rfl,rfl,hc,q⟩:=h
  obtain⟨t,rfl⟩:=rx
  obtain⟨u,rfl,ru⟩:=rv.one
  obtain⟨t2,rfl⟩:=ru
  have hb:(tx (a++c::b)).length<=sizeLine:=by rw[eL];omega
  have ff:Txt.find (tx (a++c::b)) (tx [c])=((a.length:Nat):Int):=by
   have:=rT (x:=tx (a++c::b)) (c:=c) (by rw[b0];simp)
   rw[b0,List.idxOf_append,ai hc,List.idxOf_cons_self,Nat.zero_add] at this
   exact this
  have fo:∃ r,Builtin.Str.occurrences (tx (a++c::b)) (tx [c]) 0 (tx (a++c::b)).length 1=a.length::r:=by
   unfold Txt.find at ff
   revert ff
   cases Builtin.Str.occurrences (tx (a++c::b)) (tx [c]) 0 (tx (a++c::b)).length 1 with
   | nil=>intro ff;simp at ff
   | cons i r=>intro ff;exact⟨r,by have:i=a.length:=Int.ofNat.inj ff;rw[this]⟩
  obtain⟨r,fo⟩:=fo
  refine gx F.slot_str_partition (fc s _ t) F.entry_str_partition (F.args_str_partition_2 _ _) (meets_str_partition _ _ t t2 rfl hb) ?_
  rw[fo]
  have e1:Builtin.Str.strSub (tx (a++c::b)) 0 a.length=tx a:=by
   show Str.mk _=Str.mk _
   congr 1
   apply Array.ext'
   simp [tx]
  have e2:Builtin.Str.strSub (tx (a++c::b)) (a.length+(tx [c]).length) (tx (a++c::b)).length=tx b:=by
   show Str.mk _=Str.mk _
   congr 1
   apply Array.ext'
   simp [tx,Str.length]
   exact dZ (by omega)
  show EP X pins σ Q _ _
  dsimp only
  rw[e1,e2]
  refine⟨.ref s.heap.objs.size,_,I.laid (t':=s.toks+1+1) (o:=.tup [.str (tx a),.str (tx [c]),.str (tx b)]) (fun b ob q=>aW _ q) (aA _) ?_,rfl,q.go _ (I.hok.fresh (aA _))⟩
  exact⟨aN (av (show 3<=100000 by decide)),_,.cons ⟨_,rfl⟩ (.cons ⟨_,rfl⟩ (.cons ⟨_,rfl⟩ .nil)),⟨_,bL _ rfl,rfl,_,rfl⟩⟩
def Ky (c:Nat) (to:TE):TE:=fun σ H Q=>to σ H fun x H1=>∃ l,x=.str (tx l)/\l.length<=100000/\Q (.str (tx (StrLaws.dbl c l))) H1
theorem HM {c:Nat}{to:TE}{σ:St}{H:Hp}{Q:VK}:Ky c to σ H Q=to σ H fun x H1=>∃ l,x=.str (tx l)/\l.length<=100000/\Q (.str (tx (StrLaws.dbl c l))) H1:=propext Iff.rfl
theorem Gs {o:Expr}{to:TE}{n w y z:Str}{c i:Nat}{k0 k1 k2:Nat}{np p0 p1 p2 bp ap cp:Pos}{t:TA} (ho:PE X o to) (hr:PA X es t) (hw:(w.length==0)=false:=by rfl) (hy:y=tx [c]:=by rfl) (hz:z=tx [c,c]:=by rfl)
  (hN:X.N[i]?=some n:=by kernel_rfl) (hv:X.env.scope.names.lookup n=some .local:=by kernel_rfl) (hd:(n==("__debug__":Str))=false:=by kernel_rfl)
  (hb:attributeBase (.Name n np) "replace" X.env (eval (.Name n np) X.env)=eval (.Name n np) X.env:=by kernel_rfl) (hl:(ap.endLine==cp.line)=true:=by kernel_rfl) (hs:dS (.BinOp o .Add (.Constant (.str w) k0 p0) bp::.Call (.Attribute (.Name n np) "replace" ap) [.Constant (.str y) k1 p1,.Constant (.str z) k2 p2] [] cp::es)=true:=by kernel_rfl) :
  PA X (.BinOp o .Add (.Constant (.str w) k0 p0) bp::.Call (.Attribute (.Name n np) "replace" ap) [.Constant (.str y) k1 p1,.Constant (.str z) k2 p2] [] cp::es) (oT (tOp xD to (tC (.str w))) (oT (Ky c (tN i)) t)):=by
 subst hy hz
 intro pos pins s σ H Q I h
 rw[aU (bh hs).1,aU (bh (bh hs).2).1]
 show wpAny _ _ (spliced ((false,eval (.BinOp o .Add (.Constant (.str w) k0 p0) bp) X.env)::(false,eval (.Call (.Attribute (.Name n np) "replace" ap) [.Constant (.str (tx [c])) k1 p1,.Constant (.str (tx [c,c])) k2 p2] [] cp) X.env)::backTo pos (starEach es X.env))) _ _ s
 refine mR (wpAny_BinOp (thn (ho pins s σ H _ I h) fun v s1 ⟨x,H1,I1,r1,q1⟩=>?_))
 refine pB ?_
 cases x with
 | str a =>
  obtain⟨t1,rfl⟩:=r1
  obtain⟨hsz,v,e,l,rfl,hll,q2⟩:=(show a.length+w.length<=sizeLine/\_ from q1)
  have go:∀ (t':Tok) (k:Nat),1<=k->wpAny (model X.prog X.w) X.A (spliced ((false,eval (.Call (.Attribute (.Name n np) "replace" ap) [.Constant (.str (tx [c])) k1 p1,.Constant (.str (tx [c,c])) k2 p2] [] cp) X.env)::backTo pos (starEach es X.env))) (fun ws s''=>AP X pins σ Q (.str (a++w) t'::ws) s'') X.xe { s1 with toks:=k }:=by
   intro t' k hk1
   have I2:=I1.tok k
   obtain⟨m,hn,hm⟩:=I2.loc
   obtain⟨u,⟨tu,rfl⟩,lk⟩:=hm i n _ hN e (.inl hv)
   have hmn:m n=some (.str (tx l) tu):=by
    rcases lk with ⟨_,z⟩ | ⟨z | z,_⟩
    ·exact z
    ·have z':X.env.scope.names.lookup n=some .cell:=z
     rw[hv] at z';cases z'
    ·have z':X.env.scope.names.lookup n=some .free:=z
     rw[hv] at z';cases z'
   refine mR (wpAny_Call_method_late hb (by rw[kx rfl];rfl) hl rfl (wpAny_Name (wpAny_loadName_local I2.ok.kind hv hn hmn ?_) hd))
   refine⟨"str","str.replace",F.plainAttrs_str,F.slot_str_replace,F.type_str_replace,fc _ _ _,(fun _ e=>nomatch e),?_⟩
   have sp:=fun (Q':List Value->Shared->Prop) h=>GS (X:=X) (y:=tx [c]) (z:=tx [c,c]) (k1:=k1) (k2:=k2) (p1:=p1) (p2:=p2) (pos:=cp) (s:={ s1 with toks:=k }) (Q:=Q') (E:=X.xe) h
   have hs2:starEach [.Constant (.str (tx [c])) k1 p1,.Constant (.str (tx [c,c])) k2 p2] X.env=(false,eval (.Constant (.str (tx [c])) k1 p1) X.env)::starEach [.Constant (.str (tx [c,c])) k2 p2] X.env:=aU rfl
   rw[hs2] at sp ⊢
   refine Calls.callWith_builtin (by show (false||(backTo cp (starEach [.Constant (.str (tx [c,c])) k2 p2] X.env)).any (·.1))=false;rw[cZ rfl];rfl) (pE (sp _ ?_))
   refine SC.replaceW (show k≠0 by omega) (Nat.succ_ne_zero _) (bE (gZ _)) (by simp [tx]) (by rw[aJ];omega) (show 2<=14 by decide) fun t2 k2'=>?_
   have ed:Txt.replace (tx l) (tx [c]) (tx [c,c])=tx (StrLaws.dbl c l):=by
    have:=StrLaws.replace_double (tx l) c
    rw[b0] at this
    exact (iq _).symm.trans (aG tx this)
   rw[ed]
   exact thn (hr pos pins _ σ H1 _ (I1.tok _) q2) fun us s2 ⟨xs,H2,I2,r2,q3⟩=>⟨.str (a++w)::.str (tx (StrLaws.dbl c l))::xs,H2,I2,.cons ⟨_,rfl⟩ (.cons ⟨_,rfl⟩ r2),q3⟩
  refine P.add_str ?_
  cases ha:(a.length==0) with
  | true =>
   have e0:a++w=w:=by
    have:a.cps=#[]:=Array.size_eq_zero_iff.mp (eK.mp ha)
    show Str.mk (a.cps++w.cps)=w
    rw[this,Array.empty_append]
   rw[ao rfl]
   have:=go s1.toks (s1.toks+1) (Nat.succ_pos _)
   rw[e0] at this
   exact this
  | false =>
   rw[ai (by simp),ai (by rw[hw];simp)]
   exact⟨by show (a.cps++w.cps).size<=_;rw[Array.size_append];exact hsz,go _ _ (Nat.succ_pos _)⟩
 | _=>exact q1.elim
end
end L2

namespace Kb
open PySem L2
variable {E:XK}{E':XK}{G:Hp}{H:Hp}{K:PySem.W.Frag}{Q:VK}{RR:VK}{al:List Nat}{b:Int}{f:Addr}{fd:FuncData}{g:Int}{i:Nat}{key:List Key}{ls:List (List Nat)}{p:Addr}{ps:List (List Nat)}{r:Int}{row:List Nat}{ws:List Int}{x:List Nat}{xs:List V}{α:Type}
seal L2.PE L2.PA L2.PS L2.PSs L2.PT L2.PW L2.PG L2.PGs L2.PI L2.PO L2.HJ L2.PIf
def top (i:Nat):Stmt:=PySem.Challenge.pw_cablehouse_k15_no_book.main.body.getD i (.Pass ⟨0,0,0,0⟩)
abbrev nC:Stmt:=top 19
abbrev gF:Stmt:=top 20
abbrev n6:Stmt:=top 21
abbrev j9:Stmt:=top 24
abbrev nA:Stmt:=top 25
abbrev j8:Stmt:=top 26
abbrev pZ:Stmt:=top 27
abbrev lR:Stmt:=top 28
abbrev qa:Stmt:=top 29
abbrev n5:Stmt:=top 30
abbrev pY:Stmt:=top 31
abbrev fN:Stmt:=inClass (top 32) 0
abbrev ia:Stmt:=inClass (top 32) 1
abbrev iE:Stmt:=inClass (top 32) 2
abbrev lJ:Stmt:=inClass (top 32) 3
abbrev lI:Stmt:=inClass (top 32) 4
abbrev lK:Stmt:=inClass (top 32) 5
abbrev jz:Stmt:=inClass (top 32) 6
abbrev ic:Stmt:=inClass (top 32) 7
abbrev j7:Stmt:=top 37
abbrev lL:Stmt:=top 38
abbrev gH:Stmt:=top 39
abbrev iF:Stmt:=top 40
abbrev nB:Stmt:=top 45
abbrev fM:Stmt:=inClass (top 46) 0
abbrev lH:Stmt:=inClass (top 46) 1
abbrev da:Stmt:=inClass (top 46) 2
abbrev jx:Stmt:=inClass (top 46) 3
abbrev fW:Stmt:=inClass (top 46) 4
abbrev kF:Stmt:=inClass (top 46) 6
abbrev jy:Stmt:=inClass (top 46) 7
abbrev iD:Stmt:=inClass (top 46) 8
abbrev n8:Stmt:=top 48
abbrev lM:Stmt:=top 49
abbrev vR:Stmt:=top 50
abbrev ie:Stmt:=top 51
abbrev vQ:Stmt:=top 52
abbrev zu:Stmt:=top 53
abbrev jA:Stmt:=top 55
abbrev lP:Stmt:=top 56
abbrev jC:Stmt:=top 58
abbrev kH:Stmt:=top 59
abbrev nE:Stmt:=top 60
abbrev nH:Stmt:=top 61
abbrev gG:Stmt:=top 62
abbrev lN:Stmt:=top 63
abbrev kG:Stmt:=top 64
abbrev nG:Stmt:=top 65
abbrev nF:Stmt:=top 66
abbrev jE:Stmt:=top 67
abbrev lQ:Stmt:=top 68
abbrev jD:Stmt:=top 69
abbrev ig:Stmt:=top 70
abbrev fX:Stmt:=top 71
abbrev jB:Stmt:=top 72
abbrev lO:Stmt:=top 73
abbrev oH:Stmt:=top 74
structure Bl (mg:Str->Option Value):Prop where
 isinstance:mg "isinstance"=none
 bool:mg "bool"=none
 int:mg "int"=none
 abs:mg "abs"=none
 all:mg "all"=none
 zip:mg "zip"=none
 len:mg "len"=none
 set:mg "set"=none
 str:mg "str"=none
 list:mg "list"=none
 sum:mg "sum"=none
 range:mg "range"=none
 tuple:mg "tuple"=none
 sorted:mg "sorted"=none
 enumerate:mg "enumerate"=none
 ValueError:mg "ValueError"=none
structure Ads where
 Code:Addr
 Book:Addr
 CableError:Addr
 NoCode:Addr
 NoNumber:Addr
 NoWord:Addr
 NoEntry:Addr
 Twice:Addr
 TooMany:Addr
 NoBook:Addr
 NoText:Addr
 NoReading:Addr
 NoSetting:Addr
 TooGarbled:Addr
 NoNet:Addr
 NoOffice:Addr
 NoDay:Addr
 NoRow:Addr
 cd:Addr
 tb:Addr
 none:Unit:=()
def Ads.mT (Ad:Ads):List Addr:=[Ad.NoCode,Ad.NoNumber,Ad.NoWord,Ad.NoEntry,Ad.Twice,Ad.TooMany,Ad.NoBook,Ad.NoText,Ad.NoReading,Ad.NoSetting,Ad.TooGarbled,Ad.NoNet,Ad.NoOffice,Ad.NoDay,Ad.NoRow]
structure AdF (K:PySem.W.Frag) (mg:Str->Option Value) (Ad:Ads):Prop where
 g_Code:mg "Code"=some (.ref Ad.Code)
 g_Book:mg "Book"=some (.ref Ad.Book)
 g_CableError:mg "CableError"=some (.ref Ad.CableError)
 g_NoCode:mg "NoCode"=some (.ref Ad.NoCode)
 g_NoNumber:mg "NoNumber"=some (.ref Ad.NoNumber)
 g_NoWord:mg "NoWord"=some (.ref Ad.NoWord)
 g_NoEntry:mg "NoEntry"=some (.ref Ad.NoEntry)
 g_Twice:mg "Twice"=some (.ref Ad.Twice)
 g_TooMany:mg "TooMany"=some (.ref Ad.TooMany)
 g_NoBook:mg "NoBook"=some (.ref Ad.NoBook)
 g_NoText:mg "NoText"=some (.ref Ad.NoText)
 g_NoReading:mg "NoReading"=some (.ref Ad.NoReading)
 g_NoSetting:mg "NoSetting"=some (.ref Ad.NoSetting)
 g_TooGarbled:mg "TooGarbled"=some (.ref Ad.TooGarbled)
 g_NoNet:mg "NoNet"=some (.ref Ad.NoNet)
 g_NoOffice:mg "NoOffice"=some (.ref Ad.NoOffice)
 g_NoDay:mg "NoDay"=some (.ref Ad.NoDay)
 g_NoRow:mg "NoRow"=some (.ref Ad.NoRow)
 c_Code:Cls K Ad.Code
 n_Code_letters:fQ K Ad.Code "letters"
 n_Code_factors:fQ K Ad.Code "factors"
 n_Code_remainder:fQ K Ad.Code "remainder"
 c_Book:Cls K Ad.Book
 n_Book_basis:fQ K Ad.Book "basis"
 n_Book_by_number:fQ K Ad.Book "by_number"
 n_Book_by_entry:fQ K Ad.Book "by_entry"
 q_NoCode:PySem.W.excIn K Ad.NoCode [.type "ValueError",.type "Exception",.type "BaseException",.type "object"] "ValueError.__new__"=true
 q_NoNumber:PySem.W.excIn K Ad.NoNumber [.type "ValueError",.type "Exception",.type "BaseException",.type "object"] "ValueError.__new__"=true
 q_NoWord:PySem.W.excIn K Ad.NoWord [.type "ValueError",.type "Exception",.type "BaseException",.type "object"] "ValueError.__new__"=true
 q_NoEntry:PySem.W.excIn K Ad.NoEntry [.type "ValueError",.type "Exception",.type "BaseException",.type "object"] "ValueError.__new__"=true
 q_Twice:PySem.W.excIn K Ad.Twice [.type "ValueError",.type "Exception",.type "BaseException",.type "object"] "ValueError.__new__"=true
 q_TooMany:PySem.W.excIn K Ad.TooMany [.type "ValueError",.type "Exception",.type "BaseException",.type "object"] "ValueError.__new__"=true
 q_NoBook:PySem.W.excIn K Ad.NoBook [.type "ValueError",.type "Exception",.type "BaseException",.type "object"] "ValueError.__new__"=true
 q_NoText:PySem.W.excIn K Ad.NoText [.type "ValueError",.type "Exception",.type "BaseException",.type "object"] "ValueError.__new__"=true
 q_NoNet:PySem.W.excIn K Ad.NoNet [.type "ValueError",.type "Exception",.type "BaseException",.type "object"] "ValueError.__new__"=true
 q_NoOffice:PySem.W.excIn K Ad.NoOffice [.type "ValueError",.type "Exception",.type "BaseException",.type "object"] "ValueError.__new__"=true
 q_NoDay:PySem.W.excIn K Ad.NoDay [.type "ValueError",.type "Exception",.type "BaseException",.type "object"] "ValueError.__new__"=true
 q_NoRow:PySem.W.excIn K Ad.NoRow [.type "ValueError",.type "Exception",.type "BaseException",.type "object"] "ValueError.__new__"=true
 i_Book:TyI K Ad.Book
 t_tab:PySem.W.codeHdIn K Ad.cd Ad.tb=true
 err:uZ K Ad.CableError Ad.mT=true
 nd:ndB Ad.mT=true
 v_SMALL_LETTERS:∃ u,mg "SMALL_LETTERS"=some u/\RelV (.str "abcdefghijklmnopqrstuvwxyz") u
 v_FIGURES:∃ u,mg "FIGURES"=some u/\RelV (.str "0123456789") u
 v_MOST_FIGURES:∃ u,mg "MOST_FIGURES"=some u/\RelV (.int 9) u
 v_LONGEST_WORD:∃ u,mg "LONGEST_WORD"=some u/\RelV (.int 20) u
 v_MOST_ENTRIES:∃ u,mg "MOST_ENTRIES"=some u/\RelV (.int 300) u
 v_MOST_PHRASE_WORDS:∃ u,mg "MOST_PHRASE_WORDS"=some u/\RelV (.int 6) u
 v_MOST_PART_LETTERS:∃ u,mg "MOST_PART_LETTERS"=some u/\RelV (.int 6) u
section
variable {P:Program}{w:World}{K:PySem.W.Frag}{mg:Str->Option Value}{base:Heap}{Ad:Ads}
theorem bj {p q:Prop} (a:p) (b:q):p/\q:=⟨a,b⟩
noncomputable def zzV:=bj @HN<|bj @Fx<|bj @Ft<|bj @Fs<|bj @CP<|bj @HZ<|bj @CK<|bj @Fm<|bj @HL<|bj @CL<|bj @Ia<|bj @KZ<|bj @JM<|bj @JP<|bj @JF<|bj @Fg<|bj @HS<|bj @Ff<|bj @HX<|bj @JK<|bj @Fu<|bj @Fl<|bj @Fy<|bj @KY<|bj @HU<|bj @HK<|bj @JN<|bj @Fe<|bj @HV<|bj @Fv<|bj @HQ<|bj @HR<|bj @HY<|bj @Fi<|bj @JL<|bj @JO<|bj @AV<|bj @Fw<|bj @Fo<|bj @CN<|bj @CO<|bj @Fp<|bj @HP<|bj @HW<|bj @Fn<|bj @JE<|bj @CH<|bj @GZ<|bj @Dt<|bj @Du<|bj @FL<|bj @FN<|bj @FO<|bj @Io<|bj @FP<|bj @CM<|bj @Fh<|bj @CI<|bj @CJ<|bj @Fj<|bj @EH<|bj @yu<|bj @yv<|bj @yw<|bj @yK<|bj @yG<|bj @wJ<|bj @yE<|bj @yH<|bj @yx<|bj @Bu<|bj @Br<|bj @Bs<|bj @Bt<|bj @Bx<|bj @By<|bj @Bz<|bj @Bv<|bj @Bw<|bj @yC<|bj @yD<|bj @yt<|bj @wL<|bj @yA<|bj @B0<|bj @B6<|bj @vd<|bj @va<|bj @wK<|bj @wM<|bj @yF<|bj @yI<|bj @yB<|bj @yq<|bj @yr<|bj @Fq<|bj @CG<|bj @Im<|bj @Dq<|bj @B7<|bj @F0<|bj @Fz<|bj @yy<|bj @yz<|bj @Dr<|bj @HM<|bj @JG<|bj @JI<|bj @JJ<|bj @JH<|bj @FJ<|bj @FK<|bj @Ds<|bj @Dp<|@yJ
local macro_rules | `(tactic| and_intros) => `(tactic| try simp only [zzV, Ez, E7, zo, Kt, Ends.un, lh, nw, Ci, isV, eI, i3, Tg.sub, Tg.name, rU, Jo, Option.join_some, Int.toNat_natCast, List.getElem?_cons_zero, List.getElem?_cons_succ, List.set_cons_zero, List.set_cons_succ, List.map_cons, List.map_nil, List.cons_append, List.nil_append, List.length_cons, List.length_nil, List.replicate_succ, List.replicate_zero, Nat.reduceAdd, Nat.reduceSub, Nat.zero_add, bne_self_eq_false, Bool.true_bne, Bool.false_bne, Bool.not_true, Bool.not_false, if_true, if_false, Bool.false_eq_true, Bool.true_eq_false, reduceIte])
local macro_rules | `(tactic| ac_nf) => `(tactic| (and_intros; repeat (simp only [dq]; and_intros)))
local macro_rules | `(tactic| bv_omega) => `(tactic| try simp only [GZ, Dt, Du, Bool.not_false, Bool.not_true, if_true, if_false, Bool.false_eq_true, Bool.true_eq_false, true_and, and_true])
set_option hygiene false in
local macro_rules | `(tactic| bv_decide) => `(tactic| (intro vs H Q E h; first | (cases h; subst_vars; rfl) | repeat (first | (obtain ⟨rfl, _⟩ := h; rfl) | obtain ⟨_, h⟩ := h)))
set_option hygiene false in
local macro_rules | `(tactic| cbv) => `(tactic| (rw [hN]; clear hN nn))
set_option hygiene false in
local macro_rules | `(tactic| grind) => `(tactic| (refine ft fun nn hN => ?_; and_intros))
set_option hygiene false in
local macro_rules | `(tactic| bv_normalize) => `(tactic| (intro cdv A outer s H vs Q E hr h; have hu := hr.kP; have hu1 := qp hr))
local macro_rules | `(tactic| subst_eqs) => `(tactic| exact ⟨rfl, rfl, rfl, by decide +kernel, rfl, by decide +kernel, by decide +kernel⟩)
structure bf (al:List Nat) (ws:List Int) (r:Int):Prop where
 a3:3<=al.length
 a26:al.length<=26
 nd:al.Nodup
 abc:∀ c∈al,97<=c/\c<123
 w3:3<=ws.length
 w8:ws.length<=8
 wm:∀ x∈ws,0<=x/\x<(al.length:Int)
 safe:Mk.safe al.length ws=true
 rm:0<=r/\r<(al.length:Int)
theorem bf.sml {al:List Nat}{ws:List Int}{r:Int} (h:bf al ws r):Mk.sml ws:=by
 intro x hx
 have:=h.wm x hx
 have:=h.a26
 omega
def ql (al:List Nat) (q:Addr) (r:Int):List (Str×V):=[("letters",.str (tx al)),("factors",.ref q),("remainder",.int r)]
theorem dQ (al:List Nat) (q:Addr) (r:Int):(ql al q r).lookup ("letters":Str)=some (V.str (tx al)):=rfl
theorem fu (al:List Nat) (q:Addr) (r:Int):(ql al q r).lookup ("factors":Str)=some (V.ref q):=rfl
theorem hX (al:List Nat) (q:Addr) (r:Int):(ql al q r).lookup ("remainder":Str)=some (V.int r):=rfl
theorem bG {m:Str} (h1:m≠("letters":Str)) (h2:m≠("factors":Str)) (h3:m≠("remainder":Str)) (al:List Nat) (q:Addr) (r:Int):(ql al q r).lookup m=none:=by
 unfold ql
 rw[eZ,eZ,eZ,ko h1,ko h2,ko h3]
 rfl
def cP (Ad:Ads) (H:Hp) (a:Addr) (al:List Nat) (ws:List Int) (r:Int):Prop:=∃ dx q,H a=some (.ins Ad.Code dx (ql al q r))/\H q=some (.lst (ws.map V.int))
theorem cP.same {Ad:Ads}{H H':Hp}{a:Addr} (h:cP Ad H a al ws r) (s:aD H H'):cP Ad H' a al ws r:=by
 obtain⟨dx,q,h1,h2⟩:=h
 exact⟨dx,q,s _ _ h1,s _ _ h2⟩
def rL (H:Hp) (xa xw xr:V) (al:List Nat) (p:Addr) (ws:List Int) (r:Int):Prop:=xa=.str (tx al)/\xw=.ref p/\H p=some (.lst (ws.map V.int))/\xr=.int r/\bf al ws r
def FA (H:Hp) (xa xw xr:V):Prop:=∀ al p ws r,¬ rL H xa xw xr al p ws r

theorem qz {α β:Type}{F:α->β->Prop}:∀ {a:List α}{b:List β}{c:List α}{d:List β},Paired F a b->Paired F c d->Paired F (a++c) (b++d)
 | _,_,_,_,.nil,h=>h
 | _,_,_,_,.cons r t,h=>.cons r (qz t h)
theorem qA {α β:Type}{F G:α->β->Prop} (f:∀ x y,F x y->G x y):∀ {a:List α}{b:List β},Paired F a b->Paired G a b
 | _,_,.nil=>.nil
 | _,_,.cons r t=>.cons (f _ _ r) (qA f t)
theorem uc {l:List α}{v:α} (h:l.getLast?=some v):atI l (-1)=some v:=by
 have hne:l≠[]:=fun e=>by subst e;cases h
 have hl:=List.length_pos_iff.mpr hne
 unfold atI ixN
 rw[ai (by decide),ao (by omega)]
 show l[_]?=some v
 rw[List.getLast?_eq_getElem?] at h
 rw[←h]
 congr 1
 omega
theorem sS {α β:Type}{F:α->β->Prop}:∀ {l₁:List α}{l₂:List β},Paired F l₁ l₂->l₁.length=l₂.length
 | _,_,.nil=>rfl
 | _,_,.cons _ r=>by rw[ag,ag,sS r]
theorem DT {β γ:Type}{f:β->γ}{xs:List β}{v:γ} (h:(xs.map f)[i]?=some v):∃ x,xs[i]?=some x/\f x=v:=by
 rw[bY] at h
 exact fB.mp h
theorem vo (c:Int):0<=c*69621%2147483629+2147483629*(c%10^60):=by
 have h1:=cA (c*69621) (b:=2147483629) (by decide)
 have h2:=cA c (b:=10^60) (by decide)
 omega
def dv (n:Nat) (l:List Nat):Bool:=decide (1<=l.length)&&decide (l.length<=n)&&l.all fun c=>decide (97<=c/\c<123)
def gM (n:Nat):V->Bool
 | .str z=>dv n z.cps.toList
 | _=>false
def fj (n:Nat) (l:List Nat):Bool:=decide ((Mk.aZ 32 l).length<=n)&&(Mk.aZ 32 l).all (dv 20)
def iZ (n:Nat):V->Bool
 | .str z=>fj n z.cps.toList
 | _=>false
def fI:List V->Bool
 | [.str z]=>decide (z=("end":Str))
 | [.str z,y]=>if z=("phrase":Str) then iZ 6 y else if z=("part":Str) then gM 6 y else false
 | _=>false
def lB (H:Hp):V->Bool
 | .ref p=>match H p with
  | some (.tup xs)=>fI xs
  | _=>false
 | _=>false
theorem pI {n:Nat}{l:List Nat} (h1:1<=l.length) (h2:l.length<=n) (h3:∀ c∈l,97<=c/\c<123):dv n l=true:=by
 unfold dv
 rw[aC h1,aC h2,fG,fG,bM]
 exact fun c hc=>aC (h3 c hc)
theorem AW {n:Nat}{ws:List (List Nat)} (h1:1<=ws.length) (h2:ws.length<=n) (h3:∀ w∈ws,1<=w.length/\w.length<=20/\∀ c∈w,97<=c/\c<123):fj n (Mk.b7 32 ws)=true:=by
 unfold fj
 rw[Mk.cT ws (fun e=>by rw[e] at h1;simp at h1) fun w hw hc=>by have:=(h3 w hw).2.2 32 hc;omega,aC h2,fG,bM]
 exact fun w hw=>pI (h3 w hw).1 (h3 w hw).2.1 (h3 w hw).2.2
theorem wV {n:Nat}{ws:List (List Nat)} (h2:ws.length<=n) (h3:∀ w∈ws,w.length<=20):(Mk.b7 32 ws).length<=21*n/\(ws.map fun w=>w.length+1).sum<=21*n:=by
 have h:=Mk.jR (c:=32) ws
 have:(ws.map fun w=>w.length+1).sum<=21*ws.length:=by
  clear h2 h
  induction ws with
  | nil=>simp
  | cons w r ih =>
   have h1:=ih fun x hx=>h3 x (bb _ hx)
   have h2:=h3 w aR
   simp only[aQ,fb,ag]
   omega
 omega
theorem vk {l:List Nat} (h:fj 6 l=true):fI [.str ("phrase":Str),.str (tx l)]=true:=by
 show (if ("phrase":Str)=("phrase":Str) then fj 6 (tx l).cps.toList else if ("phrase":Str)=("part":Str) then dv 6 (tx l).cps.toList else false)=true
 rw[ao rfl,b0];exact h
theorem sd {l:List Nat} (h:dv 6 l=true):fI [.str ("part":Str),.str (tx l)]=true:=by
 show (if ("part":Str)=("phrase":Str) then fj 6 (tx l).cps.toList else if ("part":Str)=("part":Str) then dv 6 (tx l).cps.toList else false)=true
 rw[ai (by decide),ao rfl,b0];exact h
def lg:Str:="Book.put.<locals>.<lambda>"
structure Ben where
 num:Int
 key:List Key
 adr:Addr
def rH (ca dn de:Addr):List (Str×V):=[("basis",.ref ca),("by_number",.ref dn),("by_entry",.ref de)]
theorem ja (p q r:Addr):(rH p q r).lookup ("basis":Str)=some (V.ref p):=rfl
theorem gD (p q r:Addr):(rH p q r).lookup ("by_number":Str)=some (V.ref q):=rfl
theorem pJ (p q r:Addr):(rH p q r).lookup ("by_entry":Str)=some (V.ref r):=rfl
theorem dw {m:Str} (h1:m≠("basis":Str)) (h2:m≠("by_number":Str)) (h3:m≠("by_entry":Str)) (p q r:Addr):(rH p q r).lookup m=none:=by
 unfold rH
 rw[eZ,eZ,eZ,ko h1,ko h2,ko h3]
 rfl
def lE (es:List Ben):List (Key×V):=(es.map fun e=>(e.num,V.ref e.adr)).map fun q=>(.inl q.1,q.2)
def nU (es:List Ben):List (List Key×V):=es.map fun e=>(e.key,V.int e.num)
structure cY (Ad:Ads) (H:Hp) (b ca dn de:Addr) (es:List Ben):Prop where
 bk:∃ dx,H b=some (.ins Ad.Book dx (rH ca dn de))
 hn:H dn=some (.dK (lE es))
 he:H de=some (.dT (nU es))
 en:∀ e∈es,H e.adr=some (.tup (e.key.map kV))
 nn:(es.map (·.num)).Nodup
 nk:(es.map (·.key)).Nodup
theorem cY.same {Ad:Ads}{H H':Hp}{b ca dn de:Addr}{es:List Ben} (h:cY Ad H b ca dn de es) (s:aD H H'):cY Ad H' b ca dn de es:=by
 obtain⟨⟨dx,h1⟩,h2,h3,h4,h5,h6⟩:=h
 exact⟨⟨dx,s _ _ h1⟩,s _ _ h2,s _ _ h3,fun e he=>s _ _ (h4 e he),h5,h6⟩
theorem we {α κ:Type} [DecidableEq κ] {f:α->κ}{g:α->V}:∀ {es:List α}{e:α},(es.map f).Nodup->e∈es->iY (es.map fun x=>(f x,g x)) (f e)=some (g e)
 | x::r,e,hn,he=>by
  obtain⟨h1,h2⟩:=gu.mp hn
  unfold iY
  rw[aQ,gX]
  by_cases h:f x=f e
  ·rw[aC h]
   rcases aH.mp he with rfl | he
   ·rfl
   ·exact absurd (List.mem_map_of_mem (f:=f) he) (by rw[←h];exact h1)
  ·rw[aE h]
   rcases aH.mp he with rfl | he
   ·exact absurd rfl h
   ·exact we h2 he
theorem zH {α κ:Type} [DecidableEq κ] {f:α->κ}{g:α->V}{k:κ}:∀ {es:List α},k∉es.map f->iY (es.map fun x=>(f x,g x)) k=none
 | [],_=>rfl
 | x::r,h=>by
  rw[aQ,aH,not_or] at h
  unfold iY
  rw[aQ,gX,aE (show ¬ f x=k from fun e=>h.1 e.symm)]
  exact zH h.2
theorem Ar (es:List Ben):lE es=es.map fun e=>(.inl e.num,V.ref e.adr):=by unfold lE;rw[aK];rfl
theorem Iq {es:List Ben} (h:(es.map (·.num)).Nodup):(es.map fun e=>(.inl e.num:Key)).Nodup:=by
 have e:(es.map fun e=>(.inl e.num:Key))=(es.map (·.num)).map Sum.inl:=by rw[aK];rfl
 rw[e]
 exact List.Pairwise.map _ (fun a b (h:a≠b) z=>h (Sum.inl.inj z)) h
theorem r6 {es:List Ben}{e:Ben} (hn:(es.map (·.num)).Nodup) (he:e∈es):iY (lE es) (.inl e.num)=some (.ref e.adr):=by
 rw[Ar];exact we (f:=fun e:Ben=>(.inl e.num:Key)) (Iq hn) he
theorem vt {es:List Ben}{k:Int} (h:k∉es.map (·.num)):iY (lE es) (.inl k)=none:=by
 rw[Ar]
 refine zH (f:=fun e:Ben=>(.inl e.num:Key)) fun m=>h ?_
 obtain⟨e,he,ee⟩:=aM.mp m
 exact aM.mpr ⟨e,he,Sum.inl.inj ee⟩
theorem IL {es:List Ben}{k:Int} (hn:(es.map (·.num)).Nodup):(iY (lE es) (.inl k)).isSome=decide (k∈es.map (·.num)):=by
 by_cases h:k∈es.map (·.num)
 ·obtain⟨e,he,rfl⟩:=aM.mp h
  rw[r6 hn he,aC h];rfl
 ·rw[vt h,aE h];rfl
theorem Af {es:List Ben}{e:Ben} (hn:(es.map (·.key)).Nodup) (he:e∈es):iY (nU es) e.key=some (.int e.num):=we (f:=fun e:Ben=>e.key) hn he
theorem yo {es:List Ben}{k:List Key} (h:k∉es.map (·.key)):iY (nU es) k=none:=zH (f:=fun e:Ben=>e.key) h
theorem AE {κ:Type} [DecidableEq κ] {kvs:List (κ×V)}{k:κ}{v:V} (h:iY kvs k=none):putK kvs k v=kvs++[(k,v)]:=by
 unfold putK
 rw[tP,h]
 rfl
theorem BW (es:List Ben) (e:Ben):lE (es++[e])=lE es++[(.inl e.num,.ref e.adr)]:=by unfold lE;simp
theorem Bp (es:List Ben) (e:Ben):nU (es++[e])=nU es++[(e.key,.int e.num)]:=by unfold nU;simp
theorem xh (es:List Ben):(lE es).length=es.length:=by unfold lE;simp
def pG (ns:List Int) (n:Int):Prop:=0<=n/\n∉ns/\∀ m,0<=m->m<n->m∈ns
theorem DQ (ns:List Int):∃ n:Nat,pG ns n/\n<=ns.length:=by
 have key:∀ k:Nat,(∀ m:Int,0<=m->m<k->m∈ns)∨∃ n:Nat,n<k/\pG ns n:=by
  intro k
  induction k with
  | zero=>exact .inl fun m h1 h2=>by omega
  | succ k ih =>
   rcases ih with h | ⟨n,h1,h2⟩
   ·by_cases hk:(k:Int)∈ns
    ·exact .inl fun m h1 h2=>by
      by_cases e:m=k
      ·rw[e];exact hk
      ·exact h m h1 (by omega)
    ·exact .inr ⟨k,gZ _,by omega,hk,h⟩
   ·exact .inr ⟨n,by omega,h2⟩
 rcases key (ns.length+1) with h | ⟨n,h1,h2⟩
 ·exfalso
  have hs:∀ c∈(List.range (ns.length+1)).map (fun i:Nat=>(i:Int)),c∈ns:=fun c hc=>by
   obtain⟨i,hi,rfl⟩:=aM.mp hc
   have:=gm.mp hi
   exact h _ (by omega) (by omega)
  have nd:((List.range (ns.length+1)).map (fun i:Nat=>(i:Int))).Nodup:=List.Pairwise.map _ (fun a b (h:a≠b) z=>h (by omega)) List.nodup_range
  have:=List.Nodup.length_le_of_subset nd hs
  rw[aj,gk] at this
  omega
 ·exact⟨n,h2,by omega⟩
structure i7 (key:List Key):Prop where
 is:fI (key.map kV)=true
 few:key.length<=2
 short:∀ z,V.str z∈key.map kV->z.length<=50000
def cg (al:List Nat) (ws:List Int):Int:=(al.length:Int)^(ws.length-1)
theorem Ae {t:Addr} (ht:H t=some (.tup (key.map kV))) (ok:i7 key):lB H (.ref t)=true:=by
 show (match H t with | some (.tup xs)=>fI xs | _=>false)=true
 rw[ht];exact ok.is
theorem Ih {es:List Ben}{ns:List Int} (hp:ns.Perm ((es.map fun e=>(e.num,V.ref e.adr)).map (·.1))) (hs:ns.Pairwise (·<=·)) (hn:(es.map (·.num)).Nodup):∃ ms:List Ben,ms.Perm es/\ms.map (·.num)=ns/\(ms.map (·.num)).Pairwise (·<·):=by
 rw[aK] at hp
 have p1:(es.mergeSort fun a b=>decide (a.num<=b.num)).Perm es:=List.mergeSort_perm _ _
 have p2:=List.pairwise_mergeSort (le:=fun a b:Ben=>decide (a.num<=b.num)) (fun a b c h1 h2=>by simp only[bP] at *;omega) (fun a b=>by simp only[Bool.or_eq_true,bP];omega) es
 generalize es.mergeSort (fun a b=>decide (a.num<=b.num))=ms at p1 p2
 have p3:(ms.map (·.num)).Pairwise (·<=·):=List.pairwise_map.mpr (List.Pairwise.imp (fun h=>by simpa using h) p2)
 have e:ms.map (·.num)=ns:=PySem.W.ksm_same ((p1.map _).trans hp.symm) p3 hs
 refine⟨ms,p1,e,?_⟩
 have nd:(ms.map (·.num)).Nodup:=(p1.map _).nodup_iff.mpr hn
 exact List.Pairwise.imp (fun {a b} (h:a<=b/\a≠b)=>by omega) (p3.and nd)
def GX (H:Hp) (vs:List V) (tss:List (List V)):Prop:=Paired (fun v ts=>∃ p,v=V.ref p/\H p=some (.tup ts)) vs tss
theorem qB {α β γ:Type}{F:α->γ->Prop}{f:β->γ}:∀ {l₁:List α}{l₂:List β},Paired F l₁ (l₂.map f)->Paired (fun a b=>F a (f b)) l₁ l₂
 | [],[],_=>.nil
 | _::_,_::_,.cons r t=>.cons r (qB t)
theorem Ap {J:It}{H1:Hp}{js:List Nat}{σ:St}{te:TE}{Q:VK} (hJ:J.Seq H1 xs) (hl:xs.length<sizeLine) (tss:List (List V)) (hn:tss.length=xs.length)
  (he:∀ (i:Nat) x ts,xs[i]?=some x->tss[i]?=some ts->∀ H,aD H1 H->∀ R:VK,(∀ p H',H p=none->aD H H'->H' p=some (.tup ts)->R (.ref p) H')->te (some x::js.map fun j=>(σ[j]?).join) H R)
  (q:∀ D vs H,H1 D=none->aD H1 H->H D=some (.lst vs)->GX H vs tss->Q (.ref D) H):fD (fT 0) Cr te (i9 1 js σ) J H1 Q:=by
 intro D hD
 refine⟨fun i m ys σ1 H=>m=xs.length-i/\i<=xs.length/\(∃ o,σ1=o::js.map fun j=>(σ[j]?).join)/\ys.length=i/\GX H ys (tss.take i)/\aD H1 H/\H D=some (.lst ys),
  ⟨xs.length,by simp,bN _,⟨none,rfl⟩,rfl,.nil,(aD.refl H1).fi hD,aS⟩,?_⟩
 rintro i m ys σ1 H ⟨rfl,hi,⟨o,rfl⟩,hy,hg,sH,hL⟩
 refine⟨hL,by omega,?_⟩
 by_cases hlt:i<xs.length
 ·have e:xs[i]?=some xs[i]:=bu hlt
  have e2:tss[i]?=some (tss[i]'(by omega)):=bu _
  obtain⟨go,yl⟩:=(hJ H sH).1 i xs[i] e
  refine .inr ⟨go,fun x H' y=>?_⟩
  obtain⟨q1,q2⟩:=yl x H' y
  subst q1 q2
  show te (some xs[i]::js.map fun j=>(σ[j]?).join) H' _
  refine he i _ _ e e2 H' sH _ fun p H4 w4 s4 hp=>?_
  have hL4:=s4 _ _ hL
  have pD:p≠D:=(b8 hL w4).symm
  refine⟨hL4,xs.length-(i+1),by omega,rfl,hlt,⟨_,rfl⟩,by rw[ah,hy];rfl,?_,(sH.trans s4).fi hD,aS⟩
  rw[m4,e2]
  refine qz (qA (fun v ts ⟨b,eb,hb⟩=>⟨b,eb,?_⟩) hg) (.cons ⟨p,rfl,by rw[aP pD];exact hp⟩ .nil)
  have h4:=s4 _ _ hb
  rw[aP (qx h4 hL4 (by intro z;cases z))];exact h4
 ·have e:i=xs.length:=by omega
  subst e
  rw[dZ (by omega)] at hg
  exact .inl ⟨(hJ H sH).2 _ (aA _),q D ys H hD sH hL hg⟩
theorem DI (H:Hp) (z:Key):∃ t,eI H (kV z)=some t:=by
 cases z with
 | inl i=>exact⟨.int,rfl⟩
 | inr s=>exact⟨.str,rfl⟩
def wq (H:Hp) (p:Addr):Prop:=∃ (ks:List Key),H p=some (.tup (ks.map kV))/\fI (ks.map kV)=true/\1<=ks.length/\ks.length<=2/\∀ z∈ks,∃ l:List Nat,z=.inr (tx l)/\l.length<=1000
theorem wq.same {H H':Hp} (s:aD H H') (h:wq H p):wq H' p:=by
 obtain⟨ks,e1,e2⟩:=h
 exact⟨ks,s _ _ e1,e2⟩
theorem Il (h:wq H p):∃ ks:List Key,H p=some (.tup (ks.map kV))/\i7 ks:=by
 obtain⟨ks,h1,h2,h3,h4,h5⟩:=h
 refine⟨ks,h1,h2,h4,fun z hz=>?_⟩
 obtain⟨u,hu,e⟩:=aM.mp hz
 obtain⟨l,el,ll⟩:=h5 u hu
 rw[el] at e
 have e':tx l=z:=V.str.inj e
 rw[←e',aJ];omega
theorem FI {ks:List Key} (hp:H p=some (.tup (ks.map kV))) (ok:i7 ks):eI H (.ref p)=some Tg.tup/\∀ q xs,V.ref p=.ref q->H q=some (.tup xs)->xs.length<=1000/\∀ y∈xs,(∃ t,eI H y=some t)/\∀ z,y=.str z->z.length<=50000:=by
 refine⟨by show i3 (H p)=_;rw[hp];rfl,fun q xs e e2=>?_⟩
 cases e
 rw[hp] at e2
 cases e2
 refine⟨by rw[aj];have:=ok.few;omega,fun y hy=>⟨?_,fun z ez=>ok.short z (by rw[←ez];exact hy)⟩⟩
 obtain⟨x,_,rfl⟩:=aM.mp hy
 exact DI H x
def bU (al:List Nat) (ws:List Int) (r:Int):List Nat:=[99,111,100,101,32]++al++[32]++Mk.b7 44 (ws.map fun w=>Mk.dgN w.toNat)++[32]++Mk.dgN r.toNat
def fH:List Key->List Nat
 | [.inr z,.inr y]=>if z=("phrase":Str) then [32,61,32]++y.cps.toList else [32,43,32]++y.cps.toList
 | _=>[32,46]
def wdL (al:List Nat) (ws:List Int) (r:Int) (k:Int):List Nat:=Mk.gC al (Mk.ir al.length ws r k)
def cz (al:List Nat) (ws:List Int) (r:Int) (m:Ben):List Nat:=wdL al ws r m.num++fH m.key
def eu (al:List Nat) (ws:List Int) (r:Int) (ms:List Ben):List Nat:=Mk.b7 10 (bU al ws r::ms.map (cz al ws r))
theorem eQ (ok:i7 key):key=[.inr ("end":Str)]∨(∃ l,key=[.inr ("phrase":Str),.inr (tx l)]/\fj 6 l=true/\l.length<=50000)∨∃ l,key=[.inr ("part":Str),.inr (tx l)]/\dv 6 l=true/\l.length<=50000:=by
 have h:=ok.is
 have hs:=ok.short
 match key,h,hs with
 | [.inr z],h,_=>exact .inl (by rw[gy (show decide (z=("end":Str))=true from h)])
 | [.inr z,.inr y],h,hs =>
  have hl:y.cps.toList.length<=50000:=by rw[show y.cps.toList.length=y.length from by show _=y.cps.size;simp];exact hs y (by simp [kV])
  have h':(if z=("phrase":Str) then fj 6 y.cps.toList else if z=("part":Str) then dv 6 y.cps.toList else false)=true:=h
  split at h'
  ·rename_i e
   exact .inr (.inl ⟨y.cps.toList,by rw[e,iq],h',hl⟩)
  ·split at h'
   ·rename_i e
    exact .inr (.inr ⟨y.cps.toList,by rw[e,iq],h',hl⟩)
   ·cases h'
 | [.inr z,.inl y],h,_ =>
  have h':(if z=("phrase":Str) then false else if z=("part":Str) then false else false)=true:=h
  split at h'
  ·cases h'
  ·split at h'<;>cases h'
 | [],h,_=>cases h
 | [.inl _],h,_=>cases h
 | .inl _::_::_,h,_=>cases h
 | .inr _::_::_::_,h,_=>cases h
theorem zJ (hws:∀ w∈ws,0<=w/\w<26) (w8:ws.length<=8):(Mk.b7 44 (ws.map fun w=>Mk.dgN w.toNat)).length<=24:=by
 have h1:=Mk.jR (c:=44) (ws.map fun w=>Mk.dgN w.toNat)
 have h2:((ws.map fun w=>Mk.dgN w.toNat).map fun w=>w.length+1).sum<=3*ws.length:=by
  clear h1 w8
  induction ws with
  | nil=>simp
  | cons w r ih =>
   have h3:=ih (fun x hx=>hws x (bb _ hx))
   have h5:=hws w aR
   have h4:=(Mk.dW w.toNat (by omega)).2.1
   simp only[aQ,fb,ag] at h3 h4 ⊢
   omega
 omega
theorem fz {r g:Int} (ok:bf al ws r) (h0:0<=g) (h1:g<cg al ws):(wdL al ws r g).length=ws.length/\(∀ c∈wdL al ws r g,97<=c/\c<123)/\Mk.fe al ws r (wdL al ws r g)=true/\Mk.numOf al.length (Mk.plc al (wdL al ws r g).dropLast)=g:=by
 have a3:=ok.a3
 have a26:=ok.a26
 have w3:=ok.w3
 have hl:=Mk.Cy (m:=(al.length:Int)) (r:=r) (k:=g) (ws:=ws) (by omega)
 have hm:=Mk.Cz (m:=(al.length:Int)) (r:=r) (k:=g) (ws:=ws) (by omega) (by omega) ok.wm ok.safe (by omega)
 have hg:=Mk.zK (m:=(al.length:Int)) (r:=r) (k:=g) (ws:=ws) (by omega) (by omega) ok.wm ok.safe (by omega)
 have hn:=Mk.C5 (m:=(al.length:Int)) (r:=r) (k:=g) (ws:=ws) (by omega) h0 h1
 unfold wdL
 refine⟨by rw[Mk.qh,hl],fun c hc=>?_,by rw[Mk.yP ok.nd hl hm];exact hg,?_⟩
 ·unfold Mk.gC at hc
  obtain⟨x,hx,rfl⟩:=aM.mp hc
  have:=hm x hx
  refine ok.abc _ ?_
  rw[cU,bu (show x.toNat<al.length by omega)]
  exact iR _
 ·have e:(Mk.gC al (Mk.ir al.length ws r g)).dropLast=Mk.gC al (Mk.ir al.length ws r g).dropLast:=by unfold Mk.gC;rw[List.map_dropLast]
  rw[e,Mk.pW ok.nd (fun p hp=>hm p (List.dropLast_subset _ hp))]
  exact hn
theorem jb (c:Nat) (l:List Nat):Mk.b7 c (Mk.aZ c l)=l:=by
 have h:=StrLaws.join_split (tx l) (tx [c])
 rw[xT,nK] at h
 exact dG h
theorem fS (l:List Nat):fH [.inr (Str.ofString "phrase"),.inr (tx l)]=[32,61,32]++l:=by simp [fH,b0]
theorem fR (l:List Nat):fH [.inr (Str.ofString "part"),.inr (tx l)]=[32,43,32]++l:=by
 have:¬ Str.ofString "part"=Str.ofString "phrase":=by decide
 simp [fH,this,b0]
theorem Cw {n:Nat}{l:List Nat} (h:fj n l=true):l.length<=21*n/\∀ c∈l,c=32∨(97<=c/\c<123):=by
 unfold fj at h
 rw[bS,bP,bM] at h
 have hw:∀ w∈Mk.aZ 32 l,w.length<=20/\∀ c∈w,97<=c/\c<123:=fun w hw=>by
  have:=h.2 w hw
  unfold dv at this
  simp only[bS,bP,bM] at this
  exact⟨this.1.2,this.2⟩
 refine⟨?_,fun c hc=>?_⟩
 ·have:=(wV h.1 fun w hx=>(hw w hx).1).1
  rwa [jb] at this
 ·rw[←jb 32 l] at hc
  have mj:∀ (ls:List (List Nat)),c∈Mk.b7 32 ls->c=32∨∃ w∈ls,c∈w:=by
   intro ls
   induction ls with
   | nil=>intro h;cases h
   | cons a r ih =>
    intro h
    cases r with
    | nil=>exact .inr ⟨a,aR,h⟩
    | cons b r =>
     rcases bw.mp (show c∈a++32::Mk.b7 32 (b::r) from h) with h | h
     ·exact .inr ⟨a,aR,h⟩
     ·rcases aH.mp h with h | h
      ·exact .inl h
      ·rcases ih h with h | ⟨w,hw,h⟩
       ·exact .inl h
       ·exact .inr ⟨w,bb _ hw,h⟩
  rcases mj _ hc with h | ⟨w,hx,h⟩
  ·exact .inl h
  ·exact .inr ((hw w hx).2 c h)
theorem u9 {n:Nat}{l:List Nat} (h:dv n l=true):l.length<=n/\∀ c∈l,97<=c/\c<123:=by
 unfold dv at h
 simp only[bS,bP,bM] at h
 exact⟨h.1.2,h.2⟩
theorem rN (ok:i7 key):(fH key).length<=130/\10∉fH key:=by
 rcases eQ ok with rfl | ⟨l,rfl,h,_⟩ | ⟨l,rfl,h,_⟩
 ·exact⟨by decide,by decide⟩
 ·obtain⟨h1,h2⟩:=Cw h
  rw[fS,ah]
  refine⟨by simp only[ag,ax];omega,fun z=>?_⟩
  rcases bw.mp z with z | z
  ·revert z;decide
  ·have:=h2 _ z;omega
 ·obtain⟨h1,h2⟩:=u9 h
  rw[fR,ah]
  refine⟨by simp only[ag,ax];omega,fun z=>?_⟩
  rcases bw.mp z with z | z
  ·revert z;decide
  ·have:=h2 _ z;omega
theorem lA {m:Ben} (ok:bf al ws r) (h:i7 m.key/\0<=m.num/\m.num<cg al ws):(cz al ws r m).length<=138:=by
 have:=(fz ok h.2.1 h.2.2).1
 have:=(rN h.1).1
 have:=ok.w8
 unfold cz
 rw[ah]
 omega
theorem jM (ok:bf al ws r):(bU al ws r).length<=60:=by
 have a26:=ok.a26
 have rm:=ok.rm
 have h1:=zJ (fun w hw=>by have:=ok.wm w hw;exact⟨this.1,by omega⟩) ok.w8
 have h2:=(Mk.dW r.toNat (by omega)).2.1
 unfold bU
 simp only[ah,ag,ax]
 omega
theorem xI {n:Nat} (h:∀ l∈ls,l.length<=n):(ls.map (·.length)).sum<=n*ls.length:=by
 induction ls with
 | nil=>simp
 | cons l r ih =>
  have h1:=ih fun x hx=>h x (bb _ hx)
  have h2:=h l aR
  simp only[aQ,fb,ag]
  rw[Nat.mul_add]
  omega
def Dj:List Key->List V
 | [.inr z,.inr y]=>if z=("phrase":Str) then [.str (tx [61]),.str y] else [.str (tx [43]),.str y]
 | _=>[.str (tx [46])]
theorem FG (l:List Nat):Dj [.inr (Str.ofString "phrase"),.inr (tx l)]=[.str (tx [61]),.str (tx l)]:=by simp [Dj]
theorem FF (l:List Nat):Dj [.inr (Str.ofString "part"),.inr (tx l)]=[.str (tx [43]),.str (tx l)]:=by
 have:¬ Str.ofString "part"=Str.ofString "phrase":=by decide
 simp [Dj,this]
theorem mI {c d:Nat}:∀ (ls:List (List Nat)),c∈Mk.b7 d ls->c=d∨∃ w∈ls,c∈w
 | [],h=>by cases h
 | [a],h=>.inr ⟨a,aR,h⟩
 | a::b::r,h=>by
  rcases bw.mp (show c∈a++d::Mk.b7 d (b::r) from h) with h | h
  ·exact .inr ⟨a,aR,h⟩
  ·rcases aH.mp h with h | h
   ·exact .inl h
   ·rcases mI (b::r) h with h | ⟨w,hw,h⟩
    ·exact .inl h
    ·exact .inr ⟨w,bb _ hw,h⟩
theorem cK (ok:bf al ws r):Mk.aZ 32 (bU al ws r)=[[99,111,100,101],al,Mk.b7 44 (ws.map fun w=>Mk.dgN w.toNat),Mk.dgN r.toNat]/\10∉bU al ws r:=by
 have a26:=ok.a26
 have rm:=ok.rm
 have hd:∀ w:Int,0<=w/\w<26->∀ c∈Mk.dgN w.toNat,48<=c/\c<58:=fun w hw=>(Mk.dW w.toNat (by omega)).2.2.1
 have hr:=hd r (by omega)
 have hj:∀ c∈Mk.b7 44 (ws.map fun w=>Mk.dgN w.toNat),c=44∨(48<=c/\c<58):=fun c hc=>by
  rcases mI _ hc with h | ⟨l,hl,h⟩
  ·exact .inl h
  ·obtain⟨w,hw,rfl⟩:=aM.mp hl
   have:=ok.wm w hw
   exact .inr (hd w (by omega) c h)
 have e:bU al ws r=Mk.b7 32 [[99,111,100,101],al,Mk.b7 44 (ws.map fun w=>Mk.dgN w.toNat),Mk.dgN r.toNat]:=by
  unfold bU
  simp [Mk.b7]
 constructor
 ·rw[e]
  refine Mk.cT _ (by simp) fun w hw=>?_
  simp only[aH,dh,dm] at hw
  rcases hw with rfl | rfl | rfl | rfl
  ·decide
  ·intro h;have:=ok.abc _ h;omega
  ·intro h;have:=hj _ h;omega
  ·intro h;have:=hr _ h;omega
 ·intro h
  rw[e] at h
  rcases mI _ h with h | ⟨w,hw,hx⟩
  ·omega
  ·simp only[aH,dh,dm] at hw
   rcases hw with rfl | rfl | rfl | rfl
   ·revert hx;decide
   ·have:=ok.abc _ hx;omega
   ·have:=hj _ hx;omega
   ·have:=hr _ hx;omega
theorem pX {m:Ben} (ok:bf al ws r) (h:i7 m.key/\0<=m.num/\m.num<cg al ws):(Mk.bZ 32 2 [] (cz al ws r m)).map (fun w=>V.str (tx w))=V.str (tx (wdL al ws r m.num))::Dj m.key/\10∉cz al ws r m:=by
 obtain⟨w1,w2,_⟩:=fz ok h.2.1 h.2.2
 have n32:32∉wdL al ws r m.num:=fun z=>by have:=w2 _ z;omega
 constructor
 ·unfold cz
  rcases eQ h.1 with e | ⟨l,e,hl,_⟩ | ⟨l,e,hl,_⟩
  ·rw[e,show fH [.inr (Str.ofString "end")]=32::[46] from rfl,Mk.dC 1 _ _ _ n32,Mk.jo _ _ _ (by decide)]
   rfl
  ·rw[e,fS,FG,show [32,61,32]++l=32::([61]++32::l) from rfl,Mk.dC 1 _ _ _ n32,Mk.dC 0 _ _ _ (by decide),Mk.bZ]
   rfl
  ·rw[e,fR,FF,show [32,43,32]++l=32::([43]++32::l) from rfl,Mk.dC 1 _ _ _ n32,Mk.dC 0 _ _ _ (by decide),Mk.bZ]
   rfl
 ·intro z
  rcases bw.mp z with z | z
  ·have:=w2 _ z;omega
  ·exact (rN h.1).2 z
def nk (m:Ben):Int×List Key:=(m.num,m.key)
theorem yW {a b:List Ben} (h:a.map nk=b.map nk):a.map (·.num)=b.map (·.num):=by
 have:=aG (List.map (·.1)) h
 rwa [aK,aK] at this
theorem IJ {a b:List Ben} (h:a.map nk=b.map nk):a.map (·.key)=b.map (·.key):=by
 have:=aG (List.map (·.2)) h
 rwa [aK,aK] at this
theorem Aq:∀ {l l':List (Int×List Key)},l.Perm l'->(l.map (·.1)).Pairwise (·<·)->(l'.map (·.1)).Pairwise (·<·)->l=l'
 | [],l',p,_,_=>(List.nil_perm.mp p).symm
 | a::r,[],p,_,_=>absurd (List.perm_nil.mp p) (by simp)
 | a::r,b::r',p,h1,h2=>by
  obtain⟨a1,a2⟩:=List.pairwise_cons.mp h1
  obtain⟨b1,b2⟩:=List.pairwise_cons.mp h2
  have e:a=b:=by
   rcases aH.mp (p.mem_iff.mp aR) with h | h
   ·exact h
   ·rcases aH.mp (p.mem_iff.mpr aR) with h' | h'
    ·exact h'.symm
    ·have q1:b.1<a.1:=b1 _ (List.mem_map_of_mem (f:=fun e:Int×List Key=>e.1) h)
     have q2:a.1<b.1:=a1 _ (List.mem_map_of_mem (f:=fun e:Int×List Key=>e.1) h')
     omega
  subst e
  rw[Aq (List.Perm.cons_inv p) a2 b2]
theorem nQ {a b:List Ben} (h:a.map nk=b.map nk):eu al ws r a=eu al ws r b:=by
 have e:∀ l:List Ben,l.map (cz al ws r)=(l.map nk).map fun q=>wdL al ws r q.1++fH q.2:=fun l=>by rw[aK];rfl
 unfold eu
 rw[e,e,h]
theorem vq {ms' es ms:List Ben} (h:es.map nk=ms.map nk) (mp:ms'.Perm es) (h1:(ms'.map (·.num)).Pairwise (·<·)) (h2:(ms.map (·.num)).Pairwise (·<·)):ms'.map nk=ms.map nk:=by
 have e:∀ l:List Ben,(l.map nk).map (·.1)=l.map (·.num):=fun l=>by rw[aK];rfl
 exact Aq ((mp.map nk).trans (by rw[h])) (by rw[e];exact h1) (by rw[e];exact h2)
theorem ui {ms:List Ben} (ok:bf al ws r) (h:∀ m∈ms,i7 m.key/\0<=m.num/\m.num<cg al ws):(eu al ws r ms).length<=139*ms.length+139:=by
 unfold eu
 have h1:=Mk.jR (c:=10) (bU al ws r::ms.map (cz al ws r))
 have h2:∀ (ls:List (List Nat)),(∀ l∈ls,l.length<=138)->(ls.map fun w=>w.length+1).sum<=139*ls.length:=fun ls=>by
  induction ls with
  | nil=>simp
  | cons l r ih =>
   intro h
   have h1:=ih fun x hx=>h x (bb _ hx)
   have h2:=h l aR
   simp only[aQ,fb,ag]
   rw[Nat.mul_add]
   omega
 have h3:=h2 (bU al ws r::ms.map (cz al ws r)) fun l hl=>by
  rcases aH.mp hl with rfl | hl
  ·have:=jM ok;omega
  ·obtain⟨m,hm,rfl⟩:=aM.mp hl
   exact lA ok (h m hm)
 rw[ag,aj] at h3
 omega
structure tT (al:List Nat) (ws:List Int) (ms:List Ben):Prop where
 few:ms.length<=300
 en:∀ m∈ms,i7 m.key/\0<=m.num/\m.num<cg al ws
 up:(ms.map (·.num)).Pairwise (·<·)
 nk:(ms.map (·.key)).Nodup
theorem De {m d:Nat} (hm:0<m) (hd:d<10):Mk.dgN (10*m+d)=Mk.dgN m++Mk.dgN d:=by
 unfold Mk.dgN
 rw[←Nat.toDigits_append_toDigits (by decide) hm hd,cN]
theorem zZ:∀ d:Nat,d<10->Mk.dgN d=[48+d]:=by decide
def jK (l:List Nat):Prop:=1<=l.length/\l.length<=9/\(∀ c∈l,48<=c/\c<58)/\¬ (1<l.length/\l[0]?=some 48)
theorem FT:∀ (n:Nat) (l:List Nat),l.length=n+1->(∀ c∈l,48<=c/\c<58)->¬ (1<l.length/\l[0]?=some 48)->∃ m:Nat,l=Mk.dgN m/\m<10^(n+1)/\(l[0]?≠some 48->0<m):=by
 intro n
 induction n with
 | zero =>
  intro l hl hc _
  match l,hl with
  | [c],_ =>
   have:=hc c aR
   refine⟨c-48,by rw[zZ _ (by omega)];congr 1;omega,by omega,fun h=>?_⟩
   have:c≠48:=fun e=>h (by rw[e];rfl)
   omega
 | succ n ih =>
  intro l hl hc h0
  obtain⟨a,c,rfl⟩:∃ a c,l=a++[c]:=⟨l.dropLast,l.getLast (by intro e;rw[e] at hl;simp at hl),(oX _).symm⟩
  rw[ah] at hl
  simp only[ag,ax] at hl
  have ha:a[0]?=(a++[c])[0]?:=by rw[gi (by omega)]
  have n0:a[0]?≠some 48:=fun e=>h0 ⟨by rw[ah];simp;omega,by rw[←ha];exact e⟩
  obtain⟨m,e,hm,hp⟩:=ih a (by omega) (fun x hx=>hc x (fA _ hx)) (fun z=>n0 z.2)
  have hm0:=hp n0
  have hcc:=hc c (by simp)
  refine⟨10*m+(c-48),by rw[De hm0 (by omega),←e,zZ _ (by omega)];congr 2;omega,by rw[Nat.pow_succ];omega,fun _=>by omega⟩
theorem jK.dg {l:List Nat} (h:jK l):∃ m:Nat,l=Mk.dgN m/\m<1000000000:=by
 obtain⟨h1,h2,h3,h4⟩:=h
 obtain⟨m,e,hm,_⟩:=FT (l.length-1) l (by omega) h3 h4
 exact⟨m,e,bD hm (bJ (m5 (by decide) (show l.length-1+1<=9 by omega)) (by decide))⟩
theorem rj {a b:Nat} (h:Mk.dgN a=Mk.dgN b):a=b:=by
 have:=aG PySem.NumText.digitsVal h
 rwa [show PySem.NumText.digitsVal (Mk.dgN a)=a from pz _,show PySem.NumText.digitsVal (Mk.dgN b)=b from pz _] at this
theorem rS {m:Nat} (hm:m<26):jK (Mk.dgN m):=by
 obtain⟨d1,d2,d3,d4⟩:=Mk.dW m hm
 exact⟨d1,by omega,d3,fun h=>d4 (by omega) h.2⟩
theorem FX {w:List Nat} (ok:bf al ws r) (h:Mk.fe al ws r w=true):0<=Mk.numOf al.length (Mk.plc al w.dropLast)/\Mk.numOf al.length (Mk.plc al w.dropLast)<cg al ws/\wdL al ws r (Mk.numOf al.length (Mk.plc al w.dropLast))=w:=by
 have a3:=ok.a3
 have a26:=ok.a26
 have w3:=ok.w3
 have h':=h
 unfold Mk.fe Mk.dJ at h'
 simp only[bS,bP,bM] at h'
 obtain⟨⟨hl,hm⟩,hg⟩:=h'
 obtain⟨u,c,rfl⟩:∃ u c,w=u++[c]:=⟨w.dropLast,w.getLast (by intro e;rw[e] at hl;simp at hl;omega),(oX _).symm⟩
 rw[mf]
 rw[ah] at hl
 simp only[ag,ax] at hl
 have um:∀ x∈u,x∈al:=fun x hx=>hm x (fA _ hx)
 have pm:=Mk.vM um
 have pl:(Mk.plc al u).length=ws.length-1:=by rw[Mk.AD];omega
 obtain⟨b1,b2⟩:=Mk.oj (m:=al.length) (by omega) (Mk.plc al u) pm
 rw[pl] at b2
 refine⟨b1,b2,?_⟩
 unfold wdL Mk.ir
 have ef:=Mk.yM (m:=al.length) (by omega) (Mk.plc al u) pm
 rw[pl] at ef
 rw[ef]
 obtain⟨_,_,_,l4⟩:=Mk.mH (r:=r) (ps:=Mk.plc al u) (show (0:Int)<al.length by omega) (by omega) ok.wm (Mk.iG.mp ok.safe).1 (by omega)
 have cm:c∈al:=hm c (by simp)
 have ec:Mk.plc al (u++[c])=Mk.plc al u++[((al.idxOf c:Nat):Int)]:=by unfold Mk.plc;rw[cN];rfl
 rw[ec] at hg
 have ci:=mx cm
 rw[←(l4 ((al.idxOf c:Nat):Int) (by omega) (by omega)).mp hg,←ec]
 exact Mk.uJ hm
theorem Jz {r g g':Int} (ok:bf al ws r) (h0:0<=g) (h1:g<cg al ws) (h0':0<=g') (h1':g'<cg al ws) (e:wdL al ws r g=wdL al ws r g'):g=g':=by
 rw[←(fz ok h0 h1).2.2.2,←(fz ok h0' h1').2.2.2,e]
theorem wH {key key':List Key} (h:i7 key) (h':i7 key') (e:fH key=fH key'):key=key':=by
 rcases eQ h with rfl | ⟨l,rfl,_⟩ | ⟨l,rfl,_⟩<;>rcases eQ h' with rfl | ⟨l',rfl,_⟩ | ⟨l',rfl,_⟩<;>simp only[fS,fR] at e
 ·rfl
 ·exact absurd (aG (·[1]?) e) (by simp [fH])
 ·exact absurd (aG (·[1]?) e) (by simp [fH])
 ·exact absurd (aG (·[1]?) e) (by simp [fH])
 ·rw[List.append_cancel_left e]
 ·exact absurd (aG (·[1]?) e) (by simp)
 ·exact absurd (aG (·[1]?) e) (by simp [fH])
 ·exact absurd (aG (·[1]?) e) (by simp)
 ·rw[List.append_cancel_left e]
abbrev jt (al:List Nat) (ws:List Int) (m:Ben):Prop:=i7 m.key/\0<=m.num/\m.num<cg al ws
theorem vP {m:Ben}{w s:List Nat} (ok:bf al ws r) (h:jt al ws m) (hw:w.length=ws.length) (e:w++s=cz al ws r m):w=wdL al ws r m.num/\s=fH m.key:=by
 unfold cz at e
 exact List.append_inj e (by rw[hw,(fz ok h.2.1 h.2.2).1])
theorem lu {m m':Ben} (ok:bf al ws r) (h:jt al ws m) (h':jt al ws m') (e:cz al ws r m=cz al ws r m'):nk m=nk m':=by
 obtain⟨e1,e2⟩:=vP ok h' (fz ok h.2.1 h.2.2).1 e
 show (m.num,m.key)=(m'.num,m'.key)
 rw[Jz ok h.2.1 h.2.2 h'.2.1 h'.2.2 e1,wH h.1 h'.1 e2]
theorem Aa:∀ {ws ws':List Int},(∀ w∈ws,0<=w)->(∀ w∈ws',0<=w)->ws.map (fun w=>Mk.dgN w.toNat)=ws'.map (fun w=>Mk.dgN w.toNat)->ws=ws'
 | [],[],_,_,_=>rfl
 | [],_::_,_,_,e=>by cases e
 | _::_,[],_,_,e=>by cases e
 | w::r,w'::r',h,h',e=>by
  rw[aQ,aQ] at e
  injection e with e1 e2
  have:=rj e1
  have p:=h w aR
  have p':=h' w' aR
  rw[show w=w' by omega,Aa (fun x hx=>h x (bb _ hx)) (fun x hx=>h' x (bb _ hx)) e2]
theorem i5 {al al':List Nat}{ws ws':List Int}{r r':Int} (ok:bf al ws r) (ok':bf al' ws' r') (e:bU al ws r=bU al' ws' r'):al=al'/\ws=ws'/\r=r':=by
 have h:=(cK ok).1
 rw[e,(cK ok').1] at h
 injection h with _ h
 injection h with h1 h
 injection h with h2 h
 injection h with h3 _
 have f:∀ {al:List Nat}{ws:List Int}{r:Int},bf al ws r->Mk.aZ 44 (Mk.b7 44 (ws.map fun w=>Mk.dgN w.toNat))=ws.map fun w=>Mk.dgN w.toNat:=fun {al ws r} ok=>by
  refine Mk.cT _ (fun z=>by have h3:=ok.w3;have:=aG List.length z;rw[aj,ax] at this;omega) fun d hd=>?_
  obtain⟨w,hw,rfl⟩:=aM.mp hd
  have:=ok.wm w hw
  have:=ok.a26
  intro hc
  have:=(Mk.dW w.toNat (by omega)).2.2.1 _ hc
  omega
 have e2:=f ok
 rw[←h2,f ok'] at e2
 have:=rj h3
 have:=ok.rm
 have:=ok'.rm
 exact⟨h1.symm,(Aa (fun w hw=>(ok'.wm w hw).1) (fun w hw=>(ok.wm w hw).1) e2).symm,by omega⟩
structure CdW (ps:List (List Nat)) (al:List Nat) (ws:List Nat) (r:Nat):Prop where
 eq:ps=[[99,111,100,101],al,Mk.b7 44 (ws.map Mk.dgN),Mk.dgN r]
 ne:ws≠[]
 wf:∀ w∈ws,jK (Mk.dgN w)
 rf:jK (Mk.dgN r)
theorem qi (c:Nat):∀ l:List Nat,Mk.aZ c l≠[]
 | []=>by simp [Mk.aZ]
 | a::l=>by
  unfold Mk.aZ
  split
  ·simp
  ·split<;>simp
theorem uY (ok:bf al ws r):CdW (Mk.aZ 32 (bU al ws r)) al (ws.map Int.toNat) r.toNat:=by
 have a26:=ok.a26
 refine⟨by rw[(cK ok).1,aK];rfl,fun z=>by have w3:=ok.w3;have:=aG List.length z;rw[aj,ax] at this;omega,fun w hw=>?_,rS (by have:=ok.rm;omega)⟩
 obtain⟨x,hx,rfl⟩:=aM.mp hw
 have:=ok.wm x hx
 exact rS (by omega)
theorem Ii {l:List Nat}{al ws:List Nat}{r:Nat} (c:CdW (Mk.aZ 32 l) al ws r):l=bU al (ws.map fun w:Nat=>(w:Int)) r:=by
 rw[←jb 32 l,c.eq,bU,aK]
 simp [Mk.b7,Function.comp_def]
theorem nS {ws:List Nat} (h:ws≠[]) (hf:∀ w∈ws,jK (Mk.dgN w)):Mk.aZ 44 (Mk.b7 44 (ws.map Mk.dgN))=ws.map Mk.dgN:=by
 refine Mk.cT _ (fun z=>h (List.map_eq_nil_iff.mp z)) fun d hd hc=>?_
 obtain⟨w,hw,rfl⟩:=aM.mp hd
 have:=(hf w hw).2.2.1 _ hc
 omega
theorem map_inj {α β:Type}{f:α->β} (hf:∀ a b,f a=f b->a=b):∀ {l l':List α},l.map f=l'.map f->l=l'
 | [],[],_=>rfl
 | [],_::_,e=>by cases e
 | _::_,[],e=>by cases e
 | a::q,a'::q',e=>by
  rw[aQ,aQ] at e
  injection e with e1 e2
  rw[hf _ _ e1,map_inj hf e2]
theorem CdW.uniq {al al' ws ws':List Nat}{r r':Nat} (c:CdW ps al ws r) (c':CdW ps al' ws' r'):al'=al/\ws'=ws/\r'=r:=by
 have e:=c.eq
 rw[c'.eq] at e
 injection e with _ e
 injection e with e1 e
 injection e with e2 e
 injection e with e3 _
 have:=nS c'.ne c'.wf
 rw[e2,nS c.ne c.wf] at this
 exact⟨e1,(map_inj (fun a b=>rj) this).symm,rj e3⟩
theorem tO:∀ {ws:List Int},(∀ w∈ws,0<=w)->(ws.map Int.toNat).map (fun w:Nat=>(w:Int))=ws
 | [],_=>rfl
 | w::q,h=>by
  rw[aQ,aQ,tO fun x hx=>h x (bb _ hx),md (h w aR)]
theorem iN (c:Nat):∀ l:List Nat,(Mk.aZ c l).length=l.count c+1
 | []=>rfl
 | a::l=>by
  have ih:=iN c l
  unfold Mk.aZ
  split
  ·rename_i h
   rw[ag,ih,h,List.count_cons_self]
  ·rename_i h
   rw[me h,←ih]
   split
   ·rename_i e;exact absurd e (qi c l)
   ·rename_i e;rw[e];rfl
theorem sU {P:α->Prop}{xs:List α}{i:Int} (h:∀ v∈xs,P v) (h0:0<=i) (h1:i<xs.length):∃ v,atI xs i=some v/\P v:=by
 obtain⟨j,rfl⟩:=cC h0
 have hj:j<xs.length:=by omega
 exact⟨_,bB (bu hj),h _ (iR hj)⟩
theorem se {c:Nat}{x:List Nat}:∀ {ls:List (List Nat)},ls≠[]->Mk.b7 c (ls++[x])=Mk.b7 c ls++c::x
 | [],h=>absurd rfl h
 | [a],_=>by simp [Mk.b7]
 | a::b::q,_=>by
  show a++c::Mk.b7 c ((b::q)++[x])=(a++c::Mk.b7 c (b::q))++c::x
  rw[se (ls:=b::q) (by simp)]
  simp
structure MsO (al:List Nat) (ws:List Int) (ms:List Ben):Prop where
 few:ms.length<=300
 en:∀ m∈ms,jt al ws m
 nn:(ms.map (·.num)).Nodup
 nk:(ms.map (·.key)).Nodup
structure Rws (rows:List (List Nat)) (al:List Nat) (ws:List Int) (r:Int) (ms:List Ben):Prop where
 ok:bf al ws r
 mo:MsO al ws ms
 eq:rows=bU al ws r::ms.map (cz al ws r)
theorem Ke {l:List Int} (h:l.Pairwise (·<·)):l.Nodup:=List.Pairwise.imp (fun {a b} (h:a<b)=>by intro e;omega) h
theorem tT.o {ms:List Ben} (h:tT al ws ms):MsO al ws ms:=⟨h.few,h.en,Ke h.up,h.nk⟩
theorem rO {al:List Nat}{ws:List Int}{r:Int} (ok:bf al ws r):∀ {ms ms':List Ben},(∀ m∈ms,jt al ws m)->(∀ m∈ms',jt al ws m)->ms.map (cz al ws r)=ms'.map (cz al ws r)->ms.map nk=ms'.map nk
 | [],[],_,_,_=>rfl
 | [],_::_,_,_,e=>by cases e
 | _::_,[],_,_,e=>by cases e
 | m::t,m'::t',h,h',e=>by
  rw[aQ,aQ] at e
  injection e with e1 e2
  rw[aQ,aQ,lu ok (h m aR) (h' m' aR) e1,rO ok (fun x hx=>h x (bb _ hx)) (fun x hx=>h' x (bb _ hx)) e2]
theorem Rws.uniq {rows:List (List Nat)}{al al':List Nat}{ws ws':List Int}{r r':Int}{ms ms':List Ben} (h:Rws rows al ws r ms) (h':Rws rows al' ws' r' ms'):al=al'/\ws=ws'/\r=r'/\ms.map Kb.nk=ms'.map Kb.nk:=by
 have e:=h.eq
 rw[h'.eq] at e
 injection e with e1 e2
 obtain⟨rfl,rfl,rfl⟩:=i5 h'.ok h.ok e1
 exact⟨rfl,rfl,rfl,(rO h.ok h'.mo.en h.mo.en e2).symm⟩
structure qL (t:List Nat) (al:List Nat) (ws:List Int) (r:Int) (ms:List Ben):Prop where
 ok:bf al ws r
 mo:tT al ws ms
 eq:t=eu al ws r ms
def wt (t:List Nat):Prop:=∀ al ws r ms,¬ qL t al ws r ms
theorem qk {ms:List Ben} (ok:bf al ws r) (en:∀ m∈ms,jt al ws m):Mk.aZ 10 (eu al ws r ms)=bU al ws r::ms.map (cz al ws r):=by
 unfold eu
 refine Mk.cT _ (by simp) fun w hw=>?_
 rcases aH.mp hw with rfl | hw
 ·exact (cK ok).2
 ·obtain⟨m,hm,rfl⟩:=aM.mp hw
  exact (pX ok (en m hm)).2
theorem uj {ms:List Ben} (ok:bf al ws r) (en:∀ m∈ms,jt al ws m) (hx:10∉x):Mk.aZ 10 (eu al ws r ms++10::x)=(bU al ws r::ms.map (cz al ws r))++[x]:=by
 have e:eu al ws r ms++10::x=Mk.b7 10 ((bU al ws r::ms.map (cz al ws r))++[x]):=by rw[se (by simp)];rfl
 rw[e]
 refine Mk.cT _ (by simp) fun w hw=>?_
 rcases bw.mp hw with hw | hw
 ·rcases aH.mp hw with rfl | hw
  ·exact (cK ok).2
  ·obtain⟨m,hm,rfl⟩:=aM.mp hw
   exact (pX ok (en m hm)).2
 ·rw[bt.mp hw];exact hx
def yb (t:List Nat):Prop:=∀ al ws r ms,¬ Rws (Mk.aZ 10 t) al ws r ms
theorem qL.rws {t:List Nat}{ms:List Ben} (h:qL t al ws r ms):Rws (Mk.aZ 10 t) al ws r ms:=⟨h.ok,h.mo.o,by rw[h.eq];exact qk h.ok h.mo.en⟩
def qH:Sp:=fun vs H Q _=>∃ x t,vs=[x]/\eI H x=some t/\Q (.bl (decide (t=Tg.int))) H
theorem xN:aL ["thing"] ["thing"] (ay nC):=by subst_eqs
theorem xn (F:Fun K "is_whole" "is_whole" nC f fd) (T:Bl mg) (AF:AdF K mg Ad) :bI P w K mg base (CX1 P w) 1 f fd ["thing"] qH:=by
 refine F.okX (k:=0) xN ?_ ?_
 ·bv_decide
 ·bv_normalize
  obtain⟨x,t,rfl,ht,k⟩:=h
  refine⟨_,ak (aI (ny (a8 (eM .int) T.isinstance bt_isinstance (af (pvL 0) (af (iB T.int CT) (aa)))) (k9 (Jh (a8 (eM .bl) T.isinstance bt_isinstance (af (pvL 0) (af (iB T.bool F9) (aa)))))))),?_⟩
  ac_nf
  refine⟨trivial,t,ht,?_⟩
  cases t<;>(simp only[Tg.sub,if_true,hV,mQ,reduceCtorEq];first | exact k | exact⟨trivial,_,ht,k⟩)
def ji:Sp:=fun vs H Q _=>∃ a b:Int,vs=[.int a,.int b]/\Q (.int ((Int.gcd a b:Nat):Int)) H
theorem cX:aL ["one","other","left","right","over"] ["one","other"] (ay gF):=by subst_eqs
theorem om (F:Fun K "common_divisor" "common_divisor" gF f fd) (T:Bl mg) (AF:AdF K mg Ad) :bI P w K mg base (CX1 P w) 1 f fd ["one","other"] ji:=by
 refine F.okX (k:=0) cX ?_ ?_
 ·bv_decide
 ·bv_normalize
  obtain⟨a,b,rfl,k⟩:=h
  refine⟨_,ae (aB (i:=2) cX.nd (a8 pK T.abs yf (af (pvL 0) (aa)))) (ae (aB (i:=3) cX.nd (a8 pK T.abs yf (af (pvL 1) (aa)))) (ae (sX cO (bg (nv (K:=K) rfl hu) (pvL 3) (aq) (bo _)) (ae (aB (i:=4) cX.nd (az bC (pvL 2) (pvL 3))) (ae (aB (i:=2) cX.nd (pvL 3)) (ak (aB (i:=3) cX.nd (pvL 4)))))) (ak (aI (pvL 2))))),?_⟩
  ac_nf
  refine wj (fun σ H'=>H'=H/\∃ (l r:Nat) (o:Option V),σ=[some (.int a),some (.int b),some (.int l),some (.int r),o]/\Nat.gcd l r=Int.gcd a b)
   (fun σ _=>match σ with | [_,_,_,some (.int r),_]=>r.toNat | _=>0) ⟨rfl,a.natAbs,b.natAbs,none,rfl,rfl⟩ ?_
  rintro σ H' ⟨rfl,l,r,o,rfl,hg⟩
  ac_nf
  by_cases hr0:r=0
  ·subst hr0
   rw[Nat.gcd_zero_right] at hg
   subst hg
   exact k
  ·have e:(!decide ((r:Int)=0))=true:=by simp [hr0]
   rw[ao e]
   refine⟨_,fun _ _ h=>h,by omega,⟨rfl,r,l%r,some (.int ((l%r:Nat):Int)),?_,?_⟩,?_⟩
   ·rw[Int.natCast_emod]
   ·rw[←hg,Nat.gcd_comm l r,Nat.gcd_rec r l,Nat.gcd_comm]
   ·show ((l:Int)%(r:Int)).toNat<((r:Int)).toNat
    have h1:(l:Int)%(r:Int)<r:=df _ (by omega)
    have h2:0<=(l:Int)%(r:Int):=cA _ (by omega)
    omega
def fU (z:List Nat):Bool:=decide (3<=z.length)&&decide (z.length<=26)&&decide z.Nodup&&z.all fun c=>decide (97<=c/\c<123)
def gQ:V->Bool
 | .str z=>fU z.cps.toList
 | _=>false
def lT:Sp:=fun vs H Q _=>∃ (x:V) (t:Tg),vs=[x]/\eI H x=some t/\(∀ z,x=.str z->z.length<=50000)/\∀ H',aD H H'->Q (.bl (gQ x)) H'
theorem tD:aL ["thing"] ["thing"] (ay j9):=by subst_eqs
theorem sL (F:Fun K "is_alphabet" "is_alphabet" j9 f fd) (T:Bl mg) (AF:AdF K mg Ad) :bI P w K mg base (CX1 P w) 1 f fd ["thing"] lT:=by
 refine F.okX (k:=0) tD ?_ ?_
 ·bv_decide
 ·bv_normalize
  obtain⟨x,t,rfl,ht,hz,k⟩:=h
  refine⟨_,ae (bK ((kU (cx (c9 (a8 (eM .str) T.isinstance bt_isinstance (af (pvL 0) (af (iB T.str ky) (aa)))))) (iC (cx (oE ju ju (aq) (a8 (aY (K:=K) rfl) T.len bQ (af (pvL 0) (aa))) (aq))))).pt) (ak (aI (ip))) (aX)) (ak (aI (ny (dU (cQ (K:=K) rfl hu) (a8 (yg (P:=P) (w:=w) rfl rfl) T.len bQ (af (eS (Bg (P:=P) (w:=w) rfl rfl rfl) T.set Ie (af (pvL 0) (aa))) (aa))) (a8 (aY (K:=K) rfl) T.len bQ (af (pvL 0) (aa))) (bo _)) (k9 (a8 (gE (K:=K) rfl rfl) T.all mZ (af (jc ["sign"] rfl ⟨rfl,by decide +kernel,rfl,by decide +kernel⟩ (.nil) (by decide +kernel) (cF (K:=K) rfl (pvL 0)) (fun _ _ _ _=>aV (i:=0) (show (["sign"]:List Str).Nodup from by decide +kernel)) (fun _ _ _ _=>dM) (fun _ _ _ _=>dU (lF (K:=K) rfl hu1) (pvL 0) (gT AF.v_SMALL_LETTERS) (by kernel_rfl))) (aa))))))),?_⟩
  by_cases hs:∃ z,x=.str z
  ·obtain⟨z,rfl⟩:=hs
   cases ht
   have hl:=hz z rfl
   have hc:=cR z
   have ek:gQ (.str z)=fU z.cps.toList:=rfl
   ac_nf
   refine⟨trivial,Tg.str,rfl,?_⟩
   ac_nf
   refine⟨aN (av (by omega)),?_⟩
   by_cases h3:3<=z.length/\z.length<=26
   ·have d1:decide ((3:Int)<=(z.length:Int))=true:=aC (by omega)
    have d2:decide ((z.length:Int)<=26)=true:=aC (by omega)
    rw[d1]
    bv_omega
    rw[d2]
    bv_omega
    refine⟨by omega,fun p H1 hp s1 h1=>?_⟩
    refine⟨_,h1,aN (av (by omega)),?_⟩
    by_cases hn:z.cps.toList.Nodup
    ·have e1:=(uD z).mpr hn
     rw[e1,aC rfl]
     bv_omega
     refine qP (fun c:Nat=>V.str ⟨#[c]⟩) rX (tI z) (av (by omega)) (fun c=>.bl (decide (97<=c/\c<123))) ?_ ?_
     ·intro c hc H2 s2 R hR
      ac_nf
      rw[vi,mD]
      have e2:decide (c∈List.range' 97 26)=decide (97<=c/\c<123):=kr.mpr (by rw[List.mem_range'_1])
      rw[e2]
      exact hR H2 (aD.refl _)
     ·intro D H2 hD s2 h2
      refine⟨D,z.cps.toList.map fun c=>decide (97<=c/\c<123),rfl,.of (by rw[h2,aK];rfl),?_⟩
      have e:(z.cps.toList.map fun c=>decide (97<=c/\c<123)).all id=gQ (.str z):=by
       rw[ek]
       unfold fU
       rw[aC (show 3<=z.cps.toList.length by omega),aC (show z.cps.toList.length<=26 by omega),aC hn,eX];rfl
      rw[e]
      exact k H2 (s1.trans s2)
    ·have e1:decide (((dF (jJ z) z.length).length:Int)=(z.length:Int))=false:=aE fun e=>hn ((uD z).mp (by omega))
     rw[e1]
     bv_omega
     have e:gQ (.str z)=false:=by rw[ek];unfold fU;rw[aE hn];simp
     rw[e] at k
     exact k H1 s1
   ·have e:gQ (.str z)=false:=by
     rw[ek]
     unfold fU
     by_cases h4:3<=z.length
     ·rw[aE (show ¬ z.cps.toList.length<=26 by omega)];simp
     ·rw[aE (show ¬ 3<=z.cps.toList.length by omega)];simp
    rw[e] at k
    by_cases h4:3<=z.length
    ·have d1:decide ((3:Int)<=(z.length:Int))=true:=aC (by omega)
     have d2:decide ((z.length:Int)<=26)=false:=aE (by omega)
     rw[d1]
     bv_omega
     rw[d2]
     bv_omega
     exact k H (aD.refl _)
    ·have d1:decide ((3:Int)<=(z.length:Int))=false:=aE (by omega)
     rw[d1]
     bv_omega
     exact k H (aD.refl _)
  ·have hv:gQ x=false:=by
    cases x with
    | str z=>exact absurd ⟨z,rfl⟩ hs
    | _=>rfl
   have hne:=oS ht fun z e=>hs ⟨z,e⟩
   rw[hv] at k
   ac_nf
   refine⟨trivial,t,ht,?_⟩
   cases t<;>first
    | exact absurd rfl hne
    | exact k H (aD.refl _)
def nY (al:Str) (n:Int):V->Bool
 | .str z=>Mk.dJ al.cps.toList n z.cps.toList
 | _=>false
def tJ:Sp:=fun vs H Q _=>∃ (al:Str) (n:Int) (x:V) (t:Tg),vs=[.str al,.int n,x]/\eI H x=some t/\(∀ z,x=.str z->z.length<=100000)/\∀ H',aD H H'->Q (.bl (nY al n x)) H'
theorem zw:aL ["alphabet","length","thing"] ["alphabet","length","thing"] (ay pZ):=by subst_eqs
theorem zb (F:Fun K "is_word" "is_word" pZ f fd) (T:Bl mg) (AF:AdF K mg Ad) :bI P w K mg base (CX1 P w) 1 f fd ["alphabet","length","thing"] tJ:=by
 refine F.okX (k:=0) zw ?_ ?_
 ·bv_decide
 ·bv_normalize
  obtain⟨al,n,x,t,rfl,ht,hz,k⟩:=h
  refine⟨_,ae (bK ((kU (cx (c9 (a8 (eM .str) T.isinstance bt_isinstance (af (pvL 2) (af (iB T.str ky) (aa)))))) (iC (bg (nv (K:=K) rfl hu) (a8 (aY (K:=K) rfl) T.len bQ (af (pvL 2) (aa))) (pvL 1) (bo _)))).pt) (ak (aI (ip))) (aX)) (ak (aI (a8 (gE (K:=K) rfl rfl) T.all mZ (af (jc ["sign"] rfl ⟨rfl,by decide +kernel,rfl,by decide +kernel⟩ (.cons (j:=0) rfl (.inl (by kernel_rfl)) (.nil)) (by decide +kernel) (cF (K:=K) rfl (pvL 2)) (fun _ _ _ _=>aV (i:=0) (show (["sign","alphabet"]:List Str).Nodup from by decide +kernel)) (fun _ _ _ _=>dM) (fun _ _ _ _=>dU (lF (K:=K) rfl hu1) (pvL 0) (pvC 1) (by kernel_rfl))) (aa))))),?_⟩
  by_cases hs:∃ z,x=.str z
  ·obtain⟨z,rfl⟩:=hs
   cases ht
   have hl:=hz z rfl
   ac_nf
   refine⟨trivial,Tg.str,rfl,?_⟩
   ac_nf
   refine⟨aN (av hl),?_⟩
   have hl2:z.cps.toList.length<=100000:=by rw[←cR];exact hl
   by_cases hn:(z.length:Int)=n
   ·rw[ai (by simp [hn])]
    refine qP (fun c:Nat=>V.str ⟨#[c]⟩) rX (tI z) (av hl2) (fun c=>.bl (decide (c∈al.cps.toList))) ?_ ?_
    ·intro c hc H2 s2 R hR
     ac_nf
     rw[vi]
     exact hR H2 (aD.refl _)
    ·intro D H2 hD s2 h2
     refine⟨D,z.cps.toList.map fun c=>decide (c∈al.cps.toList),rfl,.of (by rw[h2,aK];rfl),?_⟩
     have e:(z.cps.toList.map fun c=>decide (c∈al.cps.toList)).all id=nY al n (.str z):=by
      show _=Mk.dJ al.cps.toList n z.cps.toList
      unfold Mk.dJ
      rw[aC (by rw[←cR];exact hn),fG,eX];rfl
     rw[e]
     exact k H2 s2
   ·rw[ao (by simp [hn])]
    have e:nY al n (.str z)=false:=by
     show Mk.dJ al.cps.toList n z.cps.toList=false
     unfold Mk.dJ
     rw[aE (by rw[←cR];exact hn),kT]
    rw[e] at k
    exact k H (aD.refl _)
  ·have hv:nY al n x=false:=by
    cases x with
    | str z=>exact absurd ⟨z,rfl⟩ hs
    | _=>rfl
   have hne:=oS ht fun z e=>hs ⟨z,e⟩
   rw[hv] at k
   ac_nf
   refine⟨trivial,t,ht,?_⟩
   cases t<;>first
    | exact absurd rfl hne
    | exact k H (aD.refl _)
def kO:Sp:=fun vs H Q _=>∃ al w:Str,vs=[.str al,.str w]/\w.length<=100000/\(∀ c∈w.cps.toList,c∈al.cps.toList)/\∀ p H',H p=none->aD H H'->H' p=some (.lst ((Mk.plc al.cps.toList w.cps.toList).map V.int))->Q (.ref p) H'
theorem vW:aL ["alphabet","word"] ["alphabet","word"] (ay lR):=by subst_eqs
theorem vI (F:Fun K "places_of" "places_of" lR f fd) (T:Bl mg) (AF:AdF K mg Ad) :bI P w K mg base (CX1 P w) 1 f fd ["alphabet","word"] kO:=by
 refine F.okX (k:=0) vW ?_ ?_
 ·bv_decide
 ·bv_normalize
  obtain⟨al,z,rfl,hl,hm,k⟩:=h
  refine⟨_,ak (aI (jc ["letter"] rfl ⟨rfl,by decide +kernel,rfl,by decide +kernel⟩ (.cons (j:=0) rfl (.inl (by kernel_rfl)) (.nil)) (by decide +kernel) (cF (K:=K) rfl (pvL 1)) (fun _ _ _ _=>aV (i:=0) (show (["letter","alphabet"]:List Str).Nodup from by decide +kernel)) (fun _ _ _ _=>dM) (fun _ _ _ _=>dy (K:=K) rfl cV PySem.F.slot_str_index PySem.F.type_str_index uE (pvC 1) (af (pvL 0) (aa))))),?_⟩
  ac_nf
  have hl2:z.cps.toList.length<=100000:=by rw[←cR];exact hl
  refine qP (fun c:Nat=>V.str ⟨#[c]⟩) rX (tI z) (av hl2) (fun c=>.int ((al.cps.toList.idxOf c:Nat):Int)) ?_ ?_
  ·intro c hc H2 s2 R hR
   ac_nf
   rw[rT (hm c hc)]
   exact⟨rfl,Int.natCast_nonneg _,hR H2 (aD.refl _)⟩
  ·intro D H2 hD s2 h2
   refine k D H2 hD s2 ?_
   rw[h2]
   unfold Mk.plc
   rw[aK]
   rfl
def tK:Sp:=fun vs H Q _=>∃ (al:Str) (q:Addr) (ps:List Int),vs=[.str al,.ref q]/\al.length<=1000/\H q=some (.lst (ps.map V.int))/\ps.length<=1000/\(∀ p∈ps,0<=p/\p<al.cps.toList.length)/\∀ H',aD H H'->Q (.str (tx (Mk.gC al.cps.toList ps))) H'
theorem zx:aL ["alphabet","places"] ["alphabet","places"] (ay qa):=by subst_eqs
theorem zc (F:Fun K "spelled" "spelled" qa f fd) (T:Bl mg) (AF:AdF K mg Ad) :bI P w K mg base (CX1 P w) 1 f fd ["alphabet","places"] tK:=by
 refine F.okX (k:=0) zx ?_ ?_
 ·bv_decide
 ·bv_normalize
  obtain⟨al,q,ps,rfl,hal,hq,hl,hm,k⟩:=h
  refine⟨_,ak (aI (dy (K:=K) rfl cV h9 hO (gS (K:=K) rfl) (au) (af (jc ["place"] rfl ⟨rfl,by decide +kernel,rfl,by decide +kernel⟩ (.cons (j:=0) rfl (.inl (by kernel_rfl)) (.nil)) (by decide +kernel) (cF (K:=K) rfl (pvL 1)) (fun _ _ _ _=>aV (i:=0) (show (["place","alphabet"]:List Str).Nodup from by decide +kernel)) (fun _ _ _ _=>dM) (fun _ _ _ _=>cw (dE (K:=K) rfl) (pvC 1) (pvL 0) (fun _ _=>rfl))) (aa)))),?_⟩
  ac_nf
  refine⟨by rfl,.inl ⟨⟨_,.of hq⟩,qP V.int gN (fv (.of hq)) (av (by omega)) (fun x=>.str (tx [al.cps.toList.getD x.toNat 0])) ?_ ?_⟩⟩
  ·intro x hx H5 t5 R hR
   ac_nf
   refine⟨aN (av (by omega)),_,uR (hm x hx).1 (Mk.getD_at (hm x hx)),?_⟩
   exact hR H5 (aD.refl _)
  ·intro D H5 hD t5 h5
   ac_nf
   refine⟨(Mk.gC al.cps.toList ps).map fun c=>tx [c],Iz (by rw[h5];unfold Mk.gC;rw[aK];rfl),Iy (by rw[Mk.qh];omega),?_⟩
   rw[Ga]
   exact k H5 t5
inductive jh (vs:List V) (H:Hp) (Q:VK) (E:XK):Prop
 | mk (m:Int) (p:Addr) (ws:List Int) (r:Int) (q:Addr) (ps:List Int) (q0:vs=[.int m,.ref p,.int r,.ref q]) (q1:0<m) (q2:H p=some (.lst (ws.map V.int))) (q3:H q=some (.lst (ps.map V.int))) (q4:ws.length<=100000) (q5:Mk.sml ws) (q6:Mk.sml ps) (q7:∀ H',aD H H'->Q (.bl (Mk.good m ws r ps)) H'):jh vs H Q E
theorem qD:aL ["m","weights","rest","places","total"] ["m","weights","rest","places"] (ay n5):=by subst_eqs
theorem xi (F:Fun K "are_good" "are_good" n5 f fd) (T:Bl mg) (AF:AdF K mg Ad) :bI P w K mg base (CX1 P w) 1 f fd ["m","weights","rest","places"] jh:=by
 refine F.okX (k:=0) qD ?_ ?_
 ·bv_decide
 ·bv_normalize
  obtain⟨m,p,ws,r,q,ps,rfl,hm,hp,hq,hl,hb,hb2,k⟩:=h
  refine⟨_,ae (aB (i:=4) qD.nd (a8 (Bj (K:=K) rfl rfl) T.sum Ig (af (jc ["weight","place"] rfl ⟨rfl,by decide +kernel,rfl,by decide +kernel⟩ (.nil) (by decide +kernel) (AA (K:=K) rfl T.zip (af (pvL 1) (af (pvL 3) (aa)))) (fun _ _ _ _=>rC (K:=K) (n:=2) rfl rfl (cG (aV (i:=0) (show (["weight","place"]:List Str).Nodup from by decide +kernel)) (cG (aV (i:=1) (show (["weight","place"]:List Str).Nodup from by decide +kernel)) (iu)))) (fun _ _ _ _=>dM) (fun _ _ _ _=>az vK (pvL 0) (pvL 1))) (aa)))) (ak (aI (dU (cQ (K:=K) rfl hu) (az bC (az ou (pvL 4) (pvL 2)) (pvL 0)) (aq) (bo _)))),?_⟩
  ac_nf
  refine⟨⟨_,.of hp⟩,⟨_,.of hq⟩,Ka V.int V.int gN gN (.of hp) (.of hq) (av hl) (fun a b=>.int (a*b)) ?_ ?_⟩
  ·intro a b hab H2 s2 R hR
   ac_nf
   exact⟨yk (hb a (my hab).1) (hb2 b (my hab).2),hR H2 (aD.refl _)⟩
  ·intro D H2 hD s2 h2
   ac_nf
   refine⟨D,(ws.zip ps).map fun x=>x.1*x.2,rfl,.of (by rw[h2,aK];rfl),?_⟩
   rw[Mk.Ab]
   ac_nf
   exact⟨hm,k H2 s2⟩
def fh (Ad:Ads):Sp:=fun vs H Q _=>∃ (a:Addr) (al:List Nat) (ws:List Int) (r:Int),vs=[.ref a]/\cP Ad H a al ws r/\Q (.str (tx al)) H
theorem qd:aL ["self"] ["self"] (ay ia):=by subst_eqs
theorem pR (F:Fun K "alphabet" "Code.alphabet" ia f fd) (T:Bl mg) (AF:AdF K mg Ad) :bI P w K mg base (CX1 P w) 1 f fd ["self"] (fh Ad):=by
 refine F.okX (k:=0) qd ?_ ?_
 ·bv_decide
 ·bv_normalize
  obtain⟨a,al,ws,r,rfl,⟨dx,q,h1,h2⟩,k⟩:=h
  refine⟨_,ak (aI (bW (K:=K) rfl (pvL 0))),?_⟩
  ac_nf
  exact⟨_,dx,_,_,h1,AF.c_Code,AF.n_Code_letters,dQ al q r,k⟩
def ik (Ad:Ads):Sp:=fun vs H Q _=>∃ (a:Addr) (al:List Nat) (ws:List Int) (r:Int),vs=[.ref a]/\cP Ad H a al ws r/\nw H (.lst (ws.map V.int)) Q
theorem qW:aL ["self"] ["self"] (ay iE):=by subst_eqs
theorem qS (F:Fun K "weights" "Code.weights" iE f fd) (T:Bl mg) (AF:AdF K mg Ad) :bI P w K mg base (CX1 P w) 1 f fd ["self"] (ik Ad):=by
 refine F.okX (k:=0) qW ?_ ?_
 ·bv_decide
 ·bv_normalize
  obtain⟨a,al,ws,r,rfl,⟨dx,q,h1,h2⟩,k⟩:=h
  refine⟨_,ak (aI (eS (nc (K:=K) rfl rfl) T.list ra (af (bW (K:=K) rfl (pvL 0)) (aa)))),?_⟩
  ac_nf
  exact⟨_,dx,_,_,h1,AF.c_Code,AF.n_Code_factors,fu al q r,_,.inl (.l h2),k⟩
def kL (Ad:Ads):Sp:=fun vs H Q _=>∃ (a:Addr) (al:List Nat) (ws:List Int) (r:Int),vs=[.ref a]/\cP Ad H a al ws r/\Q (.int r) H
theorem vU:aL ["self"] ["self"] (ay lJ):=by subst_eqs
theorem vA (F:Fun K "rest" "Code.rest" lJ f fd) (T:Bl mg) (AF:AdF K mg Ad) :bI P w K mg base (CX1 P w) 1 f fd ["self"] (kL Ad):=by
 refine F.okX (k:=0) vU ?_ ?_
 ·bv_decide
 ·bv_normalize
  obtain⟨a,al,ws,r,rfl,⟨dx,q,h1,h2⟩,k⟩:=h
  refine⟨_,ak (aI (bW (K:=K) rfl (pvL 0))),?_⟩
  ac_nf
  exact⟨_,dx,_,_,h1,AF.c_Code,AF.n_Code_remainder,hX al q r,k⟩
def eG (Ad:Ads):Sp:=fun vs H Q _=>∃ (a:Addr) (al:List Nat) (ws:List Int) (r:Int),vs=[.ref a]/\cP Ad H a al ws r/\al.length<=26/\1<=ws.length/\ws.length<=8/\∀ H',aD H H'->Q (.int ((al.length:Int)^(ws.length-1))) H'
theorem iw:aL ["self","product","weight"] ["self"] (ay lI):=by subst_eqs
theorem v8 (F:Fun K "many" "Code.many" lI f fd) (T:Bl mg) (AF:AdF K mg Ad) :bI P w K mg base (CX1 P w) 1 f fd ["self"] (eG Ad):=by
 refine F.okX (k:=0) iw ?_ ?_
 ·bv_decide
 ·bv_normalize
  obtain⟨a,al,ws,r,rfl,⟨dx,q,h1,h2⟩,h26,hw1,hw8,k⟩:=h
  refine⟨_,ae (aB (i:=1) iw.nd (aq)) (ae (fK cO rfl (cF (K:=K) rfl (bX (eP (K:=K) rfl) (bW (K:=K) rfl (pvL 0)) (cB (aq)) (cH))) (aV (i:=2) iw.nd) (ak (aB (i:=1) iw.nd (az vK (pvL 1) (a8 (aY (K:=K) rfl) T.len bQ (af (bW (K:=K) rfl (pvL 0)) (aa))))))) (ak (aI (pvL 1)))),?_⟩
  and_intros
  rw[dq]
  and_intros
  rw[dq]
  and_intros
  refine⟨_,dx,_,_,h1,AF.c_Code,AF.n_Code_factors,fu al q r,?_⟩
  and_intros
  refine⟨_,.of h2,fun p H1 hp s1 h3=>.inl ⟨⟨_,.of h3⟩,?_⟩⟩
  rw[show (1:Int)=((1:Nat):Int) from rfl,eN,←ke] at h3
  refine rp (xs:=(ws.drop 1).map V.int) (fun i σ H'=>H'=H1/\∃ o,σ=[some (.ref a),some (.int ((al.length:Int)^i)),o]) ?_ ?_ ?_ ?_
  ·exact⟨rfl,none,by simp⟩
  ·rintro i σ H' _ ⟨rfl,_⟩
   exact .of h3
  ·rintro i x σ H' hx ⟨rfl,o,rfl⟩
   have hi:i<ws.length-1:=by
    have:=(b9.mp hx).1
    rw[aj,bA] at this
    exact this
   ac_nf
   refine⟨_,dx,_,_,s1 _ _ h1,AF.c_Code,AF.n_Code_letters,dQ al q r,?_⟩
   ac_nf
   rw[aJ]
   refine⟨aN (av (by omega)),⟨?_,bD (show ((al.length:Int)).natAbs<1000 by omega) (by decide)⟩,trivial,some x,?_⟩
   ·have e:(((al.length:Int))^i).natAbs=al.length^i:=by rw[Int.natAbs_pow];rfl
    rw[e]
    refine gw (Nat.pow_le_pow_left h26 i) (gw (m5 (by decide) (show i<=8 by omega)) (by decide))
   ·rw[←Int.pow_succ]
  ·rintro σ H' ⟨rfl,o,rfl⟩
   rw[aj,bA]
   ac_nf
   exact k _ s1
def iK:Sp:=fun vs H Q _=>∃ (x:V) (t:Tg) (n:Nat),vs=[x,.int n]/\eI H x=some t/\(∀ z,x=.str z->z.length<=100000)/\n<=1000/\∀ H',aD H H'->Q (.bl (gM n x)) H'
theorem tf:aL ["thing","most"] ["thing","most"] (ay j7):=by subst_eqs
theorem sI (F:Fun K "are_letters" "are_letters" j7 f fd) (T:Bl mg) (AF:AdF K mg Ad) :bI P w K mg base (CX1 P w) 1 f fd ["thing","most"] iK:=by
 refine F.okX (k:=0) tf ?_ ?_
 ·bv_decide
 ·bv_normalize
  obtain⟨x,t,n,rfl,ht,hz,hn,k⟩:=h
  refine⟨_,ae (bK ((kU (cx (c9 (a8 (eM .str) T.isinstance bt_isinstance (af (pvL 0) (af (iB T.str ky) (aa)))))) (iC (cx (oE ju ju (aq) (a8 (aY (K:=K) rfl) T.len bQ (af (pvL 0) (aa))) (pvL 1))))).pt) (ak (aI (ip))) (aX)) (ak (aI (a8 (gE (K:=K) rfl rfl) T.all mZ (af (jc ["sign"] rfl ⟨rfl,by decide +kernel,rfl,by decide +kernel⟩ (.nil) (by decide +kernel) (cF (K:=K) rfl (pvL 0)) (fun _ _ _ _=>aV (i:=0) (show (["sign"]:List Str).Nodup from by decide +kernel)) (fun _ _ _ _=>dM) (fun _ _ _ _=>dU (lF (K:=K) rfl hu1) (pvL 0) (gT AF.v_SMALL_LETTERS) (by kernel_rfl))) (aa))))),?_⟩
  by_cases hs:∃ z,x=.str z
  ·obtain⟨z,rfl⟩:=hs
   cases ht
   have hl:=hz z rfl
   have hc:=cR z
   have ek:gM n (.str z)=dv n z.cps.toList:=rfl
   ac_nf
   refine⟨trivial,Tg.str,rfl,?_⟩
   ac_nf
   refine⟨aN (av (by omega)),?_⟩
   by_cases h1:1<=z.length
   ·rw[aC (show (1:Int)<=(z.length:Int) by omega)]
    bv_omega
    by_cases h2:z.length<=n
    ·rw[aC (show (z.length:Int)<=(n:Int) by omega)]
     bv_omega
     refine qP (fun c:Nat=>V.str ⟨#[c]⟩) rX (tI z) (av (by omega)) (fun c=>.bl (decide (97<=c/\c<123))) ?_ ?_
     ·intro c hc H2 s2 R hR
      ac_nf
      rw[vi,mD]
      have e2:decide (c∈List.range' 97 26)=decide (97<=c/\c<123):=kr.mpr (by rw[List.mem_range'_1])
      rw[e2]
      exact hR H2 (aD.refl _)
     ·intro D H2 hD s2 h2'
      refine⟨D,z.cps.toList.map fun c=>decide (97<=c/\c<123),rfl,.of (by rw[h2',aK];rfl),?_⟩
      have e:(z.cps.toList.map fun c=>decide (97<=c/\c<123)).all id=gM n (.str z):=by
       rw[ek]
       unfold dv
       rw[aC (show 1<=z.cps.toList.length by omega),aC (show z.cps.toList.length<=n by omega),eX];rfl
      rw[e]
      exact k H2 s2
    ·have e:gM n (.str z)=false:=by rw[ek];unfold dv;rw[aE (show ¬ z.cps.toList.length<=n by omega)];simp
     rw[e] at k
     rw[aE (show ¬ (z.length:Int)<=(n:Int) by omega)]
     bv_omega
     exact k H (aD.refl _)
   ·have e:gM n (.str z)=false:=by rw[ek];unfold dv;rw[aE (show ¬ 1<=z.cps.toList.length by omega)];simp
    rw[e] at k
    rw[aE (show ¬ (1:Int)<=(z.length:Int) by omega)]
    bv_omega
    exact k H (aD.refl _)
  ·have hv:gM n x=false:=by
    cases x with
    | str z=>exact absurd ⟨z,rfl⟩ hs
    | _=>rfl
   have hne:=oS ht fun z e=>hs ⟨z,e⟩
   rw[hv] at k
   ac_nf
   refine⟨trivial,t,ht,?_⟩
   cases t<;>first
    | exact absurd rfl hne
    | exact k H (aD.refl _)
def jm:Sp:=fun vs H Q _=>∃ l:List Nat,vs=[.str (tx l)]/\l.length<=100000/\(∀ m:Nat,l=Mk.dgN m->m<1000000000->jK l->∀ H',aD H H'->Q (.int m) H')/\(¬ jK l->∀ H',aD H H'->Q .non H')
theorem oM:aL ["text"] ["text"] (ay gH):=by subst_eqs
theorem oq (F:Fun K "number_written" "number_written" gH f fd) (T:Bl mg) (AF:AdF K mg Ad) :bI P w K mg base (CX1 P w) 1 f fd ["text"] jm:=by
 refine F.okX (k:=0) oM ?_ ?_
 ·bv_decide
 ·bv_normalize
  obtain⟨l,rfl,hl,k,kN⟩:=h
  refine⟨_,ae (bK ((kU (cx (oE ju ju (aq) (a8 (aY (K:=K) rfl) T.len bQ (af (pvL 0) (aa))) (gT AF.v_MOST_FIGURES))) (iC (cx (c9 (a8 (gE (K:=K) rfl rfl) T.all mZ (af (jc ["sign"] rfl ⟨rfl,by decide +kernel,rfl,by decide +kernel⟩ (.nil) (by decide +kernel) (cF (K:=K) rfl (pvL 0)) (fun _ _ _ _=>aV (i:=0) (show (["sign"]:List Str).Nodup from by decide +kernel)) (fun _ _ _ _=>dM) (fun _ _ _ _=>dU (lF (K:=K) rfl hu1) (pvL 0) (gT AF.v_FIGURES) (by kernel_rfl))) (aa))))))).pt) (ak (aI (fk))) (aX)) (ae (bK ((lG (bg k8 (a8 (aY (K:=K) rfl) T.len bQ (af (pvL 0) (aa))) (aq) (bo _)) (jf (bg (cQ (K:=K) rfl hu) (cw (dE (K:=K) rfl) (pvL 0) (aq) (fun _ _=>rfl)) (au) (bo _)))).pt) (ak (aI (fk))) (aX)) (ak (aI (eS Bc T.int CT (af (pvL 0) (aa)))))),?_⟩
  have l9:(tx l).length<=sizeLine:=aN (av (by rw[aJ];omega))
  grind
  refine⟨l9,?_⟩
  by_cases h1:1<=l.length
  rotate_left
  ·rw[aE (by rw[aJ];omega)]
   bv_omega
   and_intros
   exact kN (fun f=>h1 f.1) H (aD.refl _)
  rw[aC (by rw[aJ];omega)]
  bv_omega
  by_cases h2:l.length<=9
  rotate_left
  ·rw[aE (by rw[aJ];omega)]
   bv_omega
   and_intros
   exact kN (fun f=>h2 f.2.1) H (aD.refl _)
  rw[aC (by rw[aJ];omega)]
  bv_omega
  refine qP (fun c:Nat=>V.str ⟨#[c]⟩) rX (tI (tx l)) (av (by rw[b0];omega)) (fun c=>.bl (decide (48<=c/\c<58))) ?_ ?_
  ·intro c hc H2 s2 R hR
   ac_nf
   rw[vi,show (Str.ofString "0123456789").cps.toList=List.range' 48 10 from rfl,show decide (c∈List.range' 48 10)=decide (48<=c/\c<58) from kr.mpr (by rw[List.mem_range'_1])]
   exact hR H2 (aD.refl _)
  intro D H2 hD s2 h2'
  refine⟨D,l.map fun c=>decide (48<=c/\c<58),rfl,.of (by rw[h2',b0,aK];rfl),?_⟩
  by_cases h3:∀ c∈l,48<=c/\c<58
  rotate_left
  ·rw[show (l.map fun c=>decide (48<=c/\c<58)).all id=false from by
    rw[eX,←jq]
    exact fun z=>h3 fun c hc=>gy (bM.mp z c hc)]
   bv_omega
   and_intros
   exact kN (fun f=>h3 f.2.2.1) H2 s2
  rw[show (l.map fun c=>decide (48<=c/\c<58)).all id=true from by rw[eX];exact bM.mpr fun c hc=>aC (h3 c hc)]
  bv_omega
  show nn _ _ _
  cbv
  grind
  refine⟨l9,?_⟩
  have fin:jK l->∀ H3,aD H2 H3->∃ m':Nat,tx l=tx (Mk.dgN m')/\m'<1000000000/\Q (.int m') H3:=fun hf H3 s3=>by
   obtain⟨m,e,hm⟩:=hf.dg
   exact⟨m,by rw[←e],hm,k m e hm hf H3 (s2.trans s3)⟩
  by_cases h4:1<l.length
  ·rw[aC (by rw[aJ];omega)]
   bv_omega
   obtain⟨c,hc⟩:∃ c,l[0]?=some c:=⟨_,bu (by omega)⟩
   refine⟨l9,c,by rw[b0];exact bB hc,?_⟩
   by_cases h0:c=48
   ·rw[aC (show (⟨#[c]⟩:Str)=Str.ofString "0" by rw[h0];rfl)]
    bv_omega
    and_intros
    exact kN (fun f=>f.2.2.2 ⟨h4,by rw[hc,h0]⟩) H2 s2
   ·rw[aE (fun e=>h0 (by have:=aG (fun z:Str=>z.cps.toList) e;exact List.head_eq_of_cons_eq (show [c]=[48] from this)))]
    bv_omega
    show nn _ _ _
    cbv
    and_intros
    exact fin ⟨h1,h2,h3,fun z=>h0 (by have:=z.2;rw[hc] at this;exact Option.some.inj this)⟩ H2 (aD.refl _)
  ·rw[aE (by rw[aJ];omega)]
   bv_omega
   show nn _ _ _
   cbv
   and_intros
   exact fin ⟨h1,h2,h3,fun z=>h4 z.1⟩ H2 (aD.refl _)
def gc (Ad:Ads):Sp:=fun vs H Q _=>∃ (b dx ca:Addr),vs=[.ref b,.ref ca]/\H b=some (.ins Ad.Book dx [])/\∀ dn de H',H dn=none->H de=none->dn≠de->dn≠b->de≠b->(∀ c u,c≠b->H c=some u->H' c=some u)->H' b=some (.ins Ad.Book dx (rH ca dn de))->H' dn=some (.dK [])->H' de=some (.dT [])->Q .non H'
theorem vT:aL ["self","code"] ["self","code"] (ay fM):=by subst_eqs
theorem vz (F:Fun K "__init__" "Book.__init__" fM f fd) (T:Bl mg) (AF:AdF K mg Ad) :bI P w K mg base (CX1 P w) 1 f fd ["self","code"] (gc Ad):=by
 refine F.okX (k:=0) vT ?_ ?_
 ·bv_decide
 ·bv_normalize
  obtain⟨b,dx,ca,rfl,hb,k⟩:=h
  refine⟨_,ae (mL (K:=K) rfl (pvL 0) (pvL 1)) (ae (mL (K:=K) rfl (pvL 0) (xy)) (ak (mL (K:=K) rfl (pvL 0) (Cd)))),?_⟩
  ac_nf
  refine⟨_,_,_,hb,AF.c_Book,AF.n_Book_basis,by decide,fun p G1 z1 t1 g1=>?_⟩
  have np1:p≠b:=fun e=>by rw[e,aS] at z1;cases z1
  have hb1:=t1 b _ aS
  refine⟨_,_,_,hb1,AF.c_Book,AF.n_Book_by_number,gw (aA 1) (by decide),fun p2 G2 z2 t2 g2=>?_⟩
  have np2:p2≠b:=fun e=>by rw[e,aS] at z2;cases z2
  have hb2:=t2 b _ aS
  have k1:∀ c u,c≠b->H c=some u->G1 c=some u:=fun c u hc h=>t1 c u (by rw[aP hc];exact h)
  have k2:∀ c u,c≠b->G1 c=some u->G2 c=some u:=fun c u hc h=>t2 c u (by rw[aP hc];exact h)
  have ne:p≠p2:=fun e=>by rw[←e,aP np1,g1] at z2;cases z2
  refine⟨_,_,_,hb2,AF.c_Book,AF.n_Book_by_entry,gw (aA 2) (by decide),k p p2 _ ?_ ?_ ne np1 np2 (fun c u hc h=>by rw[aP hc];exact k2 c u hc (k1 c u hc h)) (by rw[aS];rfl) (by rw[aP np1];exact k2 _ _ np1 g1) (by rw[aP np2];exact g2)⟩
  ·cases e:H p with
   | none=>rfl
   | some o=>rw[aP np1,e] at z1;cases z1
  ·cases e:H p2 with
   | none=>rfl
   | some o=>rw[aP np2,k1 p2 o np2 e] at z2;cases z2
inductive kK (Ad:Ads) (vs:List V) (H:Hp) (Q:VK) (E:XK):Prop
 | mk (b ca dn de:Addr) (es:List Ben) (q0:vs=[.ref b]) (q1:cY Ad H b ca dn de es) (q2:Q (.ref ca) H):kK Ad vs H Q E
theorem vS:aL ["self"] ["self"] (ay lH):=by subst_eqs
theorem vy (F:Fun K "code" "Book.code" lH f fd) (T:Bl mg) (AF:AdF K mg Ad) :bI P w K mg base (CX1 P w) 1 f fd ["self"] (kK Ad):=by
 refine F.okX (k:=0) vS ?_ (fun cdv A outer s H vs Q E hr h=>?_)
 ·bv_decide
 ·obtain⟨b,ca,dn,de,es,rfl,B,k⟩:=h
  obtain⟨dx,h1⟩:=B.bk
  have hu:=hr.kP
  have hu1:=qp hr
  refine⟨_,ak (aI (bW (K:=K) rfl (pvL 0))),?_⟩
  ac_nf
  exact⟨_,dx,_,_,h1,AF.c_Book,AF.n_Book_basis,ja ca dn de,k⟩
inductive fF (Ad:Ads) (vs:List V) (H:Hp) (Q:VK) (E:XK):Prop
 | mk (b ca dn de:Addr) (es:List Ben) (q0:vs=[.ref b]) (q1:cY Ad H b ca dn de es) (q2:es.length<=300) (q3:(es.length<64∨(es.map (·.num)).Pairwise (·<=·))) (q4:∀ D ws (ms:List Ben) H',H D=none->aD H H'->H' D=some (.lst ws)->ms.Perm es->(ms.map (·.num)).Pairwise (·<·)->Paired (fun v (m:Ben)=>∃ p,v=V.ref p/\H' p=some (.tup [.int m.num,.ref m.adr])) ws ms->Q (.ref D) H'):fF Ad vs H Q E
theorem qV:aL ["self"] ["self"] (ay iD):=by subst_eqs
theorem qR (F:Fun K "entries" "Book.entries" iD f fd) (T:Bl mg) (AF:AdF K mg Ad) :bI P w K mg base (CX1 P w) 1 f fd ["self"] (fF Ad):=by
 refine F.okX (k:=0) qV ?_ (fun cdv A outer s H vs Q E hr h=>?_)
 ·bv_decide
 ·obtain⟨b,ca,dn,de,es,rfl,B,h300,h64,k⟩:=h
  obtain⟨dx,h1⟩:=B.bk
  have hu:=hr.kP
  have hu1:=qp hr
  refine⟨_,ak (aI (jc ["number"] rfl ⟨rfl,by decide +kernel,rfl,by decide +kernel⟩ (.cons (j:=0) rfl (.inl (by kernel_rfl)) (.nil)) (by decide +kernel) (cF (K:=K) rfl (a8 (yi rfl) T.sorted Ba (af (bW (K:=K) rfl (pvC 0)) (aa)))) (fun _ _ _ _=>aV (i:=0) (show (["number","self"]:List Str).Nodup from by decide +kernel)) (fun _ _ _ _=>dM) (fun _ _ _ _=>fE (af (pvL 0) (af (Em hu1 (bW (K:=K) rfl (pvC 1)) (pvL 0)) (aa)))))),?_⟩
  ac_nf
  refine⟨_,dx,_,_,h1,AF.c_Book,AF.n_Book_by_number,gD ca dn de,?_⟩
  ac_nf
  refine⟨es.map fun e:Ben=>(e.num,V.ref e.adr),.inl B.hn,h64.imp (fun h=>by rw[aj];exact h) (fun h=>by rw[aK];exact h),fun ns hp hs p G1 z1 t1 g1=>?_⟩
  ac_nf
  obtain⟨ms,mp,mn,ml⟩:=Ih hp hs B.nn
  have nl:(ns.map V.int).length<sizeLine:=av (by rw[aj,hp.length_eq,aj,aj];omega)
  refine .inl ⟨⟨_,.of g1⟩,Ap (fv (.of g1)) nl (ms.map fun m=>[V.int m.num,V.ref m.adr]) (by rw[aj,aj,←mn,aj]) ?_ ?_⟩
  ·intro i x ts hx hts G2 t2 R hR
   rw[bY] at hx hts
   obtain⟨m,hm,rfl⟩:=fB.mp hts
   have:ns[i]?=some m.num:=by rw[←mn,bY,hm];rfl
   rw[this] at hx
   cases hx
   have B2:=B.same (t1.trans t2)
   obtain⟨dx2,h2⟩:=B2.bk
   ac_nf
   exact⟨_,dx2,_,_,h2,AF.c_Book,AF.n_Book_by_number,gD ca dn de,_,_,rfl,.inl ⟨_,.inl m.num,.inl B2.hn,rfl,(r6 B2.nn (mp.mem_iff.mp (br hm))).symm⟩,aN (av (by decide)),fun p2 G3 z3 t3 g3=>hR p2 G3 z3 t3 g3⟩
  ·intro D ws G2 hD t2 g2 hT
   refine k D ws ms G2 (t1.free hD) (t1.trans t2) g2 mp ml (qB hT)
def oO:Sp:=fun vs H Q _=>∃ (w:List Nat) (p:Addr) (key:List Key),vs=[.str (tx w),.ref p]/\H p=some (.tup (key.map kV))/\i7 key/\w.length<=100/\∀ H',aD H H'->Q (.str (tx (w++fH key))) H'
theorem kI:aL ["word","entry","sign","letters"] ["word","entry"] (ay lM):=by subst_eqs
theorem vD (F:Fun K "entry_row" "entry_row" lM f fd) (T:Bl mg) (AF:AdF K mg Ad) :bI P w K mg base (CX1 P w) 1 f fd ["word","entry"] oO:=by
 refine F.okX (k:=0) kI ?_ ?_
 ·bv_decide
 ·bv_normalize
  obtain⟨w,p,key,rfl,hp,ok,hw,k⟩:=h
  refine⟨_,ae (bK (bg (cQ (K:=K) rfl hu) (cw (dE (K:=K) rfl) (pvL 1) (aq) (fun _ _=>rfl)) (au) (bo _)) (ak (aI (Ep (nz (pvL 0) (pV (zf)))))) (aX)) (ae (aB (i:=2) kI.nd (xA (bg (cQ (K:=K) rfl hu) (cw (dE (K:=K) rfl) (pvL 1) (aq) (fun _ _=>rfl)) (au) (bo _)) (au) (au))) (ae (aB (i:=3) kI.nd (cw (dE (K:=K) rfl) (pvL 1) (aq) (fun _ _=>rfl))) (ak (aI (Ep (nz (pvL 0) (pV (nz (pvL 2) (pV (nz (pvL 3) (zf))))))))))),?_⟩
  grind
  rcases eQ ok with rfl | ⟨l,rfl,_,hl⟩ | ⟨l,rfl,_,hl⟩
  ·refine⟨_,_,.t hp,bB (j:=0) rfl,?_⟩
   show qU K (V.str (Str.ofString "end")) (V.str (Str.ofString "end")) H _
   and_intros
   rw[ao (aC trivial)]
   rw[b0]
   refine⟨by omega,by rw[ah];exact bJ (Nat.add_le_add_right hw _) (by decide),?_⟩
   exact k H (aD.refl _)
  ·refine⟨_,_,.t hp,bB (j:=0) rfl,?_⟩
   show qU K (V.str (Str.ofString "phrase")) (V.str (Str.ofString "end")) H _
   and_intros
   rw[aE (by decide:¬ Str.ofString "phrase"=Str.ofString "end")]
   bv_omega
   show nn _ _ _
   cbv
   grind
   refine⟨_,_,.t hp,bB (j:=0) rfl,?_⟩
   show qU K (V.str (Str.ofString "phrase")) (V.str (Str.ofString "phrase")) H _
   and_intros
   rw[ao (aC trivial)]
   cbv
   grind
   refine⟨_,_,.t hp,bB (j:=1) rfl,?_⟩
   show nn _ [some (V.str (tx w)),some (V.ref p),some (V.str (Str.ofString "=")),some (V.str (tx l))] H
   cbv
   and_intros
   rw[b0,b0]
   have e:(Str.ofString " ").cps.toList=[32]:=rfl
   have e2:(Str.ofString "=").cps.toList=[61]:=rfl
   rw[e,e2]
   refine⟨by omega,by rw[ah];simp only[ag,ax];omega,by simp only[ah,ag,ax];omega,by simp only[ah,ag,ax];omega,by simp only[ah,ag,ax];omega,?_⟩
   have:=k H (aD.refl _)
   rw[fS] at this
   simpa using this
  ·refine⟨_,_,.t hp,bB (j:=0) rfl,?_⟩
   show qU K (V.str (Str.ofString "part")) (V.str (Str.ofString "end")) H _
   and_intros
   rw[aE (by decide:¬ Str.ofString "part"=Str.ofString "end")]
   bv_omega
   show nn _ _ _
   cbv
   grind
   refine⟨_,_,.t hp,bB (j:=0) rfl,?_⟩
   show qU K (V.str (Str.ofString "part")) (V.str (Str.ofString "phrase")) H _
   and_intros
   rw[aE (by decide:¬ Str.ofString "part"=Str.ofString "phrase"),ai (by decide)]
   cbv
   grind
   refine⟨_,_,.t hp,bB (j:=1) rfl,?_⟩
   show nn _ [some (V.str (tx w)),some (V.ref p),some (V.str (Str.ofString "+")),some (V.str (tx l))] H
   cbv
   and_intros
   rw[b0,b0]
   have e:(Str.ofString " ").cps.toList=[32]:=rfl
   have e2:(Str.ofString "+").cps.toList=[43]:=rfl
   rw[e,e2]
   refine⟨by omega,by rw[ah];simp only[ag,ax];omega,by simp only[ah,ag,ax];omega,by simp only[ah,ag,ax];omega,by simp only[ah,ag,ax];omega,?_⟩
   have:=k H (aD.refl _)
   rw[fR] at this
   simpa using this
def qM:List (List Nat)->Option (List Key)
 | [[46]]=>some [.inr (Str.ofString "end")]
 | [[61],y]=>some [.inr (Str.ofString "phrase"),.inr (tx y)]
 | [[43],y]=>some [.inr (Str.ofString "part"),.inr (tx y)]
 | _=>none
def jW:Sp:=fun vs H Q _=>∃ (p:Addr) (ps:List (List Nat)),vs=[.ref p]/\H p=some (.lst (ps.map fun l=>V.str (tx l)))/\(qM ps=none->∀ H',aD H H'->Q .non H')/\∀ key,qM ps=some key->∀ t H',H t=none->aD H H'->H' t=some (.tup (key.map kV))->Q (.ref t) H'
theorem qf:aL ["parts"] ["parts"] (ay ie):=by subst_eqs
theorem pT (F:Fun K "entry_written" "entry_written" ie f fd) (T:Bl mg) (AF:AdF K mg Ad) :bI P w K mg base (CX1 P w) 1 f fd ["parts"] jW:=by
 refine F.okX (k:=0) qf ?_ ?_
 ·bv_decide
 ·bv_normalize
  obtain⟨p,ps,rfl,hp,kN,k⟩:=h
  refine⟨_,ae (bK (bg (cQ (K:=K) rfl hu) (pvL 0) (bF (af (au) (aa))) (bo _)) (ak (aI (fE (af (au) (aa))))) (aX)) (ae (bK ((lG (bg (cQ (K:=K) rfl hu) (a8 (aY (K:=K) rfl) T.len bQ (af (pvL 0) (aa))) (aq) (bo _)) (jf (bg (cQ (K:=K) rfl hu) (cw (dE (K:=K) rfl) (pvL 0) (aq) (fun _ _=>rfl)) (au) (bo _)))).pt) (ak (aI (fE (af (au) (af (cw (dE (K:=K) rfl) (pvL 0) (aq) (fun _ _=>rfl)) (aa)))))) (aX)) (ae (bK ((lG (bg (cQ (K:=K) rfl hu) (a8 (aY (K:=K) rfl) T.len bQ (af (pvL 0) (aa))) (aq) (bo _)) (jf (bg (cQ (K:=K) rfl hu) (cw (dE (K:=K) rfl) (pvL 0) (aq) (fun _ _=>rfl)) (au) (bo _)))).pt) (ak (aI (fE (af (au) (af (cw (dE (K:=K) rfl) (pvL 0) (aq) (fun _ _=>rfl)) (aa)))))) (aX)) (ak (aI (fk))))),?_⟩
  have le2:2<=sizeLine:=aN (av (by decide))
  grind
  refine⟨aN (av (by decide)),fun p1 H1 hp1 s1 h1=>?_⟩
  refine⟨_,_,.of (s1 _ _ hp),.of h1,bM.mpr (fun v hv=>by obtain⟨l,_,rfl⟩:=aM.mp hv;rfl),rfl,?_⟩
  have mk:∀ key,qM ps=some key->∀ t H2,H1 t=none->aD H1 H2->H2 t=some (.tup (key.map kV))->Q (.ref t) H2:=fun key e t H2 ht s2 h2=>k key e t H2 (s1.free ht) (s1.trans s2) h2
  by_cases e1:ps=[[46]]
  ·subst e1
   rw[ao (by rfl)]
   exact⟨aN (av (by decide)),mk _ rfl⟩
  rw[ai (fun z=>e1 (by
   rcases ps with _ | ⟨a,_ | ⟨b,r⟩⟩
   ·cases z
   ·have z':(decide (tx a=Str.ofString ".")&&true)=true:=z
    rw[Bool.and_true,bP] at z'
    rw[show a=[46] from dG z']
   ·have:(eqV (V.str (tx a)) (V.str (Str.ofString "."))&&false)=true:=z
    rw[Bool.and_false] at this;cases this))]
  cbv
  grind
  refine⟨_,.l (s1 _ _ hp),?_⟩
  by_cases l2:ps.length=2
  rotate_left
  ·have en:qM ps=none:=by
    rcases ps with _ | ⟨a,_ | ⟨b,_ | ⟨c,r⟩⟩⟩
    ·rfl
    ·unfold qM;split<;>first | rfl | (rename_i h;cases h;exact absurd rfl e1) | (rename_i h;cases h)
    ·exact absurd rfl l2
    ·unfold qM;split<;>first | rfl | (rename_i h;cases h)
   rw[aE (by rw[aj];omega)]
   bv_omega
   show nn _ _ _
   cbv
   grind
   refine⟨_,.l (s1 _ _ hp),?_⟩
   rw[aE (by rw[aj];omega)]
   bv_omega
   show nn _ _ _
   cbv
   and_intros
   exact kN en H1 s1
  rcases ps with _ | ⟨a,_ | ⟨b,_ | ⟨c,r⟩⟩⟩
  ·cases l2
  ·cases l2
  rotate_left
  ·simp at l2
  rw[aC (by rw[aj];rfl)]
  bv_omega
  refine⟨_,_,.l (s1 _ _ hp),bB (j:=0) rfl,?_⟩
  show qU K (V.str (tx a)) (V.str (Str.ofString "=")) _ _
  and_intros
  by_cases ea:a=[61]
  ·subst ea
   rw[ao (by decide)]
   exact⟨_,_,.l (s1 _ _ hp),bB (j:=1) rfl,le2,mk _ rfl⟩
  rw[ai (show ¬ decide (tx a=Str.ofString "=")=true from fun z=>ea (dG (gy z)))]
  show nn _ _ _
  cbv
  grind
  refine⟨_,.l (s1 _ _ hp),?_⟩
  rw[aC (by rw[aj];rfl)]
  bv_omega
  refine⟨_,_,.l (s1 _ _ hp),bB (j:=0) rfl,?_⟩
  show qU K (V.str (tx a)) (V.str (Str.ofString "+")) _ _
  and_intros
  by_cases eb:a=[43]
  ·subst eb
   rw[ao (by decide)]
   exact⟨_,_,.l (s1 _ _ hp),bB (j:=1) rfl,le2,mk _ rfl⟩
  rw[ai (show ¬ decide (tx a=Str.ofString "+")=true from fun z=>eb (dG (gy z)))]
  show nn _ _ _
  cbv
  and_intros
  refine kN ?_ H1 s1
  unfold qM
  split<;>first | rfl | (rename_i h;cases h;exact absurd rfl ea) | (rename_i h;cases h;exact absurd rfl eb) | (rename_i h;cases h)
def gf (K:PySem.W.Frag):Sp:=fun vs H Q _=>∃ (a:Addr) (ns:List Int) (k:Int),vs=[.ref a,.int k]/\SqL K H a (ns.map V.int)/\0<=k/\Q (.int (ns.getD k.toNat 0)) H
theorem tE:aL ["_law_script","_law_k"] ["_law_script","_law_k"] (ay jA):=by subst_eqs
theorem sM (F:Fun K "_law_cell_at" "_law_cell_at" jA f fd) (T:Bl mg) (AF:AdF K mg Ad) :bI P w K mg base (CX1 P w) 1 f fd ["_law_script","_law_k"] (gf K):=by
 refine F.okX (k:=0) tE ?_ ?_
 ·bv_decide
 ·bv_normalize
  obtain⟨a,ns,i,rfl,hS,hi,k⟩:=h
  refine⟨_,ae (bK (bg vJ (pvL 1) (a8 (aY (K:=K) rfl) T.len bQ (af (pvL 0) (aa))) (bo _)) (ak (aI (cw (dE (K:=K) rfl) (pvL 0) (pvL 1) (fun _ _=>rfl)))) (aX)) (ak (aI (aq))),?_⟩
  ac_nf
  refine⟨_,.inl hS,?_⟩
  rw[aj]
  by_cases hlt:i<(ns.length:Int)
  ·rw[ao (aC hlt)]
   refine⟨_,.int (ns.getD i.toNat 0),.inl hS,?_,k⟩
   have e:(ns.map V.int)[i.toNat]?=some (.int (ns.getD i.toNat 0)):=by
    rw[bY,cU,bu (by omega)];rfl
   have:=bB e
   rwa [md hi] at this
  ·rw[ai (by rw[bP];exact hlt)]
   have e:ns.getD i.toNat 0=0:=by rw[cU,List.getElem?_eq_none (by omega)];rfl
   rw[e] at k
   exact k
def sv (c:Int):Int:=c*69621%2147483629+2147483629*(c%10^60)
def iy:Sp:=fun vs H Q _=>∃ c:Int,vs=[.int c]/\Q (.int (sv c)) H
theorem vV:aL ["_law_cell"] ["_law_cell"] (ay lP):=by subst_eqs
theorem vG (F:Fun K "_law_mixed" "_law_mixed" lP f fd) (T:Bl mg) (AF:AdF K mg Ad) :bI P w K mg base (CX1 P w) 1 f fd ["_law_cell"] iy:=by
 refine F.okX (k:=0) vV ?_ ?_
 ·bv_decide
 ·bv_normalize
  obtain⟨c,rfl,k⟩:=h
  refine⟨_,ak (aI (az a9 (az bC (az rB (pvL 0) (aq)) (aq)) (az rB (aq) (az bC (pvL 0) (az Gp (aq) (aq)))))),?_⟩
  ac_nf
  exact⟨.inr (by decide),by decide,⟨by decide,by decide,by decide⟩,by decide,.inl (by decide),k⟩
def lW:Sp:=fun vs H Q _=>∃ (a:Int) (b:Nat),vs=[.int a,.int b]/\Q (.int ((Nat.gcd a.natAbs b:Nat):Int)) H
theorem iH:aL ["_law_one","_law_other"] ["_law_one","_law_other"] (ay jC):=by subst_eqs
theorem sO (F:Fun K "_law_divisor" "_law_divisor" jC f fd) (T:Bl mg) (AF:AdF K mg Ad) :bI P w K mg base (CX1 P w) 1 f fd ["_law_one","_law_other"] lW:=by
 refine F.okX (k:=0) iH ?_ ?_
 ·bv_decide
 ·bv_normalize
  obtain⟨a,b,rfl,k⟩:=h
  refine⟨_,ae (aB (i:=0) iH.nd (a8 pK T.abs yf (af (pvL 0) (aa)))) (ae (sX cO (bg k8 (pvL 1) (aq) (bo _)) (ak (Jm (i:=0) (j:=1) rfl iH.nd rfl rfl (by decide) rfl rfl (af (pvL 1) (af (az bC (pvL 0) (pvL 1)) (aa))) rfl))) (ak (aI (pvL 0)))),?_⟩
  ac_nf
  refine wj (fun σ H'=>H'=H/\∃ l r:Nat,σ=[some (.int l),some (.int r)]/\Nat.gcd l r=Nat.gcd a.natAbs b) (fun σ _=>match σ with | [_,some (.int r)]=>r.toNat | _=>0) ⟨rfl,a.natAbs,b,rfl,rfl⟩ ?_
  rintro σ H' ⟨rfl,l,r,rfl,hg⟩
  ac_nf
  by_cases hr0:r=0
  ·subst hr0
   rw[Nat.gcd_zero_right] at hg
   subst hg
   rw[ai (by decide)]
   exact k
  ·have e:decide ((0:Int)<(r:Int))=true:=aC (by omega)
   rw[ao e]
   refine⟨_,fun _ _ h=>h,by omega,⟨rfl,r,l%r,by rw[Int.natCast_emod],?_⟩,?_⟩
   ·rw[←hg,Nat.gcd_comm l r,Nat.gcd_rec r l,Nat.gcd_comm]
   ·show ((l:Int)%(r:Int)).toNat<r
    have h1:(l:Int)%(r:Int)<r:=df _ (by omega)
    have h2:0<=(l:Int)%(r:Int):=cA _ (by omega)
    omega
def lets:Nat->Int->List Nat
 | 0,_=>[]
 | n+1,k=>(97+(k%26).toNat)::lets n (k/26)
theorem oa:∀ (n:Nat) (k:Int),(lets n k).length=n
 | 0,_=>rfl
 | n+1,k=>by show (lets n (k/26)).length+1=_;rw[oa]
theorem xb:∀ (n:Nat) (k:Int),∀ c∈lets n k,97<=c/\c<123
 | 0,_,c,h=>nomatch h
 | n+1,k,c,h=>by
  rcases aH.mp h with rfl | h
  ·omega
  ·exact xb n _ c h
theorem uA:∀ (n:Nat) (k:Int),lets (n+1) k=lets n k++[97+(k/26^n%26).toNat]
 | 0,k=>by simp [lets]
 | n+1,k=>by
  show (97+(k%26).toNat)::lets (n+1) (k/26)=(97+(k%26).toNat)::(lets n (k/26)++_)
  rw[uA n (k/26),oV (by decide),←Int.pow_succ']
theorem z7:∀ j:Nat,j<8->∃ w:List Nat,[V.str ("a":Str),.str ("ab":Str),.str ("abc":Str),.str ("b":Str),.str ("ba":Str),.str ("cab":Str),.str ("bb":Str),.str ("c":Str)][j]?=some (.str (tx w))/\1<=w.length/\w.length<=20/\∀ c∈w,97<=c/\c<123
 | 0,_=>⟨[97],rfl,by decide,by decide,by decide⟩
 | 1,_=>⟨[97,98],rfl,by decide,by decide,by decide⟩
 | 2,_=>⟨[97,98,99],rfl,by decide,by decide,by decide⟩
 | 3,_=>⟨[98],rfl,by decide,by decide,by decide⟩
 | 4,_=>⟨[98,97],rfl,by decide,by decide,by decide⟩
 | 5,_=>⟨[99,97,98],rfl,by decide,by decide,by decide⟩
 | 6,_=>⟨[98,98],rfl,by decide,by decide,by decide⟩
 | 7,_=>⟨[99],rfl,by decide,by decide,by decide⟩
 | _+8,h=>absurd h (by omega)
def lY:Sp:=fun vs H Q _=>∃ n:Int,vs=[.int n]/\0<=n/\∀ p (w:List Nat) (n':Int) H',1<=w.length->w.length<=20->(∀ c∈w,97<=c/\c<123)->0<=n'->H p=none->aD H H'->H' p=some (.lst [.str (tx w),.int n'])->Q (.ref p) H'
theorem dO:aL ["_law_number","_law_letters","_law_some","_law_size","_law_word_here","_law_k"] ["_law_number"] (ay nH):=by subst_eqs
theorem xt (F:Fun K "_law_word" "_law_word" nH f fd) (T:Bl mg) (AF:AdF K mg Ad) :bI P w K mg base (CX1 P w) 1 f fd ["_law_number"] lY:=by
 refine F.okX (k:=0) dO ?_ ?_
 ·bv_decide
 ·bv_normalize
  obtain⟨n,rfl,hn,k⟩:=h
  refine⟨_,ae (aB (i:=1) dO.nd (au)) (ae (aB (i:=2) dO.nd (bF (af (au) (af (au) (af (au) (af (au) (af (au) (af (au) (af (au) (af (au) (aa))))))))))) (ae (bK (bg vJ (az bC (pvL 0) (aq)) (aq) (bo _)) (ak (aI (bF (af (cw (dE (K:=K) rfl) (pvL 2) (az bC (az ck (pvL 0) (aq)) (aq)) (fun _ _=>rfl)) (af (az ck (pvL 0) (aq)) (aa)))))) (aX)) (ae (aB (i:=3) dO.nd (az a9 (aq) (az bC (az ck (pvL 0) (aq)) (aq)))) (ae (aB (i:=0) dO.nd (az ck (pvL 0) (aq))) (ae (aB (i:=4) dO.nd (au)) (ae (fK cO rfl (fJ T.range (af (pvL 3) (aa))) (aV (i:=5) dO.nd) (ae (aB (i:=4) dO.nd (az a9 (pvL 4) (cw (dE (K:=K) rfl) (pvL 1) (az bC (pvL 0) (aq)) (fun _ _=>rfl)))) (ak (aB (i:=0) dO.nd (az ck (pvL 0) (aq)))))) (ak (aI (bF (af (pvL 4) (af (pvL 0) (aa)))))))))))),?_⟩
  grind
  cbv
  grind
  refine⟨aN (av (by decide)),fun p0 H1 hp0 s1 h1=>?_⟩
  cbv
  grind
  refine⟨by decide,?_⟩
  by_cases h3:n%4<3
  ·rw[ao (aC h3)]
   and_intros
   obtain⟨j,hj⟩:=cC (show 0<=n/4%8 by omega)
   obtain⟨w,e1,e2,e3,e4⟩:=z7 j (by omega)
   rw[hj]
   refine⟨⟨by decide,by decide⟩,by decide,_,_,.l h1,bB e1,⟨by decide,by decide⟩,aN (av (by decide)),fun p H2 hp s2 h2=>?_⟩
   exact k p w _ H2 e2 e3 e4 (by omega) (by cases e:H p with | none=>rfl | some o=>rw[s1 _ _ e] at hp;cases hp) (s1.trans s2) h2
  ·rw[ai (by simpa using h3),hN]
   clear hN nn
   grind
   refine⟨⟨by decide,by decide⟩,by decide,?_⟩
   cbv
   grind
   refine⟨⟨by decide,by decide⟩,?_⟩
   cbv
   grind
   cbv
   obtain⟨sz,hsz⟩:=cC (show 0<=1+n/4%20 by omega)
   have hs1:1<=sz/\sz<=20:=by omega
   have hm0:0<=n/80:=by omega
   generalize n/80=m at hm0
   rw[hsz]
   grind
   refine⟨by omega,by omega,?_⟩
   refine Ai (n:=sz) (fun i σ H'=>H'=H1/\∃ o,σ=[some (.int (m/26^i)),some (.str ("abcdefghijklmnopqrstuvwxyz":Str)),some (.ref p0),some (.int (sz:Int)),some (.str (tx (lets i m))),o]) ?_ ?_ ?_
   ·exact⟨rfl,none,by rw[Int.pow_zero,Int.ediv_one];rfl⟩
   ·rintro i σ H' hi ⟨rfl,o,rfl⟩
    have hd:0<=m/26^i:=ma hm0 (Int.pow_nonneg (by decide))
    have hsn:=uA i m
    have hq:m/26^(i+1)=m/26^i/26:=by rw[Int.pow_succ,oV (Int.pow_nonneg (by decide))]
    rw[hsn,hq]
    have hll:=oa i m
    generalize m/26^i=d at hd
    generalize lets i m=wd at hll
    and_intros
    rw[dq]
    and_intros
    have hc:atI ("abcdefghijklmnopqrstuvwxyz":Str).cps.toList (d%26)=some (97+(d%26).toNat):=by
     refine uR (by omega) ?_
     rw[mD,List.getElem?_range' (by omega)]
     simp
    refine⟨by decide,aN (av (by decide)),_,hc,?_⟩
    rw[show (⟨#[97+(d%26).toNat]⟩:Str)=tx [97+(d%26).toNat] from rfl,cy,aJ,aJ]
    and_intros
    exact⟨aN (av (by omega)),⟨by decide,by decide⟩,trivial,_,rfl⟩
   ·rintro σ H' ⟨rfl,o,rfl⟩
    show nn _ _ _
    rw[hN]
    and_intros
    refine⟨aN (av (by decide)),fun p H2 hp s2 h2=>?_⟩
    refine k p (lets sz m) _ H2 (by rw[oa];exact hs1.1) (by rw[oa];exact hs1.2) (xb sz m) ?_ (by cases e:H p with | none=>rfl | some o=>rw[s1 _ _ e] at hp;cases hp) (s1.trans s2) h2
    exact ma hm0 (Int.pow_nonneg (by decide))
def qJ:Sp:=fun vs H Q _=>∃ j:Int,vs=[.int j]/\∀ q H',H q=none->aD H H'->H' q=some (.lst ((List.range 16).map fun k:Nat=>V.bl (decide ((k:Int)=j)||decide (k=15))))->Q (.ref q) H'
theorem xO:aL ["_law_place"] ["_law_place"] (ay nF):=by subst_eqs
theorem xp (F:Fun K "_law_only" "_law_only" nF f fd) (T:Bl mg) (AF:AdF K mg Ad) :bI P w K mg base (CX1 P w) 1 f fd ["_law_place"] qJ:=by
 refine F.okX (k:=0) xO ?_ ?_
 ·bv_decide
 ·bv_normalize
  obtain⟨j,rfl,k⟩:=h
  refine⟨_,ak (aI (jc ["_law_k"] rfl ⟨rfl,by decide +kernel,rfl,by decide +kernel⟩ (.cons (j:=0) rfl (.inl (by kernel_rfl)) (.nil)) (by decide +kernel) (fJ T.range (af (aq) (aa))) (fun _ _ _ _=>aV (i:=0) (show (["_law_k","_law_place"]:List Str).Nodup from by decide +kernel)) (fun _ _ _ _=>dM) (fun _ _ _ _=>He (dU (cQ (K:=K) rfl hu) (pvL 0) (pvC 1) (bo _)) (k9 (dU (cQ (K:=K) rfl hu) (pvL 0) (aq) (bo _)))))),?_⟩
  and_intros
  refine⟨by decide,by decide,?_⟩
  refine qP (xs:=List.range 16) (fun k:Nat=>V.int (0+(k:Int))) (fun x y e=>by have:=V.int.inj e;omega) (qg (n:=16)) (by rw[gk];exact av (by decide)) (fun k:Nat=>V.bl (decide ((k:Int)=j)||decide (k=15))) ?_ ?_
  ·intro i hi G t R hR
   and_intros
   rw[Int.zero_add]
   have hq:=hR G (aD.refl G)
   by_cases h:(i:Int)=j
   ·rw[aC h,Bool.true_or] at hq
    rw[aC h,ao rfl]
    exact hq
   ·rw[aE h,Bool.false_or] at hq
    rw[aE h,ai (by decide),show decide ((i:Int)=15)=decide (i=15) from kr.mpr (by omega)]
    exact hq
  ·intro D G hD t g
   exact k D G hD t g
def CF (rows rows':List (List Nat)):Prop:=∃ i,1<=i/\i<rows.length/\(rows'=rows.take (i+1)++rows.drop i∨(∃ j x y,1<=j/\j<rows.length/\j≠i/\rows[i]?=some x/\rows[j]?=some y/\rows'=(rows.set i y).set j x)∨rows'=rows.take i++rows.take 1++rows.drop i)
def iM:Sp:=fun vs H Q _=>∃ (p:Addr) (rows:List (List Nat)) (n:Int),vs=[.ref p,.int n]/\H p=some (.lst (rows.map fun l=>V.str (tx l)))/\2<=rows.length/\rows.length<=1000/\0<=n/\∀ q rows' H',CF rows rows'->aD H H'->H' q=some (.lst (rows'.map fun l=>V.str (tx l)))->Q (.ref q) H'
theorem eB:aL ["_law_rows","_law_number","_law_at","_law_to","_law_some"] ["_law_rows","_law_number"] (ay fX):=by subst_eqs
theorem nt (F:Fun K "_law_rows_turned" "_law_rows_turned" fX f fd) (T:Bl mg) (AF:AdF K mg Ad) :bI P w K mg base (CX1 P w) 1 f fd ["_law_rows","_law_number"] iM:=by
 refine F.okX (k:=0) eB ?_ ?_
 ·bv_decide
 ·bv_normalize
  obtain⟨p,rows,n,rfl,hp,h2,h1000,hn,k⟩:=h
  refine⟨_,ae (aB (i:=2) eB.nd (az a9 (aq) (az bC (pvL 1) (az ou (a8 (aY (K:=K) rfl) T.len bQ (af (pvL 0) (aa))) (aq))))) (ae (bK (bg (cQ (K:=K) rfl hu) (az bC (az ck (pvL 1) (aq)) (aq)) (aq) (bo _)) (ak (aI (az a9 (bX (eP (K:=K) rfl) (pvL 0) (cH) (cB (az a9 (pvL 2) (aq)))) (bX (eP (K:=K) rfl) (pvL 0) (cB (pvL 2)) (cH))))) (aX)) (ae (bK ((lG (bg (cQ (K:=K) rfl hu) (az bC (az ck (pvL 1) (aq)) (aq)) (aq) (bo _)) (jf (bg k8 (a8 (aY (K:=K) rfl) T.len bQ (af (pvL 0) (aa))) (aq) (bo _)))).pt) (ae (aB (i:=3) eB.nd (az a9 (aq) (az bC (pvL 2) (az ou (a8 (aY (K:=K) rfl) T.len bQ (af (pvL 0) (aa))) (aq))))) (ae (aB (i:=4) eB.nd (eS (nc (K:=K) rfl rfl) T.list ra (af (pvL 0) (aa)))) (ae (sW (fE (af (cw (dE (K:=K) rfl) (pvL 4) (pvL 3) (fun _ _=>rfl)) (af (cw (dE (K:=K) rfl) (pvL 4) (pvL 2) (fun _ _=>rfl)) (aa)))) (ow (K:=K) (n:=2) rfl rfl (cG (Et (pvL 4) (pvL 2) set_list) (cG (Et (pvL 4) (pvL 3) set_list) (iu))))) (ak (aI (pvL 4)))))) (aX)) (ak (aI (az a9 (az a9 (bX (eP (K:=K) rfl) (pvL 0) (cH) (cB (pvL 2))) (bX (eP (K:=K) rfl) (pvL 0) (cH) (cB (aq)))) (bX (eP (K:=K) rfl) (pvL 0) (cB (pvL 2)) (cH))))))),?_⟩
  have big:∀ {u:Nat},u<=50000->u<=sizeLine:=fun hu=>aN (av (by omega))
  grind
  refine⟨_,.l hp,?_⟩
  rw[aj]
  refine⟨by omega,?_⟩
  obtain⟨i,hi⟩:=cC (show 0<=1+n%((rows.length:Int)-1) by have:=cA n (b:=(rows.length:Int)-1) (by omega);omega)
  have hi1:1<=i/\i<rows.length:=by
   have:=cA n (b:=(rows.length:Int)-1) (by omega)
   have:=df n (b:=(rows.length:Int)-1) (by omega)
   omega
  rw[hi,hN]
  clear hN nn hi
  grind
  have tk:∀ (j:Nat),(rows.map fun l=>V.str (tx l)).take j=(rows.take j).map fun l=>V.str (tx l):=fun j=>by rw[List.map_take]
  have dp:∀ (j:Nat),(rows.map fun l=>V.str (tx l)).drop j=(rows.drop j).map fun l=>V.str (tx l):=fun j=>by rw[ke]
  refine⟨⟨by decide,by decide⟩,by decide,?_⟩
  by_cases h0:n/7%3=0
  ·rw[ao (aC h0)]
   refine⟨_,.of hp,fun p1 H1 hp1 s1 g1=>⟨_,.of (s1 _ _ hp),fun p2 H2 hp2 s2 g2=>?_⟩⟩
   rw[show (i:Int)+1=((i+1:Nat):Int) by omega,mF,tk] at g1
   rw[eN,dp] at g2
   refine⟨_,_,s2 _ _ g1,g2,big (by simp only[aj,bR,bA];omega),fun q H3 hq s3 g3=>k q _ H3 ⟨i,hi1.1,hi1.2,.inl rfl⟩ (s1.trans (s2.trans s3)) (by rw[g3,cN])⟩
  rw[ai (by rw[aE h0];decide),hN]
  clear hN nn
  grind
  refine⟨⟨by decide,by decide⟩,by decide,?_⟩
  have third:∀ (G:Hp),aD H G->nn { nx:=fun x H'=>Q V.non H',rt:=Q } [some (V.ref p),some (V.int n),some (V.int (i:Int)),none,none] G:=fun G sG=>by
   cbv
   and_intros
   refine⟨_,.of (sG _ _ hp),fun p1 H1 hp1 s1 g1=>⟨_,.of (s1 _ _ (sG _ _ hp)),fun p2 H2 hp2 s2 g2=>?_⟩⟩
   rw[mF,tk] at g1
   rw[show (1:Int)=((1:Nat):Int) from rfl,mF,tk] at g2
   refine⟨_,_,s2 _ _ g1,g2,big (by simp only[aj,bR];omega),fun p3 H3 hp3 s3 g3=>⟨_,.of (s3 _ _ (s2 _ _ (s1 _ _ (sG _ _ hp)))),fun p4 H4 hp4 s4 g4=>?_⟩⟩
   rw[eN,dp] at g4
   exact⟨_,_,s4 _ _ g3,g4,big (by simp only[ah,aj,bR,bA];omega),fun q H5 hq s5 g5=>k q _ H5 ⟨i,hi1.1,hi1.2,.inr (.inr rfl)⟩ (sG.trans (s1.trans (s2.trans (s3.trans (s4.trans s5))))) (by rw[g5,cN,cN])⟩
  by_cases h1:n/7%3=1
  rotate_left
  ·rw[aE h1]
   bv_omega
   exact third H (aD.refl _)
  rw[aC h1]
  bv_omega
  refine⟨_,.l hp,?_⟩
  rw[aj]
  by_cases h3:2<rows.length
  rotate_left
  ·rw[aE (by omega)]
   bv_omega
   exact third H (aD.refl _)
  rw[aC (by omega)]
  bv_omega
  clear third
  refine ft fun n2 hM=>?_
  and_intros
  refine⟨_,.l hp,?_⟩
  rw[aj]
  refine⟨by omega,?_⟩
  obtain⟨j,hj⟩:=cC (show 0<=1+(i:Int)%((rows.length:Int)-1) by have:=cA (i:Int) (b:=(rows.length:Int)-1) (by omega);omega)
  have hj1:1<=j/\j<rows.length/\j≠i:=by
   have:=cA (i:Int) (b:=(rows.length:Int)-1) (by omega)
   have:=df (i:Int) (b:=(rows.length:Int)-1) (by omega)
   refine⟨by omega,by omega,fun e=>?_⟩
   subst e
   by_cases hl:(j:Int)<(rows.length:Int)-1
   ·rw[Int.emod_eq_of_lt (by omega) hl] at hj;omega
   ·rw[show (j:Int)=(rows.length:Int)-1 by omega,Int.emod_self] at hj;omega
  rw[hj,hM]
  clear hM n2 hj
  refine ft fun n2 hM=>?_
  and_intros
  refine⟨_,.inl (.l hp),fun p1 H1 hp1 s1 g1=>?_⟩
  rw[hM]
  clear hM n2
  refine ft fun n2 hM=>?_
  and_intros
  obtain⟨x,hx⟩:∃ x,rows[i]?=some x:=⟨_,bu hi1.2⟩
  obtain⟨y,hy⟩:∃ y,rows[j]?=some y:=⟨_,bu hj1.2.1⟩
  refine⟨_,_,.l g1,bB (by rw[bY,hy];rfl),_,_,.l g1,bB (by rw[bY,hx];rfl),big (by decide),fun p2 H2 hp2 s2 g2=>⟨_,.t g2,rfl,?_⟩⟩
  and_intros
  have ix:∀ {u m:Nat},m<u->ixN u (m:Int)=some m:=fun hm=>by unfold ixN;simp;omega
  refine⟨p1,_,_,i,rfl,rfl,s2 _ _ g1,ix (by rw[aj];exact hi1.2),p1,_,_,j,rfl,rfl,aS,ix (by rw[List.length_set,aj];exact hj1.2.1),?_⟩
  rw[hM]
  clear hM n2
  and_intros
  refine k p1 ((rows.set i y).set j x) _ ⟨i,hi1.1,hi1.2,.inr (.inl ⟨j,x,y,hj1.1,hj1.2.1,hj1.2.2,hx,hy,rfl⟩)⟩ (fun c o e=>?_) ?_
  ·have hc:c≠p1:=fun z=>by rw[z,hp1] at e;cases e
   rw[aP hc,aP hc]
   exact s2 _ _ (s1 _ _ e)
  ·rw[aS,List.map_set,List.map_set]
def qF:Sp:=fun vs H Q _=>∃ (p:Addr) (ws:List Int) (m:Int),vs=[.ref p,.int m]/\H p=some (.lst (ws.map V.int))/\ws.length<=1000/\∀ H',aD H H'->Q (.bl (Mk.safe m ws)) H'
theorem qE:aL ["weights","m","differences"] ["weights","m"] (ay n6):=by subst_eqs
theorem xj (F:Fun K "are_safe" "are_safe" n6 f fd) (T:Bl mg) (AF:AdF K mg Ad) (C_common_divisor:Fnc P w K mg base (CX1 P w) 1 "common_divisor" ["one","other"] ji):bI P w K mg base (CX1 P w) 2 f fd ["weights","m"] qF:=by
 refine F.okX (k:=1) qE ?_ ?_
 ·bv_decide
 ·bv_normalize
  obtain⟨p,ws,m,rfl,hp,hl,k⟩:=h
  refine⟨_,ae (jU (i:=2) ["ahead","behind"] qE.nd rfl (Or.inl rfl) rfl ⟨rfl,by decide +kernel,rfl,by decide +kernel⟩ (.nil) (by decide +kernel) (AA (K:=K) rfl T.zip (af (pvL 0) (af (bX (eP (K:=K) rfl) (pvL 0) (cB (aq)) (cH)) (aa)))) (fun _ _ _ _=>rC (K:=K) (n:=2) rfl rfl (cG (aV (i:=0) (show (["ahead","behind"]:List Str).Nodup from by decide +kernel)) (cG (aV (i:=1) (show (["ahead","behind"]:List Str).Nodup from by decide +kernel)) (iu)))) (fun _ _ _ _=>dM) (fun _ _ _ _=>az ou (pvL 1) (pvL 0))) (ak (aI (a8 (gE (K:=K) rfl rfl) T.all mZ (af (jc ["number"] rfl ⟨rfl,by decide +kernel,rfl,by decide +kernel⟩ (.cons (j:=1) rfl (.inl (by kernel_rfl)) (.nil)) (by decide +kernel) (cF (K:=K) rfl (az a9 (pvL 0) (pvL 2))) (fun _ _ _ _=>aV (i:=0) (show (["number","m"]:List Str).Nodup from by decide +kernel)) (fun _ _ _ _=>dM) (fun _ _ _ _=>dU (cQ (K:=K) rfl hu) (aF C_common_divisor jv (hr.mono (by decide)) (af (pvL 0) (af (pvC 1) (aa)))) (aq) (bo _))) (aa))))),?_⟩
  ac_nf
  refine⟨_,.of hp,fun q H1 hq s1 h1=>?_⟩
  have hp1:H1 p=some (.lst (ws.map V.int)):=s1 _ _ hp
  have ec:kZ (ws.map V.int) (some 1) none=(ws.drop 1).map V.int:=by rw[show (1:Int)=((1:Nat):Int) from rfl,eN,ke]
  rw[ec] at h1
  refine⟨⟨_,.of hp1⟩,⟨_,.of h1⟩,Ka V.int V.int gN gN (.of hp1) (.of h1) (av (by omega)) (fun a b=>.int (b-a)) ?_ ?_⟩
  ·intro a b hab H' s' R hR
   ac_nf
   exact hR H' (aD.refl _)
  ·intro D H2 hD s2 h2
   have e2:H2 D=some (.lst ((Mk.dif ws).map V.int)):=by rw[h2];unfold Mk.dif;rw[aK];rfl
   have hp2:H2 p=some (.lst (ws.map V.int)):=s2 _ _ hp1
   have ldif:(Mk.dif ws).length<=1000:=by unfold Mk.dif;rw[aj,List.length_zip];omega
   ac_nf
   refine⟨_,_,hp2,e2,?_,fun r H3 hr s3 h3=>.inl ⟨⟨_,.of h3⟩,?_⟩⟩
   ·rw[aj,aj];exact aN (av (by omega))
   ·rw[←cN] at h3
    refine qP (xs:=ws++Mk.dif ws) V.int gN (fv (.of h3)) (by rw[ah];exact av (by omega)) (fun n=>.bl (Mk.cop m n)) ?_ ?_
    ·intro n hn H' s' R hR
     ac_nf
     refine⟨n,m,rfl,?_⟩
     have e:decide (((Int.gcd n m:Nat):Int)=1)=Mk.cop m n:=by
      unfold Mk.cop
      by_cases h:Int.gcd n m=1
      ·rw[aC h];exact aC (by omega)
      ·rw[aE h];exact aE (by omega)
     show R (V.bl (decide (((Int.gcd n m:Nat):Int)=1))) H'
     rw[e]
     exact hR H' (aD.refl _)
    ·intro D' H4 hD' s4 h4
     refine⟨D',(ws++Mk.dif ws).map (Mk.cop m),rfl,.of (by rw[h4,aK];rfl),?_⟩
     have ea:(((ws++Mk.dif ws).map (Mk.cop m)).all id)=Mk.safe m ws:=by unfold Mk.safe;rw[eX];rfl
     rw[ea]
     exact k H4 (s1.trans (s2.trans (s3.trans s4)))
def bV (b:Int):V->Bool
 | .int i=>decide (0<=i)&&decide (i<b)
 | _=>false
def fP:Sp:=fun vs H Q _=>∃ (x:V) (t:Tg) (b:Int),vs=[x,.int b]/\eI H x=some t/\Q (.bl (bV b x)) H
theorem xK:aL ["thing","bound"] ["thing","bound"] (ay nA):=by subst_eqs
theorem xl (F:Fun K "is_below" "is_below" nA f fd) (T:Bl mg) (AF:AdF K mg Ad) (C_is_whole:Fnc P w K mg base (CX1 P w) 1 "is_whole" ["thing"] qH):bI P w K mg base (CX1 P w) 2 f fd ["thing","bound"] fP:=by
 refine F.okX (k:=1) xK ?_ ?_
 ·bv_decide
 ·bv_normalize
  obtain⟨x,t,b,rfl,ht,k⟩:=h
  refine⟨_,ak (aI (ny (aF C_is_whole aw (hr.mono (by decide)) (af (pvL 0) (aa))) (k9 (Ek ju vJ (aq) (pvL 0) (pvL 1))))),?_⟩
  by_cases hs:∃ i,x=.int i
  ·obtain⟨i,rfl⟩:=hs
   cases ht
   ac_nf
   refine⟨_,Tg.int,rfl,rfl,?_⟩
   ac_nf
   have ek:bV b (.int i)=(decide (0<=i)&&decide (i<b)):=rfl
   rw[ek] at k
   rw[ao (by simp)]
   cases h0:decide (0<=i) with
   | false=>rw[h0,kT] at k;bv_omega;exact k
   | true=>rw[h0,fG] at k;bv_omega;exact k
  ·have hv:bV b x=false:=by
    cases x with
    | int i=>exact absurd ⟨i,rfl⟩ hs
    | _=>rfl
   have hne:t≠Tg.int:=fun e=>by
    subst e
    cases x with
    | int i=>exact hs ⟨i,rfl⟩
    | ref a =>
     have h':i3 (H a)=some .int:=ht
     cases e:H a with
     | none=>rw[e] at h';cases h'
     | some o=>rw[e] at h';cases o with
      | frz ob u=>cases u<;>cases h'
      | _=>cases h'
    | _=>cases ht
   rw[hv] at k
   ac_nf
   refine⟨x,t,rfl,ht,?_⟩
   ac_nf
   rw[aE hne]
   bv_omega
   exact k
def mG (al:Str) (ws:List Int) (r:Int):V->Bool
 | .str z=>Mk.fe al.cps.toList ws r z.cps.toList
 | _=>false
inductive nI (vs:List V) (H:Hp) (Q:VK) (E:XK):Prop
 | mk (al:Str) (p:Addr) (ws:List Int) (r:Int) (x:V) (t:Tg) (q0:vs=[.str al,.ref p,.int r,x]) (q1:H p=some (.lst (ws.map V.int))) (q2:ws.length<=1000) (q3:0<al.length) (q4:al.length<=1000) (q5:Mk.sml ws) (q6:eI H x=some t) (q7:(∀ z,x=.str z->z.length<=100000)) (q8:∀ H',aD H H'->Q (.bl (mG al ws r x)) H'):nI vs H Q E
theorem zv:aL ["alphabet","weights","rest","word"] ["alphabet","weights","rest","word"] (ay pY):=by subst_eqs
theorem za (F:Fun K "is_good" "is_good" pY f fd) (T:Bl mg) (AF:AdF K mg Ad) (C_are_good:Fnc P w K mg base (CX1 P w) 1 "are_good" ["m","weights","rest","places"] jh) (C_places_of:Fnc P w K mg base (CX1 P w) 1 "places_of" ["alphabet","word"] kO) (C_is_word:Fnc P w K mg base (CX1 P w) 1 "is_word" ["alphabet","length","thing"] tJ):bI P w K mg base (CX1 P w) 2 f fd ["alphabet","weights","rest","word"] nI:=by
 refine F.okX (k:=1) zv ?_ ?_
 ·bv_decide
 ·bv_normalize
  obtain⟨al,p,ws,r,x,t,rfl,hp,hwl,ha0,ha,hsm,ht,hz,k⟩:=h
  refine⟨_,ae (bK (cx (c9 (aF C_is_word aw (hr.mono (by decide)) (af (pvL 0) (af (a8 (aY (K:=K) rfl) T.len bQ (af (pvL 1) (aa))) (af (pvL 3) (aa))))))) (ak (aI (ip))) (aX)) (ak (aI (aF C_are_good aw (hr.mono (by decide)) (af (a8 (aY (K:=K) rfl) T.len bQ (af (pvL 0) (aa))) (af (pvL 1) (af (pvL 2) (af (aF C_places_of aw (hr.mono (by decide)) (af (pvL 0) (af (pvL 3) (aa)))) (aa)))))))),?_⟩
  ac_nf
  refine⟨_,.l hp,?_⟩
  rw[aj]
  refine⟨al,_,x,t,rfl,ht,hz,fun H1 s1=>?_⟩
  have h1p:H1 p=some (.lst (ws.map V.int)):=s1 _ _ hp
  ac_nf
  cases hw:nY al ws.length x with
  | false =>
   have e:mG al ws r x=false:=by
    cases x with
    | str z =>
     show (Mk.dJ al.cps.toList ws.length z.cps.toList&&_)=false
     rw[show Mk.dJ al.cps.toList ws.length z.cps.toList=false from hw,kT]
    | _=>rfl
   rw[e] at k
   exact k H1 s1
  | true =>
   cases x with
   | str z =>
    have hw':Mk.dJ al.cps.toList ws.length z.cps.toList=true:=hw
    obtain⟨hw1,hw2⟩:=Mk.yQ.mp hw'
    have hzl:z.cps.toList.length<=1000:=by omega
    bv_omega
    refine⟨aN (av (by omega)),al,z,rfl,by rw[cR];omega,hw2,fun q H2 hq s2 h2=>?_⟩
    have h2p:H2 p=some (.lst (ws.map V.int)):=s2 _ _ h1p
    ac_nf
    refine⟨_,p,ws,r,q,_,rfl,by omega,h2p,h2,by omega,hsm,Mk.Jr (Mk.vM hw2) (by rw[cR] at ha;omega),fun H3 s3=>?_⟩
    have e:mG al ws r (.str z)=Mk.good al.length ws r (Mk.plc al.cps.toList z.cps.toList):=by
     show (Mk.dJ al.cps.toList ws.length z.cps.toList&&Mk.good al.cps.toList.length ws r _)=_
     rw[hw',fG,←cR]
    rw[e] at k
    exact k H3 (s1.trans (s2.trans s3))
   | _=>cases hw
def oN:Sp:=fun vs H Q _=>∃ (x:V) (t:Tg) (n:Nat),vs=[x,.int n]/\eI H x=some t/\(∀ z,x=.str z->z.length<=50000)/\n<=1000/\∀ H',aD H H'->Q (.bl (iZ n x)) H'
theorem oK:aL ["thing","most","words"] ["thing","most"] (ay lL):=by subst_eqs
theorem vC (F:Fun K "are_words" "are_words" lL f fd) (T:Bl mg) (AF:AdF K mg Ad) (C_are_letters:Fnc P w K mg base (CX1 P w) 1 "are_letters" ["thing","most"] iK):bI P w K mg base (CX1 P w) 2 f fd ["thing","most"] oN:=by
 refine F.okX (k:=1) oK ?_ ?_
 ·bv_decide
 ·bv_normalize
  obtain⟨x,t,n,rfl,ht,hz,hn,k⟩:=h
  refine⟨_,ae (bK (cx (c9 (a8 (eM .str) T.isinstance bt_isinstance (af (pvL 0) (af (iB T.str ky) (aa)))))) (ak (aI (ip))) (aX)) (ae (aB (i:=2) oK.nd (dy (K:=K) rfl cV ki kj lD (pvL 0) (af (au) (aa)))) (ak (aI (ny (dU ju (a8 (aY (K:=K) rfl) T.len bQ (af (pvL 2) (aa))) (pvL 1) (bo _)) (k9 (a8 (gE (K:=K) rfl rfl) T.all mZ (af (jc ["word"] rfl ⟨rfl,by decide +kernel,rfl,by decide +kernel⟩ (.nil) (by decide +kernel) (cF (K:=K) rfl (pvL 2)) (fun _ _ _ _=>aV (i:=0) (show (["word"]:List Str).Nodup from by decide +kernel)) (fun _ _ _ _=>dM) (fun _ _ _ _=>aF C_are_letters jv (hr.mono (by decide)) (af (pvL 0) (af (gT AF.v_LONGEST_WORD) (aa))))) (aa)))))))),?_⟩
  by_cases hs:∃ z,x=.str z
  ·obtain⟨z,rfl⟩:=hs
   cases ht
   have hl:=hz z rfl
   have hc:=cR z
   have ek:iZ n (.str z)=fj n z.cps.toList:=rfl
   ac_nf
   refine⟨trivial,Tg.str,rfl,?_⟩
   ac_nf
   obtain⟨sl1,sl2⟩:=Mk.gK (c:=32) z.cps.toList
   refine⟨rfl,by omega,32,rfl,fun p H1 hp s1 h1=>⟨_,.l h1,?_⟩⟩
   rw[aj]
   by_cases h2:(Mk.aZ 32 z.cps.toList).length<=n
   ·rw[aC (show ((Mk.aZ 32 z.cps.toList).length:Int)<=(n:Int) by omega)]
    bv_omega
    refine .inl ⟨⟨_,.of h1⟩,qP (fun w:List Nat=>V.str (tx w)) (fun a b e=>dG (V.str.inj e)) (fv (.of h1)) (av (by omega)) (fun w=>.bl (dv 20 w)) ?_ ?_⟩
    ·intro w hw H2 s2 R hR
     have hwl:=sl2 w hw
     ac_nf
     refine⟨_,Tg.str,20,rfl,rfl,(fun y e=>by cases e;rw[aJ];omega),by decide,fun H3 s3=>?_⟩
     have e:gM 20 (.str (tx w))=dv 20 w:=by show dv 20 (tx w).cps.toList=_;rw[b0]
     rw[e]
     exact hR H3 s3
    ·intro D H2 hD s2 h2'
     refine⟨D,(Mk.aZ 32 z.cps.toList).map (dv 20),rfl,.of (by rw[h2',aK];rfl),?_⟩
     have e:((Mk.aZ 32 z.cps.toList).map (dv 20)).all id=iZ n (.str z):=by
      rw[ek]
      unfold fj
      rw[aC h2,eX];rfl
     rw[e]
     exact k H2 (s1.trans s2)
   ·have e:iZ n (.str z)=false:=by rw[ek];unfold fj;rw[aE h2];rfl
    rw[e] at k
    rw[aE (show ¬ ((Mk.aZ 32 z.cps.toList).length:Int)<=(n:Int) by omega)]
    bv_omega
    exact k H1 s1
  ·have hv:iZ n x=false:=by
    cases x with
    | str z=>exact absurd ⟨z,rfl⟩ hs
    | _=>rfl
   have hne:=oS ht fun z e=>hs ⟨z,e⟩
   rw[hv] at k
   ac_nf
   refine⟨trivial,t,ht,?_⟩
   cases t<;>first
    | exact absurd rfl hne
    | exact k H (aD.refl _)
noncomputable def qQ (d:List Nat):V:=open Classical in if jK d then V.int (PySem.NumText.digitsVal d:Nat) else V.non
theorem As {m:Nat} (h:jK (Mk.dgN m)):qQ (Mk.dgN m)=V.int m:=by
 unfold qQ
 rw[ao h,show PySem.NumText.digitsVal (Mk.dgN m)=m from pz _]
theorem wN:∀ (ds:List (List Nat)),(∀ d∈ds,jK d)->∃ ws:List Nat,ds=ws.map Mk.dgN/\∀ w∈ws,jK (Mk.dgN w)
 | [],_=>⟨[],rfl,fun _ h=>by cases h⟩
 | d::r,h=>by
  obtain⟨ws,e,hw⟩:=wN r fun x hx=>h x (bb _ hx)
  obtain⟨m,em,_⟩:=(h d aR).dg
  refine⟨m::ws,by rw[aQ,←e,←em],fun w hx=>?_⟩
  rcases aH.mp hx with rfl | hx
  ·rw[←em];exact h d aR
  ·exact hw w hx
theorem vh:∀ (ds:List (List Nat)),inV V.non (ds.map qQ)=true↔∃ d∈ds,¬ jK d
 | []=>by simp [inV]
 | d::r=>by
  have ih:=vh r
  by_cases h:jK d
  ·have e:qQ d=V.int (PySem.NumText.digitsVal d:Nat):=by unfold qQ;rw[ao h]
   rw[aQ,e]
   refine Iff.trans (show inV V.non (V.int _::r.map qQ)=true↔inV V.non (r.map qQ)=true from Iff.rfl) (ih.trans ⟨fun ⟨x,hx,q⟩=>⟨x,bb _ hx,q⟩,fun ⟨x,hx,q⟩=>?_⟩)
   rcases aH.mp hx with rfl | hx
   ·exact absurd h q
   ·exact⟨x,hx,q⟩
  ·have e:qQ d=V.non:=by unfold qQ;rw[ai h]
   rw[aQ,e]
   exact⟨fun _=>⟨d,aR,h⟩,fun _=>rfl⟩
def kW:Sp:=fun vs H Q _=>∃ (p:Addr) (ps:List (List Nat)),vs=[.ref p]/\H p=some (.lst (ps.map fun l=>V.str (tx l)))/\(∀ l∈ps,l.length<=50000) ∧
 (∀ al ws r,CdW ps al ws r->∀ t q H',aD H H'->H' t=some (.tup [.str (tx al),.ref q,.int (r:Nat)])->H' q=some (.lst (ws.map fun w:Nat=>V.int w))->Q (.ref t) H') ∧
 ((∀ al ws r,¬ CdW ps al ws r)->∀ H',aD H H'->Q .non H')
theorem ij:aL ["words","weights","rest"] ["words"] (ay iF):=by subst_eqs
theorem qT (F:Fun K "code_written" "code_written" iF f fd) (T:Bl mg) (AF:AdF K mg Ad) (C_number_written:Fnc P w K mg base (CX1 P w) 1 "number_written" ["text"] jm):bI P w K mg base (CX1 P w) 2 f fd ["words"] kW:=by
 refine F.okX (k:=1) ij ?_ ?_
 ·bv_decide
 ·bv_normalize
  obtain⟨p,ps,rfl,hp,hpl,k,kN⟩:=h
  refine⟨_,ae (bK ((kU (bg (nv (K:=K) rfl hu) (a8 (aY (K:=K) rfl) T.len bQ (af (pvL 0) (aa))) (aq) (bo _)) (iC (bg (nv (K:=K) rfl hu) (cw (dE (K:=K) rfl) (pvL 0) (aq) (fun _ _=>rfl)) (au) (bo _)))).pt) (ak (aI (fk))) (aX)) (ae (jU (i:=1) ["part"] ij.nd rfl (Or.inl rfl) rfl ⟨rfl,by decide +kernel,rfl,by decide +kernel⟩ (.nil) (by decide +kernel) (cF (K:=K) rfl (dy (K:=K) rfl cV ki kj lD (cw (dE (K:=K) rfl) (pvL 0) (aq) (fun _ _=>rfl)) (af (au) (aa)))) (fun _ _ _ _=>aV (i:=0) (show (["part"]:List Str).Nodup from by decide +kernel)) (fun _ _ _ _=>dM) (fun _ _ _ _=>aF C_number_written jv (hr.mono (by decide)) (af (pvL 0) (aa)))) (ae (aB (i:=2) ij.nd (aF C_number_written aw (hr.mono (by decide)) (af (cw (dE (K:=K) rfl) (pvL 0) (aq) (fun _ _=>rfl)) (aa)))) (ae (bK ((kU (bg (lF (K:=K) rfl hu1) (fk) (pvL 1) (by kernel_rfl)) (iC (bg sR (pvL 2) (fk) (bo _)))).pt) (ak (aI (fk))) (aX)) (ak (aI (fE (af (cw (dE (K:=K) rfl) (pvL 0) (aq) (fun _ _=>rfl)) (af (pvL 1) (af (pvL 2) (aa)))))))))),?_⟩
  have big:∀ {u:Nat},u<=1000->u<=sizeLine:=fun hu=>aN (av (by omega))
  grind
  refine⟨_,.l hp,?_⟩
  by_cases l4:ps.length=4
  rotate_left
  ·rw[aE (by rw[aj];omega)]
   bv_omega
   exact kN (fun al ws r c=>l4 (by rw[c.eq];rfl)) H (aD.refl _)
  rcases ps with _ | ⟨a0,_ | ⟨a1,_ | ⟨a2,_ | ⟨a3,_ | ⟨a4,rr⟩⟩⟩⟩⟩
  ·cases l4
  ·cases l4
  ·cases l4
  ·cases l4
  rotate_left
  ·simp at l4
  clear l4
  rw[aC (by rw[aj];rfl)]
  bv_omega
  refine⟨_,_,.l hp,bB (j:=0) rfl,?_⟩
  show Cj K (V.str (tx a0)) (V.str (Str.ofString "code")) _ _
  and_intros
  by_cases e0:a0=[99,111,100,101]
  rotate_left
  ·rw[aE (show ¬ tx a0=Str.ofString "code" from fun z=>e0 (dG z))]
   bv_omega
   exact kN (fun al ws r c=>e0 (by have:=c.eq;injection this)) H (aD.refl _)
  subst e0
  rw[aC (show tx [99,111,100,101]=Str.ofString "code" from rfl)]
  bv_omega
  show nn _ _ _
  cbv
  grind
  refine⟨_,_,.l hp,bB (j:=2) rfl,?_⟩
  show tyV K "str" (V.str (tx a2)) H/\_
  and_intros
  have h2l:=hpl a2 (by simp)
  have h3l:=hpl a3 (by simp)
  refine⟨rfl,by rw[aJ];omega,44,rfl,fun p1 H1 hp1 s1 g1=>?_⟩
  rw[b0] at g1
  have ej:=jb 44 a2
  obtain⟨sl,dl⟩:=Mk.gK (c:=44) a2
  obtain⟨ds,hds⟩:∃ ds,Mk.aZ 44 a2=ds:=⟨_,rfl⟩
  rw[hds] at g1 ej dl sl
  refine .inl ⟨⟨_,.of g1⟩,qP (fun d:List Nat=>V.str (tx d)) (fun a b e=>dG (V.str.inj e)) (fv (.of g1)) (av (by omega)) qQ ?_ ?_⟩
  ·intro d hd H2 s2 R hR
   and_intros
   have:=dl d hd
   exact⟨d,rfl,by omega,fun m e hm hf H3 s3=>by subst e;rw[As hf] at hR;exact hR H3 s3,fun hf H3 s3=>by unfold qQ at hR;rw[ai hf] at hR;exact hR H3 s3⟩
  intro q H2 hq s2 g2
  have s02:=s1.trans s2
  cbv
  grind
  refine⟨_,_,.l (s02 _ _ hp),bB (j:=3) rfl,?_⟩
  have fin:∀ (y:V),(∃ m:Nat,a3=Mk.dgN m/\jK a3/\y=.int m)∨(¬ jK a3/\y=.non)->∀ H3,aD H2 H3->nn { nx:=fun x H'=>Q V.non H',rt:=Q } [some (V.ref p),some (V.ref q),some y] H3:=by
   intro y hy H3 s3
   have s03:=s02.trans s3
   cbv
   grind
   refine .inl ⟨_,.l (s3 _ _ g2),rfl,?_,?_⟩
   ·exact bM.mpr fun v hv=>by
     obtain⟨d,_,rfl⟩:=aM.mp hv
     unfold qQ
     split<;>rfl
   by_cases hin:∃ d∈ds,¬ jK d
   ·rw[(vh ds).mpr hin]
    bv_omega
    and_intros
    obtain⟨d,hd,hf⟩:=hin
    refine kN (fun al ws r c=>hf ?_) H3 s03
    have:=c.eq
    injection this with _ this
    injection this with _ this
    injection this with this _
    have hs:Mk.aZ 44 a2=ws.map Mk.dgN:=by
     rw[this]
     refine Mk.cT _ (fun z=>c.ne (List.map_eq_nil_iff.mp z)) fun w hw hc=>?_
     obtain⟨n,hn,rfl⟩:=aM.mp hw
     have:=(c.wf n hn).2.2.1 _ hc
     omega
    rw[hds] at hs
    rw[hs] at hd
    obtain⟨n,hn,rfl⟩:=aM.mp hd
    exact c.wf n hn
   rw[jq _ |>.mp (fun z=>hin ((vh ds).mp z))]
   bv_omega
   have al':∀ d∈ds,jK d:=fun d hd=>Classical.byContradiction fun z=>hin ⟨d,hd,z⟩
   rcases hy with ⟨m,e3,hf,rfl⟩ | ⟨hf,rfl⟩
   ·and_intros
    show nn _ _ _
    cbv
    and_intros
    refine⟨_,_,.l (s03 _ _ hp),bB (j:=1) rfl,big (by decide),fun t H4 ht s4 g4=>?_⟩
    obtain⟨ws,ew,wf⟩:=wN ds al'
    refine k a1 ws m ⟨?_,?_,wf,by rw[←e3];exact hf⟩ t q H4 (s03.trans s4) g4 ?_
    ·rw[←ew,ej,←e3]
    ·intro z
     rw[z] at ew
     rw[ew] at hds
     exact absurd hds (qi 44 a2)
    ·have:=(s3.trans s4) _ _ g2
     rw[this,ew,aK]
     congr 2
     exact iS fun w hw=>As (wf w hw)
   ·and_intros
    refine kN (fun al ws r c=>hf ?_) H3 s03
    have:=c.eq
    injection this with _ this
    injection this with _ this
    injection this with _ this
    injection this with this _
    rw[this];exact c.rf
  and_intros
  exact⟨a3,rfl,by omega,fun m e hm hf H3 s3=>fin _ (.inl ⟨m,e,hf,rfl⟩) H3 s3,fun hf H3 s3=>fin _ (.inr ⟨hf,rfl⟩) H3 s3⟩
inductive eE (Ad:Ads) (vs:List V) (H:Hp) (Q:VK) (E:XK):Prop
 | mk (b ca dn de f:Addr) (es:List Ben) (al:List Nat) (ws:List Int) (r n:Int) (q0:vs=[.ref b,.ref f]) (q1:cY Ad H b ca dn de es) (q2:cP Ad H ca al ws r) (q3:bf al ws r) (q4:pF lg Ad.tb H f) (q5:pG (es.map (·.num)) n) (q6:n<cg al ws) (q7:∀ H',aD H H'->Q (.int n) H'):eE Ad vs H Q E
theorem fL:aL ["self","is_barred","k"] ["self","is_barred"] (ay fW):=by subst_eqs
theorem nq (F:Fun K "least_free" "Book.least_free" fW f fd) (T:Bl mg) (AF:AdF K mg Ad) (M_Code_many:Mtd P w K mg base (CX1 P w) Ad.Code "many" 1 ["self"] (eG Ad)):bI P w K mg base (CX1 P w) 2 f fd ["self","is_barred"] (eE Ad):=by
 refine F.okX (k:=1) fL ?_ (fun cdv A outer s H vs Q E hr h=>?_)
 ·bv_decide
 ·obtain⟨b,ca,dn,de,f,es,al,ws,r,n,rfl,B,C,ok,Fb,Lf,hn,k⟩:=h
  obtain⟨dx,h1⟩:=B.bk
  have hu:=hr.kP
  have hu1:=qp hr
  refine⟨_,ae (aB (i:=2) fL.nd (aq)) (ae (sX cO ((kU (bg (lF (K:=K) rfl hu1) (pvL 2) (bW (K:=K) rfl (pvL 0)) (by kernel_rfl)) (iC (c9 (sT (q:=lg) (Pt:=Ad.tb) (pvL 1) hr (af (pvL 2) (aa)))))).pt) (ak (aB (i:=2) fL.nd (az a9 (pvL 2) (aq))))) (ae (bK (bg (Ef (K:=K) rfl hu) (pvL 2) (cc M_Code_many aw (hr.mono (by decide)) (bW (K:=K) rfl (pvL 0))) (bo _)) (ak (dB di AF.q_TooMany AF.g_TooMany du rfl (af (au) (aa)))) (aX)) (ak (aI (pvL 2))))),?_⟩
  grind
  cbv
  grind
  refine wj (fun σ H'=>∃ k:Int,0<=k/\k<=n/\σ=[some (V.ref b),some (V.ref f),some (V.int k)]/\H'=H) (fun σ _=>match σ with | [_,_,some (V.int k)]=>(n-k).toNat | _=>0) ⟨0,by decide,Lf.1,rfl,rfl⟩ ?_
  rintro σ H' ⟨j,j0,jn,rfl,rfl⟩
  and_intros
  refine⟨_,dx,_,_,h1,AF.c_Book,AF.n_Book_by_number,gD ca dn de,?_⟩
  refine .inr ⟨_,.inl ⟨_,.inl j,.inl B.hn,rfl,rfl⟩,?_⟩
  rw[IL B.nn]
  by_cases hm:j∈es.map (·.num)
  ·rw[aC hm,ao rfl]
   have jl:j≠n:=fun e=>Lf.2.1 (by rw[←e];exact hm)
   refine⟨fun σ G=>σ=[some (V.ref b),some (V.ref f),some (V.int (j+1))]/\G=H',?_,rfl,rfl⟩
   rintro σ G ⟨rfl,rfl⟩
   exact⟨⟨j+1,by omega,by omega,rfl,rfl⟩,show (n-(j+1)).toNat<(n-j).toNat by omega⟩
  ·rw[aE hm,ai (by decide)]
   have je:j=n:=by
    rcases Int.lt_or_eq_of_le jn with h | h
    ·exact absurd (Lf.2.2 j j0 h) hm
    ·exact h
   subst je
   refine⟨Fb,Fb,trivial,?_⟩
   cbv
   obtain⟨dc,qc,hc1,hc2⟩:=id C
   grind
   refine⟨_,dx,_,_,h1,AF.c_Book,AF.n_Book_basis,ja ca dn de,?_⟩
   refine⟨dc,_,hc1,bG (by decide) (by decide) (by decide) al qc r,ca,al,ws,r,rfl,C,ok.a26,by have:=ok.w3;omega,ok.w8,fun G1 t1=>?_⟩
   and_intros
   rw[aE (show ¬ (al.length:Int)^(ws.length-1)<=j by have:j<(al.length:Int)^(ws.length-1):=hn;omega)]
   bv_omega
   show nn _ _ _
   cbv
   and_intros
   exact k G1 t1
def qG (Ad:Ads):Sp:=fun vs H Q _=>∃ (a:Addr) (al:List Nat) (ws:List Int) (r:Int),vs=[.ref a]/\cP Ad H a al ws r/\bf al ws r/\∀ H',aD H H'->Q (.str (tx (bU al ws r))) H'
theorem jg:aL ["code","alphabet","weights","rest"] ["code"] (ay n8):=by subst_eqs
theorem xk (F:Fun K "code_row" "code_row" n8 f fd) (T:Bl mg) (AF:AdF K mg Ad) (M_Code_rest:Mtd P w K mg base (CX1 P w) Ad.Code "rest" 1 ["self"] (kL Ad)) (M_Code_weights:Mtd P w K mg base (CX1 P w) Ad.Code "weights" 1 ["self"] (ik Ad)) (M_Code_alphabet:Mtd P w K mg base (CX1 P w) Ad.Code "alphabet" 1 ["self"] (fh Ad)):bI P w K mg base (CX1 P w) 2 f fd ["code"] (qG Ad):=by
 refine F.okX (k:=1) jg ?_ ?_
 ·bv_decide
 ·bv_normalize
  obtain⟨a,al,ws,r,rfl,C,ok,k⟩:=h
  refine⟨_,ae (aB (i:=1) jg.nd (cc M_Code_alphabet aw (hr.mono (by decide)) (pvL 0))) (ae (aB (i:=2) jg.nd (dy (K:=K) rfl cV h9 hO (gS (K:=K) rfl) (au) (af (jc ["weight"] rfl ⟨rfl,by decide +kernel,rfl,by decide +kernel⟩ (.nil) (by decide +kernel) (cF (K:=K) rfl (cc M_Code_weights aw (hr.mono (by decide)) (pvL 0))) (fun _ _ _ _=>aV (i:=0) (show (["weight"]:List Str).Nodup from by decide +kernel)) (fun _ _ _ _=>dM) (fun _ _ _ _=>eS pL T.str ky (af (pvL 0) (aa)))) (aa)))) (ae (aB (i:=3) jg.nd (cc M_Code_rest aw (hr.mono (by decide)) (pvL 0))) (ak (aI (Ep (pV (nz (pvL 1) (pV (nz (pvL 2) (pV (nz (pvL 3) (zf)))))))))))),?_⟩
  have a26:=ok.a26
  have w3:=ok.w3
  have w8:=ok.w8
  obtain⟨dx,q,h1,h2⟩:=id C
  grind
  refine⟨dx,_,h1,bG (by decide) (by decide) (by decide) al q r,a,al,ws,r,rfl,C,?_⟩
  cbv
  grind
  refine⟨rfl,dx,_,h1,bG (by decide) (by decide) (by decide) al q r,a,al,ws,r,rfl,C,fun p1 H1 hp1 s1 g1=>?_⟩
  and_intros
  have hdl:∀ w∈ws,0<=w/\w<26/\(Mk.dgN w.toNat).length<=2:=fun w hw=>by
   have:=ok.wm w hw
   exact⟨by omega,by omega,(Mk.dW w.toNat (by omega)).2.1⟩
  refine .inl ⟨⟨_,.of g1⟩,qP V.int gN (fv (.of g1)) (av (by omega)) (fun w=>V.str (tx (Mk.dgN w.toNat))) ?_ ?_⟩
  ·intro w hw H2 s2 R hR
   have:=hdl w hw
   and_intros
   exact⟨by omega,by omega,hR H2 (aD.refl _)⟩
  intro D H2 hD s2 g2
  have e44:Str.ofString ","=tx [44]:=rfl
  and_intros
  refine⟨(ws.map fun w=>Mk.dgN w.toNat).map tx,.of (by rw[g2,aK,aK];rfl),?_,?_⟩
  ·rw[aj,aj,e44,aJ]
   have h2:(((ws.map fun w=>Mk.dgN w.toNat).map tx).map (·.length)).sum<=2*ws.length:=by
    clear hN g1 g2 w3 w8 C h2 h1 k ok
    induction ws with
    | nil=>simp
    | cons w r ih =>
     have h3:=ih fun x hx=>hdl x (bb _ hx)
     have h4:=(hdl w aR).2.2
     simp only[aQ,fb,ag,aJ] at h3 h4 ⊢
     omega
   show _+ws.length*1<=_
   omega
  rw[e44,jZ,hN]
  clear hN nn
  have s02:=s1.trans s2
  grind
  refine⟨dx,_,s02 _ _ h1,bG (by decide) (by decide) (by decide) al q r,a,al,ws,r,rfl,C.same s02,?_⟩
  cbv
  and_intros
  have rm:=ok.rm
  have j24:=zJ (fun w hw=>⟨(hdl w hw).1,(hdl w hw).2.1⟩) w8
  have dr:=(Mk.dW r.toNat (by omega)).2.1
  rw[b0,b0,show (Str.ofString "code ").cps.toList=[99,111,100,101,32] from rfl,show (Str.ofString " ").cps.toList=[32] from rfl]
  have:=k H2 s02
  unfold bU at this
  refine⟨by decide,?_,?_,?_,?_,by omega,by omega,?_,this⟩<;>simp only[ah,ag,ax]<;>omega
theorem zR {m:Nat}{a:Int}:decide (((Nat.gcd a.natAbs m:Nat):Int)=1)=Mk.cop m a:=by
 unfold Mk.cop
 rw[kr]
 show ((Nat.gcd a.natAbs m:Nat):Int)=1↔Nat.gcd a.natAbs m=1
 omega
theorem FC {m a b:Int}:Mk.cop m (a-b)=Mk.cop m (b-a):=by
 unfold Mk.cop
 congr 1
 rw[show b-a=-(a-b) by omega]
 simp
def mX:Sp:=fun vs H Q _=>∃ (p:Addr) (fnd:List Int) (m:Nat) (n:Int),vs=[.ref p,.int m,.int n]/\H p=some (.lst (fnd.map V.int))/\fnd.length<=8/\3<=m/\m<=26/\m%2=1/\0<=n/\(∀ x∈fnd,0<=x/\x<(m:Int))/\Mk.safe m fnd=true ∧
 ∀ q (x n':Int) H',H q=none->aD H H'->H' q=some (.lst [.int x,.int n'])->0<=x/\x<(m:Int)->Mk.safe m (fnd++[x])=true->0<=n'->Q (.ref q) H'
theorem jF:aL ["_law_weights","_law_m","_law_number","_law_some"] ["_law_weights","_law_m","_law_number"] (ay kH):=by subst_eqs
theorem tZ (F:Fun K "_law_weight" "_law_weight" kH f fd) (T:Bl mg) (AF:AdF K mg Ad) (C_law_divisor:Fnc P w K mg base (CX1 P w) 1 "_law_divisor" ["_law_one","_law_other"] lW):bI P w K mg base (CX1 P w) 2 f fd ["_law_weights","_law_m","_law_number"] mX:=by
 refine F.okX (k:=1) jF ?_ ?_
 ·bv_decide
 ·bv_normalize
  obtain⟨p,fnd,m,n,rfl,hp,f8,m3,m26,mo,hn,hb,hs,k⟩:=h
  refine⟨_,ae (jU (i:=3) ["_law_weight_here"] jF.nd rfl (Or.inl rfl) rfl ⟨rfl,by decide +kernel,rfl,by decide +kernel⟩ (.cons (j:=1) rfl (.inl (by kernel_rfl)) (.nil)) (by decide +kernel) (zg T.range (af (aq) (af (pvC 1) (aa)))) (fun _ _ _ _=>aV (i:=0) (show (["_law_weight_here","_law_m"]:List Str).Nodup from by decide +kernel)) (fun _ _ _ _=>vL (bg (cQ (K:=K) rfl hu) (aF C_law_divisor jv (hr.mono (by decide)) (af (pvL 0) (af (pvC 1) (aa)))) (aq) (bo _))) (fun _ _ _ _=>pvL 0)) (ae (bK (bg (nv (K:=K) rfl hu) (pvC 0) (bF (aa)) (bo _)) (ak (jU (i:=3) ["_law_weight_here"] jF.nd rfl (Or.inl rfl) rfl ⟨rfl,by decide +kernel,rfl,by decide +kernel⟩ (.cons (j:=1) rfl (.inl (by kernel_rfl)) (.cons (j:=0) rfl (.inl (by kernel_rfl)) (.nil))) (by decide +kernel) (cF (K:=K) rfl (pvL 3)) (fun _ _ _ _=>aV (i:=0) (show (["_law_weight_here","_law_m","_law_weights"]:List Str).Nodup from by decide +kernel)) (fun _ _ _ _=>vL (bg (cQ (K:=K) rfl hu) (aF C_law_divisor jv (hr.mono (by decide)) (af (az ou (cw (dE (K:=K) rfl) (pvC 2) (A9 wa (aq)) (fun _ _=>rfl)) (pvL 0)) (af (pvC 1) (aa)))) (aq) (bo _))) (fun _ _ _ _=>pvL 0))) (aX)) (ak (aI (bF (af (cw (dE (K:=K) rfl) (pvL 3) (az bC (pvL 2) (a8 (aY (K:=K) rfl) T.len bQ (af (pvL 3) (aa)))) (fun _ _=>rfl)) (af (az ck (pvL 2) (a8 (aY (K:=K) rfl) T.len bQ (af (pvL 3) (aa)))) (aa))))))),?_⟩
  have big:∀ {u:Nat},u<=1000->u<=sizeLine:=fun hu=>aN (av (by omega))
  have fin:∀ (D:Addr) (S:List Int) (H':Hp),aD H H'->H' D=some (.lst (S.map V.int))->S.length<=26->(∀ w,w∈S↔(0<=w/\w<(m:Int))/\Mk.cop m w=true/\(fnd=[]∨Mk.cop m (w-fnd.getLastD 0)=true))->∃ x∈S,S.length≠0/\∀ y∈S,(0<=y/\y<(m:Int))/\Mk.safe m (fnd++[y])=true:=by
   intro D S H' _ _ _ hm
   have hne:=Mk.CZ (m:=(m:Int)) (by omega) (by omega) (by omega) hb (Mk.iG.mp hs).1
   obtain⟨x,hx⟩:=List.exists_mem_of_ne_nil _ hne
   have hx':x∈S:=by
    unfold Mk.CY at hx
    obtain⟨h1,h2⟩:=kf.mp hx
    rw[bS,Bool.or_eq_true] at h2
    exact (hm x).mpr ⟨Mk.mJ.mp h1,h2.1,h2.2.imp (fun e=>List.isEmpty_iff.mp e) id⟩
   refine⟨x,hx',fun e=>?_,fun y hy=>?_⟩
   ·rw[List.length_eq_zero_iff.mp e] at hx';cases hx'
   ·obtain⟨h1,h2,h3⟩:=(hm y).mp hy
    exact⟨h1,Mk.Cm hs h2 h3⟩
  grind
  refine⟨⟨by decide,by decide,by omega,by omega⟩,Gg (fun k:Nat=>V.int (1+(k:Int))) (fun x y e=>by have:=V.int.inj e;omega) qg (by rw[gk];exact av (by omega)) (fun k=>Mk.cop m (1+(k:Int))) (fun k=>V.int (1+(k:Int))) ?_ ?_ ?_⟩
  ·intro x hx H5 t5 R hR
   and_intros
   refine⟨1+(x:Int),m,rfl,?_⟩
   and_intros
   rw[zR]
   exact hR H5 (aD.refl _)
  ·intro x hx hpr H5 t5 R hR
   and_intros
   exact hR H5 (aD.refl _)
  intro D H1 hD s1 h1
  have h1':H1 D=some (.lst ((((List.range ((m:Int)-1).toNat).filter fun (k:Nat)=>Mk.cop m (1+(k:Int))).map fun (k:Nat)=>1+(k:Int)).map V.int)):=by rw[h1,aK];rfl
  have hm1:∀ w,w∈((List.range ((m:Int)-1).toNat).filter fun (k:Nat)=>Mk.cop m (1+(k:Int))).map (fun (k:Nat)=>1+(k:Int))↔(0<=w/\w<(m:Int))/\Mk.cop m w=true:=by
   intro w
   constructor
   ·intro h
    obtain⟨k,hk,rfl⟩:=aM.mp h
    obtain⟨h1,h2⟩:=kf.mp hk
    have:=gm.mp h1
    exact⟨by omega,h2⟩
   ·rintro⟨h1,h2⟩
    have h0:w≠0:=fun e=>by
     subst e
     have h2':decide (Int.gcd 0 (m:Int)=1)=true:=h2
     rw[Int.zero_gcd] at h2'
     have:=gy h2'
     omega
    have hw:1+(((w-1).toNat:Nat):Int)=w:=by omega
    exact aM.mpr ⟨(w-1).toNat,kf.mpr ⟨gm.mpr (by omega),by rw[hw];exact h2⟩,hw⟩
  have hl1:(((List.range ((m:Int)-1).toNat).filter fun (k:Nat)=>Mk.cop m (1+(k:Int))).map (fun (k:Nat)=>1+(k:Int))).length<=26:=by
   rw[aj]
   refine bJ (pe _ _) ?_
   rw[gk];omega
  clear h1
  generalize ((List.range ((m:Int)-1).toNat).filter fun (k:Nat)=>Mk.cop m (1+(k:Int))).map (fun (k:Nat)=>1+(k:Int))=S at h1' hm1 hl1
  cbv
  refine zS (fun σ H'=>∃ (D:Addr) (S:List Int),σ=[some (V.ref p),some (V.int m),some (V.int n),some (V.ref D)]/\aD H H'/\H' D=some (.lst (S.map V.int))/\S.length<=26/\(∀ w,w∈S↔(0<=w/\w<(m:Int))/\Mk.cop m w=true/\(fnd=[]∨Mk.cop m (w-fnd.getLastD 0)=true))) ?_ ?_
  ·rintro σ H2 ⟨D2,S2,rfl,s2,h2,l2,m2⟩
   obtain⟨x,hx,hne,hall⟩:=fin D2 S2 H2 s2 h2 l2 m2
   have i0:=cA n (b:=(S2.length:Int)) (by omega)
   have i1:=df n (b:=(S2.length:Int)) (by omega)
   have hat:S2[(n%(S2.length:Int)).toNat]?=some (S2[(n%(S2.length:Int)).toNat]'(by omega)):=bu _
   generalize S2[(n%(S2.length:Int)).toNat]'(by omega)=y at hat
   obtain⟨y1,y2⟩:=hall y (br hat)
   and_intros
   refine⟨_,.inl (.of h2),?_⟩
   rw[aj]
   refine⟨by omega,_,_,.inl (.of h2),uR i0 (by rw[bY,hat];rfl),_,.inl (.of h2),?_⟩
   rw[aj]
   refine⟨⟨by omega,Int.lt_trans (show (S2.length:Int)<1000 by omega) (by decide)⟩,big (by decide),fun q H3 hq s3 h3=>k q y _ H3 (s2.free hq) (s2.trans s3) h3 y1 y2 (ma hn (by omega))⟩
  ·intro U hU
   and_intros
   refine⟨bN _,fun p1 H2 hp1 s2 h2=>⟨_,_,.of ((s1.trans s2) _ _ hp),.of h2,BC fnd,rfl,?_⟩⟩
   have s12:=s1.trans s2
   cases hf:fnd with
   | nil =>
    rw[ai (by rw[show pN (([]:List Int).map V.int) []=true from rfl];decide)]
    exact hU _ _ ⟨D,S,rfl,s12,s2 _ _ h1',hl1,fun w=>by rw[hm1 w];exact⟨fun ⟨a,b⟩=>⟨a,b,.inl hf⟩,fun ⟨a,b,_⟩=>⟨a,b⟩⟩⟩
   | cons x y =>
    have hlast:(fnd.map V.int).getLast?=some (.int (fnd.getLastD 0)):=by
     rw[List.getLast?_map,List.getLastD_eq_getLast?,hf,List.getLast?_cons];rfl
    have hne:fnd≠[]:=by rw[hf];simp
    rw[ao (by simp [pN])]
    refine .inl ⟨⟨_,.of (s2 _ _ h1')⟩,Gg V.int gN (fv (.of (s2 _ _ h1'))) (av (by omega)) (fun w=>Mk.cop m (w-fnd.getLastD 0)) V.int ?_ ?_ ?_⟩
    ·intro x hx H5 t5 R hR
     and_intros
     refine⟨_,_,.inl (.of (t5 _ _ (s12 _ _ hp))),uc hlast,?_⟩
     and_intros
     refine⟨fnd.getLastD 0-x,m,rfl,?_⟩
     and_intros
     rw[zR,FC]
     exact hR H5 (aD.refl _)
    ·intro x hx hpr H5 t5 R hR
     and_intros
     exact hR H5 (aD.refl _)
    intro D3 H3 hD3 s3 h3
    refine hU _ _ ⟨D3,_,rfl,s12.trans s3,h3,bJ (pe _ _) hl1,fun w=>?_⟩
    rw[kf,hm1 w]
    constructor
    ·rintro⟨⟨a,b⟩,c⟩
     exact⟨a,b,.inr c⟩
    ·rintro⟨a,b,c⟩
     exact⟨⟨a,b⟩,c.resolve_left hne⟩
def jk:Sp:=fun vs H Q _=>∃ (n:Int) (j:Nat),vs=[.int n,.int j]/\0<=n/\j<=6/\∀ p (ws:List (List Nat)) H',ws.length=j->(∀ w∈ws,1<=w.length/\w.length<=20/\∀ c∈w,97<=c/\c<123)->H p=none->aD H H'->H' p=some (.lst (ws.map fun w=>.str (tx w)))->Q (.ref p) H'
theorem dN:aL ["_law_number","_law_many","_law_words","_law_k","_law_word_here"] ["_law_number","_law_many"] (ay gG):=by subst_eqs
theorem oo (F:Fun K "_law_some_words" "_law_some_words" gG f fd) (T:Bl mg) (AF:AdF K mg Ad) (C_law_word:Fnc P w K mg base (CX1 P w) 1 "_law_word" ["_law_number"] lY):bI P w K mg base (CX1 P w) 2 f fd ["_law_number","_law_many"] jk:=by
 refine F.okX (k:=1) dN ?_ ?_
 ·bv_decide
 ·bv_normalize
  obtain⟨n,j,rfl,hn,hj,k⟩:=h
  refine⟨_,ae (aB (i:=2) dN.nd (bF (aa))) (ae (fK cO rfl (fJ T.range (af (pvL 1) (aa))) (aV (i:=3) dN.nd) (ae (sW (aF C_law_word aw (hr.mono (by decide)) (af (pvL 0) (aa))) (ow (K:=K) (n:=2) rfl rfl (cG (aV (i:=4) dN.nd) (cG (aV (i:=0) dN.nd) (iu))))) (ak (gO (dy (K:=K) rfl kh m7 m8 i6 (pvL 2) (af (pvL 4) (aa))))))) (ak (aI (pvL 2)))),?_⟩
  grind
  refine⟨bN _,fun p H1 hp s1 h1=>?_⟩
  cbv
  grind
  refine⟨by omega,by omega,?_⟩
  refine nX (n:=j) (fun i σ H'=>∃ (ws:List (List Nat)) (n':Int) (o3 o4:Option V),σ=[some (.int n'),some (.int (j:Int)),some (.ref p),o3,o4]/\0<=n'/\ws.length=i/\(∀ w∈ws,1<=w.length/\w.length<=20/\∀ c∈w,97<=c/\c<123)/\(∀ b o,b≠p->H1 b=some o->H' b=some o)/\H' p=some (.lst (ws.map fun w=>.str (tx w)))) ?_ ?_ ?_
  ·exact⟨[],n,none,none,rfl,hn,rfl,(fun _ h=>nomatch h),fun _ _ _ h=>h,h1⟩
  ·rintro i σ H2 hi ⟨ws,n',o3,o4,rfl,hn',hwl,hw,f1,f2⟩ N hNx
   clear hN
   and_intros
   rw[dq]
   and_intros
   refine⟨n',rfl,hn',fun q w n2 H3 w1 w2 w3 hn2 hq s3 h3=>?_⟩
   and_intros
   refine⟨_,.l h3,rfl,?_⟩
   have f2':=s3 _ _ f2
   and_intros
   refine⟨.inl ⟨rfl,_,.of f2'⟩,p,_,_,rfl,rfl,f2',?_,hNx _ _ ⟨ws++[w],n2,_,_,rfl,hn2,?_,?_,fun b o hb e=>?_,?_⟩⟩
   ·rw[aj];exact av (by omega)
   ·rw[ah,gY];omega
   ·intro w' hw'
    rcases bw.mp hw' with hw' | hw'
    ·exact hw w' hw'
    ·rw[bt.mp hw'];exact⟨w1,w2,w3⟩
   ·rw[aP hb];exact s3 _ _ (f1 b o hb e)
   ·rw[aS,cN];rfl
  ·rintro σ H2 ⟨ws,n',o3,o4,rfl,hn',hwl,hw,f1,f2⟩
   show nn _ _ _
   rw[hN]
   and_intros
   refine k p ws H2 hwl hw hp (fun b o e=>f1 b o (fun e2=>by rw[←e2,e] at hp;cases hp) (s1 b o e)) f2
def FR (l:List Nat):Bool:=decide (1<=l.length)&&decide (l.length<=9)&&l.all (fun c=>decide (48<=c/\c<58))&&!(decide (1<l.length)&&decide (l[0]?=some 48))
theorem Ah {l:List Nat} (h:jK l):FR l=true:=by
 obtain⟨h1,h2,h3,h4⟩:=h
 unfold FR
 simp only[bS,bP,bM,Bool.not_eq_true',Bool.and_eq_false_iff,decide_eq_false_iff_not]
 exact⟨⟨⟨h1,h2⟩,h3⟩,Classical.not_and_iff_not_or_not.mp h4⟩
def vf (row:List Nat):Bool:=match Mk.aZ 32 row with
 | [_,a,w,r]=>(Mk.aZ 44 w).all FR&&FR r&&decide (3<=(Mk.aZ 44 w).length)&&decide ((Mk.aZ 44 w).length<=8)&&(Mk.aZ 44 w).all (fun d=>decide (PySem.NumText.digitsVal d<a.length))&&Mk.safe a.length ((Mk.aZ 44 w).map fun d=>((PySem.NumText.digitsVal d:Nat):Int))&&decide (PySem.NumText.digitsVal r<a.length)
 | _=>false
theorem Dz (ok:bf al ws r):vf (bU al ws r)=true:=by
 have cb:=uY ok
 have rm:=ok.rm
 have e:=nS cb.ne cb.wf
 rw[show Mk.b7 44 ((ws.map Int.toNat).map Mk.dgN)=Mk.b7 44 (ws.map fun w=>Mk.dgN w.toNat) from by rw[aK];rfl] at e
 unfold vf
 rw[(cK ok).1]
 simp only[e]
 have vb:∀ m:Nat,PySem.NumText.digitsVal (Mk.dgN m)=m:=fun m=>pz m
 have w3:=ok.w3
 have w8:=ok.w8
 simp only[bS,bP,bM,aj,vb]
 refine⟨⟨⟨⟨⟨⟨fun d hd=>?_,Ah cb.rf⟩,w3⟩,w8⟩,fun d hd=>?_⟩,?_⟩,by omega⟩
 ·obtain⟨w,hw,rfl⟩:=aM.mp hd
  exact Ah (cb.wf w hw)
 ·obtain⟨w,hw,rfl⟩:=aM.mp hd
  obtain⟨x,hx,rfl⟩:=aM.mp hw
  have:=ok.wm x hx
  rw[vb];omega
 ·rw[aK,show (fun d=>((PySem.NumText.digitsVal d:Nat):Int)) ∘ Mk.dgN=fun w:Nat=>(w:Int) from funext fun m=>by show ((PySem.NumText.digitsVal (Mk.dgN m):Nat):Int)=_;rw[vb],tO fun w hw=>(ok.wm w hw).1]
  exact ok.safe
structure nM (row:List Nat):Prop where
 len:row.length<=300
 nl:10∉row
 no:∀ al ws r,bf al ws r->bU al ws r≠row
def CC (v:V):Prop:=∃ row,v=.str (tx row)/\nM row
theorem nW (h:vf row=false) (hl:row.length<=300) (hn:10∉row):nM row:=⟨hl,hn,fun al ws r ok e=>by have:=Dz ok;rw[e,h] at this;cases this⟩
theorem xv (h:row.count 32≠3) (hl:row.length<=300) (hn:10∉row):nM row:=⟨hl,hn,fun al ws r ok e=>h (by
 have:=iN 32 row
 rw[←e,(cK ok).1] at this
 rw[←e]
 simp at this
 omega)⟩
theorem Ag (ok:bf al ws r):al.length%2=1:=by
 obtain⟨h1,h2⟩:=Mk.iG.mp ok.safe
 have w3:=ok.w3
 obtain⟨a,ha⟩:∃ a,ws[0]?=some a:=⟨_,bu (by omega)⟩
 obtain⟨b,hb⟩:∃ b,ws[1]?=some b:=⟨_,bu (by omega)⟩
 have od:∀ x:Int,Mk.cop al.length x=true->al.length%2=0->x%2=1:=fun x hx he=>by
  have hx':=gy hx
  rcases (show x%2=0∨x%2=1 by omega) with h | h
  ·exfalso
   have d1:(2:Int) ∣ x:=Int.dvd_of_emod_eq_zero h
   have d2:(2:Int) ∣ (al.length:Int):=Int.dvd_of_emod_eq_zero (by omega)
   have:=Int.dvd_coe_gcd d1 d2
   rw[hx'] at this
   omega
  ·exact h
 rcases (show al.length%2=0∨al.length%2=1 by omega) with h | h
 ·have:=od _ (h1 a (br ha)) h
  have:=od _ (h1 b (br hb)) h
  have:=od _ (h2 0 a b ha hb) h
  omega
 ·exact h
theorem B8 {a w r:List Nat} (ha:32∉a) (hw:32∉w) (hr:32∉r):Mk.aZ 32 ([99,111,100,101,32]++a++[32]++w++[32]++r)=[[99,111,100,101],a,w,r]:=by
 have e:[99,111,100,101,32]++a++[32]++w++[32]++r=Mk.b7 32 [[99,111,100,101],a,w,r]:=by simp [Mk.b7]
 rw[e]
 refine Mk.cT _ (by simp) fun x hx=>?_
 simp only[aH,dh,dm] at hx
 rcases hx with rfl | rfl | rfl | rfl
 ·decide
 ·exact ha
 ·exact hw
 ·exact hr
def KS (v:V):Prop:=∃ l:List Nat,v=.str (tx l)/\l.length<=40/\10∉l/\32∉l/\∀ al ws r,bf al ws r->al≠l
def J8 (f:List Nat->List Nat) (v:V):Prop:=∃ l:List Nat,v=.str (tx l)/\l.length<=40/\vf (f l)=false/\10∉l
inductive gJ (Ad:Ads) (vs:List V) (H:Hp) (Q:VK) (E:XK):Prop
 | mk (ca:Addr) (al:List Nat) (ws:List Int) (r n:Int) (q0:vs=[.ref ca,.int n]) (q1:cP Ad H ca al ws r) (q2:bf al ws r) (q3:0<=n) (q4:∀ row H',nM row->aD H H'->Q (.str (tx row)) H'):gJ Ad vs H Q E
theorem cu:aL ["_law_code_here","_law_number","_law_weights","_law_rest","_law_good","_law_some","_law_letters","_law_wrong","_law_loads","_law_last"] ["_law_code_here","_law_number"] (ay ig):=by subst_eqs
theorem pU (F:Fun K "_law_odd_first" "_law_odd_first" ig f fd) (T:Bl mg) (AF:AdF K mg Ad) (M_Code_alphabet:Mtd P w K mg base (CX1 P w) Ad.Code "alphabet" 1 ["self"] (fh Ad)) (M_Code_rest:Mtd P w K mg base (CX1 P w) Ad.Code "rest" 1 ["self"] (kL Ad)) (M_Code_weights:Mtd P w K mg base (CX1 P w) Ad.Code "weights" 1 ["self"] (ik Ad)):bI P w K mg base (CX1 P w) 2 f fd ["_law_code_here","_law_number"] (gJ Ad):=by
 refine F.okX (k:=1) cu ?_ ?_
 ·bv_decide
 ·bv_normalize
  obtain⟨ca,al,ws,r,n,rfl,C,ok,hn,k⟩:=h
  refine⟨_,ae (aB (i:=2) cu.nd (dy (K:=K) rfl cV h9 hO (gS (K:=K) rfl) (au) (af (jc ["_law_weight_here"] rfl ⟨rfl,by decide +kernel,rfl,by decide +kernel⟩ (.nil) (by decide +kernel) (cF (K:=K) rfl (cc M_Code_weights aw (hr.mono (by decide)) (pvL 0))) (fun _ _ _ _=>aV (i:=0) (show (["_law_weight_here"]:List Str).Nodup from by decide +kernel)) (fun _ _ _ _=>dM) (fun _ _ _ _=>eS pL T.str ky (af (pvL 0) (aa)))) (aa)))) (ae (aB (i:=3) cu.nd (eS pL T.str ky (af (cc M_Code_rest aw (hr.mono (by decide)) (pvL 0)) (aa)))) (ae (aB (i:=4) cu.nd (az a9 (az a9 (cc M_Code_alphabet aw (hr.mono (by decide)) (pvL 0)) (au)) (pvL 2))) (ae (aB (i:=5) cu.nd (bF (af (au) (af (au) (af (az a9 (au) (pvL 4)) (af (az a9 (az a9 (az a9 (au) (pvL 4)) (au)) (pvL 3)) (af (az a9 (az a9 (az a9 (au) (pvL 4)) (au)) (pvL 3)) (af (az a9 (az a9 (pvL 4) (au)) (pvL 3)) (aa))))))))) (ae (fK cO rfl (cF (K:=K) rfl (bF (af (au) (af (az a9 (cc M_Code_alphabet aw (hr.mono (by decide)) (pvL 0)) (cw (dE (K:=K) rfl) (cc M_Code_alphabet aw (hr.mono (by decide)) (pvL 0)) (aq) (fun _ _=>rfl))) (af (bX (eP (K:=K) rfl) (cc M_Code_alphabet aw (hr.mono (by decide)) (pvL 0)) (cB (aq)) (cH)) (af (au) (af (au) (af (au) (aa))))))))) (aV (i:=6) cu.nd) (ak (gO (dy (K:=K) rfl kh m7 m8 i6 (pvL 5) (af (az a9 (az a9 (az a9 (az a9 (az a9 (au) (pvL 6)) (au)) (pvL 2)) (au)) (pvL 3)) (aa)))))) (ae (aB (i:=7) cu.nd (bF (af (au) (af (au) (af (au) (af (au) (af (au) (af (au) (af (au) (af (au) (af (au) (af (au) (af (au) (aa)))))))))))))) (ae (fK cO rfl (cF (K:=K) rfl (az a9 (pvL 7) (bF (af (au) (aa))))) (aV (i:=8) cu.nd) (ak (gO (dy (K:=K) rfl kh m7 m8 i6 (pvL 5) (af (az a9 (az a9 (au) (pvL 8)) (au)) (aa)))))) (ae (fK cO rfl (cF (K:=K) rfl (bF (af (au) (af (au) (af (au) (af (au) (af (au) (af (au) (af (au) (af (au) (af (au) (aa)))))))))))) (aV (i:=9) cu.nd) (ak (gO (dy (K:=K) rfl kh m7 m8 i6 (pvL 5) (af (az a9 (au) (pvL 9)) (aa)))))) (ak (aI (cw (dE (K:=K) rfl) (pvL 5) (az bC (pvL 1) (a8 (aY (K:=K) rfl) T.len bQ (af (pvL 5) (aa)))) (fun _ _=>rfl))))))))))),?_⟩
  have big:∀ {u:Nat},u<=1000->u<=sizeLine:=fun hu=>aN (av (by omega))
  have a3:=ok.a3
  have a26:=ok.a26
  have w3:=ok.w3
  have w8:=ok.w8
  have rm:=ok.rm
  obtain⟨dc,qc,hc1,hc2⟩:=id C
  have hdl:∀ w∈ws,0<=w/\w<26/\(Mk.dgN w.toNat).length<=2:=fun w hw=>by
   have:=ok.wm w hw
   exact⟨by omega,by omega,(Mk.dW w.toNat (by omega)).2.1⟩
  grind
  refine⟨rfl,dc,_,hc1,bG (by decide) (by decide) (by decide) al qc r,ca,al,ws,r,rfl,C,fun p1 H1 hp1 s1 g1=>?_⟩
  and_intros
  refine .inl ⟨⟨_,.of g1⟩,qP V.int gN (fv (.of g1)) (av (by omega)) (fun w=>V.str (tx (Mk.dgN w.toNat))) ?_ ?_⟩
  ·intro w hw H2 s2 R hR
   have:=hdl w hw
   and_intros
   exact⟨by omega,by omega,hR H2 (aD.refl _)⟩
  intro D H2 hD s2 g2
  have e44:Str.ofString ","=tx [44]:=rfl
  and_intros
  have j24:=zJ (fun w hw=>⟨(hdl w hw).1,(hdl w hw).2.1⟩) w8
  refine⟨(ws.map fun w=>Mk.dgN w.toNat).map tx,.of (by rw[g2,aK,aK];rfl),?_,?_⟩
  ·rw[aj,aj,e44,aJ]
   have h2:(((ws.map fun w=>Mk.dgN w.toNat).map tx).map (·.length)).sum<=2*ws.length:=by
    clear hN g1 g2 w3 w8 C hc2 hc1 k ok j24
    induction ws with
    | nil=>simp
    | cons w r ih =>
     have h3:=ih fun x hx=>hdl x (bb _ hx)
     have h4:=(hdl w aR).2.2
     simp only[aQ,fb,ag,aJ] at h3 h4 ⊢
     omega
   show _+ws.length*1<=_
   omega
  have cp:=cK ok
  have wc:∀ c∈Mk.b7 44 (ws.map fun w=>Mk.dgN w.toNat),c=44∨(48<=c/\c<58):=fun c hc=>by
   rcases mI _ hc with h | ⟨l,hl,h⟩
   ·exact .inl h
   ·obtain⟨w,hw,rfl⟩:=aM.mp hl
    exact .inr ((Mk.dW w.toNat (by have:=hdl w hw;omega)).2.2.1 c h)
  have rc:(Mk.dgN r.toNat).length<=2/\∀ c∈Mk.dgN r.toNat,48<=c/\c<58:=⟨(Mk.dW r.toNat (by omega)).2.1,(Mk.dW r.toNat (by omega)).2.2.1⟩
  rw[e44,jZ]
  generalize Mk.b7 44 (ws.map fun w=>Mk.dgN w.toNat)=W at j24 wc
  cbv
  have s02:=s1.trans s2
  grind
  refine⟨dc,_,s02 _ _ hc1,bG (by decide) (by decide) (by decide) al qc r,ca,al,ws,r,rfl,C.same s02,?_⟩
  and_intros
  refine⟨rm.1,by omega,?_⟩
  generalize Mk.dgN r.toNat=R at rc
  cbv
  grind
  refine⟨dc,_,s02 _ _ hc1,bG (by decide) (by decide) (by decide) al qc r,ca,al,ws,r,rfl,C.same s02,?_⟩
  and_intros
  have e32:Str.ofString " "=tx [32]:=rfl
  have na:∀ c∈al,97<=c/\c<123:=ok.abc
  have ca0:al.count 32=0:=List.count_eq_zero.mpr fun h=>by have:=na _ h;omega
  have cw0:W.count 32=0:=List.count_eq_zero.mpr fun h=>by have:=wc _ h;omega
  have cr0:R.count 32=0:=List.count_eq_zero.mpr fun h=>by have:=rc.2 _ h;omega
  have n10:10∉al/\10∉W/\10∉R:=⟨fun h=>by have:=na _ h;omega,fun h=>by have:=wc _ h;omega,fun h=>by have:=rc.2 _ h;omega⟩
  have n32:32∉al/\32∉W/\32∉R:=⟨fun h=>by have:=na _ h;omega,fun h=>by have:=wc _ h;omega,fun h=>by have:=rc.2 _ h;omega⟩
  rw[e32]
  simp only[cy,aJ]
  have gl:(al++[32]++W).length<=60/\(al++[32]++W).count 32=1/\10∉al++[32]++W:=⟨by simp only[ah,ag,ax];omega,by rw[gh,gh,ca0,cw0];rfl,by simp [n10.1,n10.2.1]⟩
  refine⟨big (by simp only[ag,ax];omega),big (by simp only[ah,ag,ax];omega),?_⟩
  cbv
  grind
  rw[show Str.ofString "code "=tx [99,111,100,101,32] from rfl,show Str.ofString "code  "=tx [99,111,100,101,32,32] from rfl,show Str.ofString "Code "=tx [67,111,100,101,32] from rfl,e32]
  simp only[cy,aJ]
  generalize al++[32]++W=Gd at gl
  obtain⟨gl1,gl2,gl3⟩:=gl
  have rl:=rc.1
  refine⟨big (by simp only[ah,ag,ax];omega),big (by simp only[ah,ag,ax];omega),big (by simp only[ah,ag,ax];omega),big (by simp only[ah,ag,ax];omega),big (by simp only[ah,ag,ax];omega),big (by simp only[ah,ag,ax];omega),big (by simp only[ah,ag,ax];omega),big (by simp only[ah,ag,ax];omega),big (by simp only[ah,ag,ax];omega),big (by decide),fun p G0 hp t0 g0=>?_⟩
  have li:∀ {l:List Nat},l.length<=200->10∉l->l.count 32≠3->CC (.str (tx l)):=fun h1 h2 h3=>⟨_,rfl,xv h3 (by omega) h2⟩
  obtain⟨xs0,e0,A0,l0⟩:∃ xs,G0 p=some (.lst xs)/\(∀ v∈xs,CC v)/\1<=xs.length/\xs.length<=6:=⟨_,g0,by
   simp only[cM]
   refine⟨⟨[99,111,100,101],rfl,nW rfl (by decide) (by decide)⟩,⟨[],rfl,nW rfl (by decide) (by decide)⟩,li (by simp only[ah,ag,ax];omega) (by simp [gl3]) (by rw[gh,gl2];decide),li (by simp only[ah,ag,ax];omega) (by simp [gl3,n10.2.2]) (by simp only[gh,gl2,cr0];decide),⟨_,rfl,?_,?_,fun al' ws' r' ok' e=>?_⟩,li (by simp only[ah,ag,ax];omega) (by simp [gl3,n10.2.2]) (by simp only[gh,gl2,cr0];decide),fun _ h=>by cases h⟩
   ·simp only[ah,ag,ax];omega
   ·simp [gl3,n10.2.2]
   ·have:=aG (·[0]?) e
    unfold bU at this
    simp at this,by simp,by simp⟩
  clear g0 li
  have S0:=s02.trans t0
  have hp0:H p=none:=s02.free hp
  cbv
  grind
  have C0:=C.same S0
  have h10:=S0 _ _ hc1
  have cfn:=bG (m:=Str.ofString "alphabet") (by decide) (by decide) (by decide) al qc r
  obtain⟨c0,hc0⟩:∃ c0,al[0]?=some c0:=⟨_,bu (by omega)⟩
  refine⟨dc,_,h10,cfn,ca,al,ws,r,rfl,C0,dc,_,h10,cfn,ca,al,ws,r,rfl,C0,?_⟩
  and_intros
  rw[aJ,b0]
  refine⟨big (by omega),c0,bB hc0,?_⟩
  rw[show (⟨#[c0]⟩:Str)=tx [c0] from rfl]
  simp only[cy,aJ]
  refine⟨big (by simp only[ag,ax];omega),dc,_,h10,cfn,ca,al,ws,r,rfl,C0,?_⟩
  and_intros
  rw[b0,aJ,show jN _ (some 1) none=_ from mE _ 1]
  refine⟨big (by omega),big (by decide),fun p1 G1 hp1 t1 g1=>?_⟩
  have A1:∀ v∈[V.str (Str.ofString "ab"),V.str (tx (al++[c0])),V.str (tx (al.drop 1)),V.str (Str.ofString "abC"),V.str (Str.ofString "aab"),V.str (Str.ofString "")],KS v:=by
   simp only[cM]
   refine⟨⟨[97,98],rfl,by decide,by decide,by decide,fun al' ws' r' ok' e=>by have:=ok'.a3;rw[e] at this;revert this;decide⟩,⟨_,rfl,by rw[ah];simp only[ag,ax];omega,?_,?_,fun al' ws' r' ok' e=>?_⟩,⟨_,rfl,by rw[bA];omega,fun z=>n10.1 (iT z),fun z=>n32.1 (iT z),fun al' ws' r' ok' e=>?_⟩,⟨[97,98,67],rfl,by decide,by decide,by decide,fun al' ws' r' ok' e=>by have:=ok'.abc 67 (by rw[e];decide);omega⟩,⟨[97,97,98],rfl,by decide,by decide,by decide,fun al' ws' r' ok' e=>by have:=ok'.nd;rw[e] at this;revert this;decide⟩,⟨[],rfl,by decide,by decide,by decide,fun al' ws' r' ok' e=>by have:=ok'.a3;rw[e] at this;revert this;decide⟩,fun _ h=>by cases h⟩
   ·have:=na c0 (br hc0)
    simp [n10.1];omega
   ·have:=na c0 (br hc0)
    simp [n32.1];omega
   ·have:=ok'.nd
    rw[e,List.nodup_append] at this
    exact this.2.2 c0 (br hc0) c0 (by simp) rfl
   ·have h1:=Ag ok
    have h2:=Ag ok'
    rw[e,bA] at h2
    omega
  have np1:p1≠p:=fun z=>by rw[z,e0] at hp1;cases hp1
  have S1:=S0.trans t1
  refine .inl ⟨⟨_,.of g1⟩,jP (xs:=[V.str (Str.ofString "ab"),V.str (tx (al++[c0])),V.str (tx (al.drop 1)),V.str (Str.ofString "abC"),V.str (Str.ofString "aab"),V.str (Str.ofString "")]) (fun i σ G=>(∃ o6,σ=[some (V.ref ca),some (V.int n),some (V.str (tx W)),some (V.str (tx R)),some (V.str (tx Gd)),some (V.ref p),o6,none,none,none])/\(∀ c o,c≠p->G1 c=some o->G c=some o)/\∃ xs,G p=some (.lst xs)/\(∀ v∈xs,CC v)/\1<=xs.length/\xs.length<=6+i) ?_ ?_ ?_ ?_⟩
  ·exact⟨⟨_,rfl⟩,(fun c o _ e=>e),xs0,t1 _ _ e0,A0,l0.1,l0.2⟩
  ·rintro i σ G _ ⟨_,kp,_⟩
   exact .of (kp _ _ np1 g1)
  ·rintro i v σ G hi ⟨⟨o6,rfl⟩,kp,xs,ex,Ax,lx⟩ N hNx
   clear hN
   have hil:=(b9.mp hi).1
   obtain⟨l,rfl,ll,l10,l32,lno⟩:=A1 _ (br hi)
   and_intros
   refine⟨.inl ⟨rfl,_,.of ex⟩,?_⟩
   rw[show Str.ofString "code "=tx [99,111,100,101,32] from rfl,e32]
   simp only[cy,aJ]
   refine⟨big (by simp only[ah,ag,ax];omega),big (by simp only[ah,ag,ax];omega),big (by simp only[ah,ag,ax];omega),big (by simp only[ah,ag,ax];omega),big (by simp only[ah,ag,ax];omega),p,xs,_,rfl,rfl,ex,av (by simp only[ag,ax] at hil;omega),hNx _ _ ⟨⟨_,rfl⟩,(fun c o hc e=>by rw[aP hc];exact kp c o hc e),_,aS,eY.mpr ⟨Ax,?_⟩,by rw[ah];omega,by rw[ah];simp only[ag,ax];omega⟩⟩
   intro v hv
   rw[bt.mp hv]
   refine⟨_,rfl,by simp only[ah,ag,ax];omega,by simp [l10,n10.2.1,n10.2.2],fun al' ws' r' ok' e=>?_⟩
   have h:=(cK ok').1
   rw[e,B8 l32 n32.2.1 n32.2.2] at h
   injection h with _ h
   injection h with h _
   exact lno al' ws' r' ok' h.symm
  rintro σ G2 ⟨⟨o6,rfl⟩,kp2,xs2,e2,A2,l2⟩
  show nn _ _ _
  rw[hN]
  clear hN nn A1 g1 A0
  simp only[ag,ax] at l2
  have S2:aD H G2:=fun c o e=>kp2 c o (fun z=>by rw[z,hp0] at e;cases e) (S1 _ _ e)
  grind
  refine⟨big (by decide),fun p3 G3 hp3 t3 g3=>?_⟩
  cbv
  grind
  refine⟨big (by decide),fun p4 G4 hp4 t4 g4=>⟨_,_,t4 _ _ g3,g4,big (by decide),fun p5 G5 hp5 t5 g5=>?_⟩⟩
  have np5:p5≠p:=fun z=>by rw[z,t4 _ _ (t3 _ _ e2)] at hp5;cases hp5
  obtain⟨ys,ey,Ay,ly⟩:∃ ys,G5 p5=some (.lst ys)/\(∀ v∈ys,J8 (fun l=>[99,111,100,101,32,97,98,99,32]++l++[32,48]) v)/\ys.length<=12:=⟨_,g5,by
   simp only[eY,cM]
   exact⟨⟨⟨[49,44,50],rfl,by decide,by decide +kernel,by decide⟩,⟨[49,44,49,44,50],rfl,by decide,by decide +kernel,by decide⟩,⟨[48,44,49,44,50],rfl,by decide,by decide +kernel,by decide⟩,⟨[49,44,50,44,49,44,50,44,49,44,50,44,49,44,50,44,49],rfl,by decide,by decide +kernel,by decide⟩,⟨[49,44,50,44,45,49],rfl,by decide,by decide +kernel,by decide⟩,⟨[48,49,44,50,44,49],rfl,by decide,by decide +kernel,by decide⟩,⟨[49,44,32,50,44,49],rfl,by decide,by decide +kernel,by decide⟩,⟨[49,44,50,44,120],rfl,by decide,by decide +kernel,by decide⟩,⟨[],rfl,by decide,by decide +kernel,by decide⟩,⟨[49,44,50,44],rfl,by decide,by decide +kernel,by decide⟩,⟨[49,59,50,59,49],rfl,by decide,by decide +kernel,by decide⟩,fun _ h=>by cases h⟩,⟨[49,44,50,44,50,55],rfl,by decide,by decide +kernel,by decide⟩,fun _ h=>by cases h⟩,by simp⟩
  have t25:=t3.trans (t4.trans t5)
  clear g3 g4 g5
  refine .inl ⟨⟨_,.of ey⟩,jP (xs:=ys) (fun i σ G=>(∃ o8,σ=[some (V.ref ca),some (V.int n),some (V.str (tx W)),some (V.str (tx R)),some (V.str (tx Gd)),some (V.ref p),o6,some (V.ref p3),o8,none])/\(∀ c o,c≠p->G5 c=some o->G c=some o)/\∃ xs,G p=some (.lst xs)/\(∀ v∈xs,CC v)/\1<=xs.length/\xs.length<=12+i) ?_ ?_ ?_ ?_⟩
  ·exact⟨⟨_,rfl⟩,(fun c o _ e=>e),xs2,t25 _ _ e2,A2,l2.1,by omega⟩
  ·rintro i σ G _ ⟨_,kp,_⟩
   exact .of (kp _ _ np5 ey)
  ·rintro i v σ G hi ⟨⟨o8,rfl⟩,kp,xs,ex,Ax,lx⟩ N hNx
   clear hN
   have hil:=(b9.mp hi).1
   obtain⟨l,rfl,ll,lf,l10⟩:=Ay _ (br hi)
   and_intros
   refine⟨.inl ⟨rfl,_,.of ex⟩,?_⟩
   rw[show Str.ofString "code abc "=tx [99,111,100,101,32,97,98,99,32] from rfl,show Str.ofString " 0"=tx [32,48] from rfl]
   simp only[cy,aJ]
   refine⟨big (by simp only[ah,ag,ax];omega),big (by simp only[ah,ag,ax];omega),p,xs,_,rfl,rfl,ex,av (by omega),hNx _ _ ⟨⟨_,rfl⟩,(fun c o hc e=>by rw[aP hc];exact kp c o hc e),_,aS,eY.mpr ⟨Ax,fun v hv=>?_⟩,by rw[ah];omega,by rw[ah];simp only[ag,ax];omega⟩⟩
   rw[bt.mp hv]
   exact⟨_,rfl,nW lf (by simp only[ah,ag,ax];omega) (by simp [l10])⟩
  rintro σ G6 ⟨⟨o8,rfl⟩,kp6,xs6,e6,A6,l6⟩
  show nn _ _ _
  rw[hN]
  clear hN nn Ay
  have S6:aD H G6:=fun c o e=>kp6 c o (fun z=>by rw[z,hp0] at e;cases e) (t25 _ _ (S2 _ _ e))
  grind
  refine⟨big (by decide),fun p7 G7 hp7 t7 g7=>?_⟩
  have np7:p7≠p:=fun z=>by rw[z,e6] at hp7;cases hp7
  obtain⟨zs,ez,Az,lz⟩:∃ ys,G7 p7=some (.lst ys)/\(∀ v∈ys,J8 (fun l=>[99,111,100,101,32,97,98,99,32,49,44,50,44,49,32]++l) v)/\ys.length<=12:=⟨_,g7,by
   simp only[cM]
   exact⟨⟨[51],rfl,by decide,by decide +kernel,by decide⟩,⟨[45,49],rfl,by decide,by decide +kernel,by decide⟩,⟨[48,48],rfl,by decide,by decide +kernel,by decide⟩,⟨[120],rfl,by decide,by decide +kernel,by decide⟩,⟨[],rfl,by decide,by decide +kernel,by decide⟩,⟨[48,32,48],rfl,by decide,by decide +kernel,by decide⟩,⟨[48,49],rfl,by decide,by decide +kernel,by decide⟩,⟨[49,46],rfl,by decide,by decide +kernel,by decide⟩,⟨[43,49],rfl,by decide,by decide +kernel,by decide⟩,fun _ h=>by cases h⟩,by simp⟩
  clear g7
  refine .inl ⟨⟨_,.of ez⟩,jP (xs:=zs) (fun i σ G=>(∃ o9,σ=[some (V.ref ca),some (V.int n),some (V.str (tx W)),some (V.str (tx R)),some (V.str (tx Gd)),some (V.ref p),o6,some (V.ref p3),o8,o9])/\(∀ c o,c≠p->G7 c=some o->G c=some o)/\∃ xs,G p=some (.lst xs)/\(∀ v∈xs,CC v)/\1<=xs.length/\xs.length<=30+i) ?_ ?_ ?_ ?_⟩
  ·exact⟨⟨_,rfl⟩,(fun c o _ e=>e),xs6,t7 _ _ e6,A6,l6.1,by omega⟩
  ·rintro i σ G _ ⟨_,kp,_⟩
   exact .of (kp _ _ np7 ez)
  ·rintro i v σ G hi ⟨⟨o9,rfl⟩,kp,xs,ex,Ax,lx⟩ N hNx
   clear hN
   have hil:=(b9.mp hi).1
   obtain⟨l,rfl,ll,lf,l10⟩:=Az _ (br hi)
   and_intros
   refine⟨.inl ⟨rfl,_,.of ex⟩,?_⟩
   rw[show Str.ofString "code abc 1,2,1 "=tx [99,111,100,101,32,97,98,99,32,49,44,50,44,49,32] from rfl]
   simp only[cy,aJ]
   refine⟨big (by simp only[ah,ag,ax];omega),p,xs,_,rfl,rfl,ex,av (by omega),hNx _ _ ⟨⟨_,rfl⟩,(fun c o hc e=>by rw[aP hc];exact kp c o hc e),_,aS,eY.mpr ⟨Ax,fun v hv=>?_⟩,by rw[ah];omega,by rw[ah];simp only[ag,ax];omega⟩⟩
   rw[bt.mp hv]
   exact⟨_,rfl,nW lf (by simp only[ah,ag,ax];omega) (by simp [l10])⟩
  rintro σ G8 ⟨⟨o9,rfl⟩,kp8,xs8,e8,A8,l8⟩
  show nn _ _ _
  rw[hN]
  clear hN nn Az
  and_intros
  obtain⟨v,hv,row,rfl,ho⟩:=sU (i:=n%(xs8.length:Int)) A8 (cA _ (by omega)) (df _ (by omega))
  exact⟨_,.l e8,by omega,_,_,.l e8,hv,k row G8 ho (fun c o e=>kp8 c o (fun z=>by rw[z,hp0] at e;cases e) (t7 _ _ (S6 _ _ e)))⟩
def lV (K:PySem.W.Frag):Sp:=fun vs H Q _=>∃ (t:List Nat) (a:Addr) (ns:List Int),vs=[.str (tx t),.ref a]/\SqL K H a (ns.map V.int)/\t.length<=20000/\∀ t' H',t'.length<=t.length+1->t'.count 10<=t.count 10+1->aD H H'->Q (.str (tx t')) H'
theorem fZ:aL ["_law_words","_law_script","_law_place","_law_cell","_law_sign"] ["_law_words","_law_script"] (ay jB):=by subst_eqs
theorem sN (F:Fun K "_law_changed" "_law_changed" jB f fd) (T:Bl mg) (AF:AdF K mg Ad) (C_law_cell_at:Fnc P w K mg base (CX1 P w) 1 "_law_cell_at" ["_law_script","_law_k"] (gf K)):bI P w K mg base (CX1 P w) 2 f fd ["_law_words","_law_script"] (lV K):=by
 refine F.okX (k:=1) fZ ?_ ?_
 ·bv_decide
 ·bv_normalize
  obtain⟨t,a,ns,rfl,hS,hl,k⟩:=h
  refine⟨_,ae (aB (i:=2) fZ.nd (az bC (aF C_law_cell_at aw (hr.mono (by decide)) (af (pvL 1) (af (aq) (aa)))) (az a9 (a8 (aY (K:=K) rfl) T.len bQ (af (pvL 0) (aa))) (aq)))) (ae (aB (i:=3) fZ.nd (aF C_law_cell_at aw (hr.mono (by decide)) (af (pvL 1) (af (aq) (aa))))) (ae (aB (i:=4) fZ.nd (cw (dE (K:=K) rfl) (bF (af (au) (af (au) (af (au) (af (au) (af (au) (af (au) (af (au) (af (au) (af (au) (af (au) (aa)))))))))))) (az bC (az ck (pvL 3) (aq)) (aq)) (fun _ _=>rfl))) (ak (aI (az a9 (az a9 (bX (eP (K:=K) rfl) (pvL 0) (cH) (cB (pvL 2))) (pvL 4)) (bX (eP (K:=K) rfl) (pvL 0) (cB (az a9 (pvL 2) (az bC (pvL 3) (aq)))) (cH))))))),?_⟩
  have big:∀ {u:Nat},u<=50000->u<=sizeLine:=fun hu=>aN (av (by omega))
  grind
  refine⟨a,ns,2,rfl,hS,by decide,?_⟩
  and_intros
  rw[aJ]
  refine⟨big (by omega),by omega,?_⟩
  obtain⟨i,hi⟩:=cC (cA (ns.getD (Int.toNat 2) 0) (b:=(t.length:Int)+1) (by omega))
  have hil:i<=t.length:=by have:=df (ns.getD (Int.toNat 2) 0) (b:=(t.length:Int)+1) (by omega);omega
  rw[hi,hN]
  clear hN nn hi
  grind
  refine⟨a,ns,3,rfl,hS,by decide,?_⟩
  generalize ns.getD (Int.toNat 3) 0=c
  cbv
  grind
  refine⟨big (by decide),fun p1 H1 hp1 s1 g1=>⟨⟨by decide,by decide⟩,by decide,?_⟩⟩
  obtain⟨v,hs,s,rfl,sl⟩:=sU (P:=fun v=>∃ s:List Nat,v=.str (tx s)/\s.length<=1) (xs:=[V.str (Str.ofString ""),V.str (Str.ofString "0"),V.str (Str.ofString "a"),V.str (Str.ofString "1"),V.str (Str.ofString ","),V.str (Str.ofString "\n"),V.str (Str.ofString " "),V.str (Str.ofString "b"),V.str (Str.ofString "."),V.str (Str.ofString "=")]) (i:=c/2%10) (by
   simp only[cM]
   exact⟨⟨[],rfl,by decide⟩,⟨[48],rfl,by decide⟩,⟨[97],rfl,by decide⟩,⟨[49],rfl,by decide⟩,⟨[44],rfl,by decide⟩,⟨[10],rfl,by decide⟩,⟨[32],rfl,by decide⟩,⟨[98],rfl,by decide⟩,⟨[46],rfl,by decide⟩,⟨[61],rfl,by decide⟩,fun _ h=>by cases h⟩) (by omega) (by simp only[ag,ax];omega)
  refine⟨_,_,.l g1,hs,?_⟩
  rw[hN]
  clear hN nn hs
  and_intros
  obtain⟨d,hd⟩:=cC (show 0<=c%2 by omega)
  rw[hd,b0,pM,show (i:Int)+((d:Nat):Int)=((i+d:Nat):Int) by omega,mE,cy,cy,aJ,aJ,aJ,aJ,aJ]
  have lt1:(t.take i).length<=t.length:=by rw[bR];omega
  have ld1:(t.take i).length+(t.drop (i+d)).length<=t.length:=by rw[bR,bA];omega
  refine⟨big (by omega),big (by omega),by decide,big (by omega),big (by rw[ah];omega),k _ H1 ?_ ?_ s1⟩
  ·rw[ah,ah];omega
  ·rw[gh,gh]
   have c1:s.count 10<=1:=bJ List.count_le_length sl
   have c2:t.count 10=(t.take i).count 10+(t.drop i).count 10:=by rw[←gh,List.take_append_drop]
   have c3:(t.drop (i+d)).count 10<=(t.drop i).count 10:=by
    rw[←List.drop_drop]
    exact List.Sublist.count_le _ (List.drop_sublist d _)
   omega
def ei (H:Hp) (m:Int):V->Bool
 | .ref p=>match H p with
  | some (.lst xs)=>decide (3<=xs.length)&&decide (xs.length<=8)&&xs.all (bV m)
  | _=>false
 | _=>false
def lS:Sp:=fun vs H Q _=>∃ (x:V) (t:Tg) (m:Int),vs=[x,.int m]/\eI H x=some t/\(∀ p o u,x=.ref p->H p≠some (.frz o u))/\(∀ p xs,x=.ref p->H p=some (.lst xs)->xs.length<=50000/\∀ y∈xs,∃ t,eI H y=some t) ∧
 ∀ H',aD H H'->Q (.bl (ei H m x)) H'
theorem tm:aL ["thing","m"] ["thing","m"] (ay j8):=by subst_eqs
theorem sJ (F:Fun K "are_weights" "are_weights" j8 f fd) (T:Bl mg) (AF:AdF K mg Ad) (C_is_below:Fnc P w K mg base (CX1 P w) 2 "is_below" ["thing","bound"] fP):bI P w K mg base (CX1 P w) 3 f fd ["thing","m"] lS:=by
 refine F.okX (k:=2) tm ?_ ?_
 ·bv_decide
 ·bv_normalize
  obtain⟨x,t,m,rfl,ht,hfz,hit,k⟩:=h
  refine⟨_,ae (bK ((kU (cx (c9 (a8 (eM .lst) T.isinstance bt_isinstance (af (pvL 0) (af (iB T.list ra) (aa)))))) (iC (cx (oE ju ju (aq) (a8 (aY (K:=K) rfl) T.len bQ (af (pvL 0) (aa))) (aq))))).pt) (ak (aI (ip))) (aX)) (ak (aI (a8 (gE (K:=K) rfl rfl) T.all mZ (af (jc ["weight"] rfl ⟨rfl,by decide +kernel,rfl,by decide +kernel⟩ (.cons (j:=1) rfl (.inl (by kernel_rfl)) (.nil)) (by decide +kernel) (cF (K:=K) rfl (pvL 0)) (fun _ _ _ _=>aV (i:=0) (show (["weight","m"]:List Str).Nodup from by decide +kernel)) (fun _ _ _ _=>dM) (fun _ _ _ _=>aF C_is_below jv (hr.mono (by decide)) (af (pvL 0) (af (pvC 1) (aa))))) (aa))))),?_⟩
  by_cases hs:∃ p xs,x=.ref p/\H p=some (.lst xs)
  ·obtain⟨p,xs,rfl,hp⟩:=hs
   obtain⟨hl,hty⟩:=hit p xs rfl hp
   have et:t=Tg.lst:=by
    have:i3 (H p)=some t:=ht
    rw[hp] at this;cases this;rfl
   subst et
   have ek:ei H m (.ref p)=(decide (3<=xs.length)&&decide (xs.length<=8)&&xs.all (bV m)):=by
    show (match H p with | some (.lst xs)=>_ | _=>false)=_
    rw[hp]
   rw[ek] at k
   ac_nf
   refine⟨trivial,Tg.lst,ht,?_⟩
   ac_nf
   refine⟨_,.l hp,?_⟩
   by_cases h3:3<=xs.length
   ·rw[aC h3,fG] at k
    rw[aC (show (3:Int)<=(xs.length:Int) by omega)]
    bv_omega
    by_cases h8:xs.length<=8
    ·rw[aC h8,fG] at k
     rw[aC (show (xs.length:Int)<=8 by omega)]
     bv_omega
     refine .inl ⟨⟨_,.of hp⟩,IF (xs:=xs) (fv (.of hp)) (av (by omega)) (fun y=>.bl (bV m y)) ?_ ?_⟩
     ·intro y hy H2 s2 R hR
      obtain⟨ty,hty⟩:=hty y hy
      have hty2:eI H2 y=some ty:=fw s2 hty
      ac_nf
      refine⟨y,ty,m,rfl,hty2,?_⟩
      exact hR H2 (aD.refl _)
     ·intro D H2 hD s2 h2
      refine⟨D,xs.map (bV m),rfl,.of (by rw[h2,aK];rfl),?_⟩
      have e:(xs.map (bV m)).all id=xs.all (bV m):=by rw[eX];rfl
      rw[e]
      exact k H2 s2
    ·rw[aE h8,kT] at k
     rw[aE (show ¬ (xs.length:Int)<=8 by omega)]
     bv_omega
     exact k H (aD.refl _)
   ·rw[aE h3,kT,kT] at k
    rw[aE (show ¬ (3:Int)<=(xs.length:Int) by omega)]
    bv_omega
    exact k H (aD.refl _)
  ·have hv:ei H m x=false:=by
    cases x with
    | ref p =>
     show (match H p with | some (.lst xs)=>_ | _=>false)=_
     split
     ·rename_i xs hp;exact absurd ⟨p,xs,rfl,hp⟩ hs
     ·rfl
    | _=>rfl
   have hne:t≠Tg.lst:=fun e=>by
    subst e
    cases x with
    | ref a =>
     have h':i3 (H a)=some .lst:=ht
     cases e:H a with
     | none=>rw[e] at h';cases h'
     | some o=>rw[e] at h';cases o with
      | lst xs=>exact hs ⟨a,xs,rfl,e⟩
      | frz ob u=>exact hfz a ob u rfl e
      | _=>cases h'
    | _=>cases ht
   rw[hv] at k
   ac_nf
   refine⟨trivial,t,ht,?_⟩
   cases t<;>first
    | exact absurd rfl hne
    | exact k H (aD.refl _)
inductive dP (Ad:Ads) (vs:List V) (H:Hp) (Q:VK) (E:XK):Prop
 | mk (a:Addr) (al:List Nat) (ws:List Int) (r:Int) (x:V) (t:Tg) (q0:vs=[.ref a,x]) (q1:cP Ad H a al ws r) (q2:bf al ws r) (q3:eI H x=some t) (q4:(bV ((al.length:Int)^(ws.length-1)) x=false->∀ H',aD H H'->E (.ref Ad.NoNumber) none H')) (q5:(∀ k,x=.int k->0<=k->k<(al.length:Int)^(ws.length-1)->∀ H',aD H H'->Q (.str (tx (Mk.gC al (Mk.ir al.length ws r k)))) H')):dP Ad vs H Q E
theorem eA:aL ["self","k","m","left","ahead","weight","lasts"] ["self","k"] (ay lK):=by subst_eqs
theorem vB (F:Fun K "word" "Code.word" lK f fd) (T:Bl mg) (AF:AdF K mg Ad) (C_spelled:Fnc P w K mg base (CX1 P w) 1 "spelled" ["alphabet","places"] tK) (C_are_good:Fnc P w K mg base (CX1 P w) 1 "are_good" ["m","weights","rest","places"] jh) (C_is_below:Fnc P w K mg base (CX1 P w) 2 "is_below" ["thing","bound"] fP) (M_Code_many:Mtd P w K mg base (CX1 P w) Ad.Code "many" 1 ["self"] (eG Ad)):bI P w K mg base (CX1 P w) 3 f fd ["self","k"] (dP Ad):=by
 refine F.okX (k:=2) eA ?_ ?_
 ·bv_decide
 ·bv_normalize
  obtain⟨a,al,ws,r,x,t,rfl,⟨dx,q,h1,h2⟩,ok,ht,kE,kQ⟩:=h
  refine⟨_,ae (bK (cx (c9 (aF C_is_below aw (hr.mono (by decide)) (af (pvL 1) (af (cc M_Code_many aw (hr.mono (by decide)) (pvC 0)) (aa)))))) (ak (dB di AF.q_NoNumber AF.g_NoNumber du rfl (af (au) (aa)))) (aX)) (ae (vN (i:=2) eA.nd (a8 (aY (K:=K) rfl) T.len bQ (af (bW (K:=K) rfl (pvC 0)) (aa)))) (ae (aB (i:=3) eA.nd (pvL 1)) (ae (vN (i:=4) eA.nd (bF (aa))) (ae (fK cO rfl (cF (K:=K) rfl (bX (eP (K:=K) rfl) (bW (K:=K) rfl (pvC 0)) (cB (aq)) (cH))) (aV (i:=5) eA.nd) (ae (gO (dy (K:=K) rfl kh PySem.F.slot_list_insert PySem.F.type_list_insert BU (pvC 4) (af (aq) (af (az bC (pvL 3) (pvC 2)) (aa))))) (ak (aB (i:=3) eA.nd (az ck (pvL 3) (pvC 2)))))) (ae (jU (i:=6) ["last"] eA.nd rfl (Or.inl rfl) rfl ⟨rfl,by decide +kernel,rfl,by decide +kernel⟩ (.cons (j:=2) rfl (.inl (by kernel_rfl)) (.cons (j:=0) rfl (.inl (by kernel_rfl)) (.cons (j:=4) rfl (.inl (by kernel_rfl)) (.nil)))) (by decide +kernel) (fJ T.range (af (pvC 2) (aa))) (fun _ _ _ _=>aV (i:=0) (show (["last","m","self","ahead"]:List Str).Nodup from by decide +kernel)) (fun _ _ _ _=>vL (c9 (aF C_are_good jv (hr.mono (by decide)) (af (pvC 1) (af (bW (K:=K) rfl (pvC 2)) (af (bW (K:=K) rfl (pvC 2)) (af (az a9 (pvC 3) (bF (af (pvL 0) (aa)))) (aa)))))))) (fun _ _ _ _=>pvL 0)) (ak (aI (aF C_spelled aw (hr.mono (by decide)) (af (bW (K:=K) rfl (pvC 0)) (af (az a9 (pvC 4) (pvL 6)) (aa))))))))))),?_⟩
  have g3:=ok.a3
  have g26:=ok.a26
  have w3:=ok.w3
  have w8:=ok.w8
  rw[dq]
  and_intros
  refine⟨dx,_,h1,bG (by decide) (by decide) (by decide) al q r,a,al,ws,r,rfl,⟨dx,q,h1,h2⟩,g26,by omega,w8,fun H1 s1=>?_⟩
  and_intros
  refine⟨x,t,_,rfl,fw s1 ht,?_⟩
  cases hG:bV ((al.length:Int)^(ws.length-1)) x with
  | false =>
   bv_omega
   exact⟨by decide,kE hG H1 s1⟩
  | true =>
   bv_omega
   obtain⟨k,rfl⟩:∃ k,x=.int k:=by
    cases x with
    | int k=>exact⟨k,rfl⟩
    | _=>cases hG
   have hG':(decide (0<=k)&&decide (k<(al.length:Int)^(ws.length-1)))=true:=hG
   rw[bS,bP,bP] at hG'
   have kQ':=kQ k rfl hG'.1 hG'.2
   have h11:=s1 _ _ h1
   have h21:=s1 _ _ h2
   rw[dq]
   and_intros
   refine⟨_,dx,_,_,h11,AF.c_Code,AF.n_Code_letters,dQ al q r,?_⟩
   and_intros
   rw[aJ]
   refine⟨aN (av (by omega)),?_⟩
   and_intros
   rw[dq]
   and_intros
   rw[dq]
   and_intros
   refine⟨bN _,fun p H2 hp s2 hp2=>?_⟩
   rw[dq]
   and_intros
   refine⟨_,dx,_,_,s2 _ _ h11,AF.c_Code,AF.n_Code_factors,fu al q r,?_⟩
   and_intros
   refine⟨_,.of (s2 _ _ h21),fun q1 H3 hq1 s3 h3=>.inl ⟨⟨_,.of h3⟩,?_⟩⟩
   rw[show (1:Int)=((1:Nat):Int) from rfl,eN,←ke] at h3
   have hp3:=s3 _ _ hp2
   have hqp:q1≠p:=fun e=>by rw[e,hp2] at hq1;cases hq1
   have hap:a≠p:=fun e=>by rw[←e,h11] at hp;cases hp
   have hqq:q≠p:=fun e=>by rw[←e,h21] at hp;cases hp
   have h13:=s3 _ _ (s2 _ _ h11)
   have h23:=s3 _ _ (s2 _ _ h21)
   have m0:(0:Int)<al.length:=by omega
   refine rp (xs:=(ws.drop 1).map V.int) (fun i σ H'=>(∀ b o,b≠p->H3 b=some o->H' b=some o)/\H' p=some (.lst ((Mk.iX al.length i k).map V.int))/\∃ o,σ=[some (.ref a),some (.int k),some (.int al.length),some (.int (k/(al.length:Int)^i)),some (.ref p),o,none]) ?_ ?_ ?_ ?_
   ·exact⟨fun _ _ _ h=>h,hp3,none,by rw[Int.pow_zero,Int.ediv_one]⟩
   ·rintro i σ H' _ ⟨f1,_⟩
    exact .of (f1 _ _ hqp h3)
   ·rintro i x σ H' hx ⟨f1,f2,o,rfl⟩
    have hi:i<ws.length-1:=by
     have:=(b9.mp hx).1
     rw[aj,bA] at this
     exact this
    ac_nf
    refine⟨.inl ⟨rfl,_,.of f2⟩,m0,_,f2,Int.le_refl 0,by decide,?_,⟨m0,Int.lt_of_lt_of_le (show (al.length:Int)<1000 by omega) (by decide)⟩,fun b o hb e=>?_,?_,some x,?_⟩
    ·rw[aj,Mk.jO]
     exact av (by omega)
    ·rw[aP hb]
     exact f1 b o hb e
    ·rw[aS,Mk.uv m0]
     rfl
    ·rw[oV (Int.pow_nonneg (eV m0)),Int.pow_succ]
   ·rintro σ H' ⟨f1,f2,o,rfl⟩
    rw[aj,bA] at f2
    have f13:=f1 _ _ hap h13
    have f23:=f1 _ _ hqq h23
    have fm:=Mk.rR m0 (ws.length-1) k
    have fl:=Mk.jO al.length (ws.length-1) k
    obtain⟨l1,l2,l3,-⟩:=Mk.mH (r:=r) m0 (by omega) ok.wm (Mk.iG.mp ok.safe).1 (show (Mk.iX al.length (ws.length-1) k).length+1=ws.length by omega)
    ac_nf
    refine⟨by omega,by omega,?_⟩
    refine Gg V.int gN (GL al.length) (by rw[Mk.Gh];exact av (by omega)) (fun x=>Mk.good al.length ws r (Mk.iX al.length (ws.length-1) k++[x])) V.int ?_ ?_ ?_
    ·intro x hx H5 s5 R hR
     have hxm:=Mk.mJ.mp hx
     ac_nf
     refine⟨_,dx,_,_,s5 _ _ f13,AF.c_Code,AF.n_Code_factors,fu al q r,?_⟩
     refine⟨_,dx,_,_,s5 _ _ f13,AF.c_Code,AF.n_Code_remainder,hX al q r,?_⟩
     refine⟨aN (av (by decide)),fun p1 H6 hp1 s6 h6=>?_⟩
     have f26:=s6 _ _ (s5 _ _ f2)
     refine⟨_,_,f26,h6,by rw[aj,fl];show ws.length-1+1<=sizeLine;exact aN (av (by omega)),fun p2 H7 hp2 s7 h7=>?_⟩
     refine⟨_,q,ws,r,p2,Mk.iX al.length (ws.length-1) k++[x],rfl,m0,s7 _ _ (s6 _ _ (s5 _ _ f23)),by rw[h7,cN];rfl,by omega,ok.sml,?_,fun H8 s8=>⟨_,rfl,hR H8 ((s6.trans s7).trans s8)⟩⟩
     intro y hy
     rcases bw.mp hy with hy | hy
     ·have:=fm y hy;omega
     ·rw[bt.mp hy];omega
    ·intro x hx _ H5 s5 R hR
     ac_nf
     exact hR H5 (aD.refl _)
    ·intro D H5 hD s5 h5
     have f15:=s5 _ _ f13
     have f25:=s5 _ _ f2
     have h5':H5 D=some (.lst ([Mk.qr al.length ws r (Mk.iX al.length (ws.length-1) k)].map V.int)):=by
      rw[h5,←l1]
      rfl
     ac_nf
     refine⟨_,dx,_,_,f15,AF.c_Code,AF.n_Code_letters,dQ al q r,_,_,f25,h5',by rw[aj,fl];show ws.length-1+1<=sizeLine;exact aN (av (by omega)),fun p1 H6 hp1 s6 h6=>?_⟩
     refine⟨tx al,p1,Mk.ir al.length ws r k,rfl,by rw[aJ];omega,by rw[h6,←cN];rfl,?_,?_,fun H7 s7=>?_⟩
     ·unfold Mk.ir
      rw[ah,fl]
      show ws.length-1+1<=_
      omega
     ·rw[b0]
      unfold Mk.ir
      intro y hy
      rcases bw.mp hy with hy | hy
      ·exact fm y hy
      ·rw[bt.mp hy];exact⟨l2,l3⟩
     ·rw[b0]
      refine kQ' H7 fun b o e=>?_
      have hbp:b≠p:=fun e2=>by rw[←e2,s1 _ _ e] at hp;cases hp
      exact s7 _ _ (s6 _ _ (s5 _ _ (f1 b o hbp (s3 _ _ (s2 _ _ (s1 _ _ e))))))
inductive gI (Ad:Ads) (vs:List V) (H:Hp) (Q:VK) (E:XK):Prop
 | mk (a:Addr) (al:List Nat) (ws:List Int) (r:Int) (x:V) (t:Tg) (q0:vs=[.ref a,x]) (q1:cP Ad H a al ws r) (q2:bf al ws r) (q3:eI H x=some t) (q4:(∀ z,x=.str z->z.length<=100000)) (q5:∀ H',aD H H'->Q (.bl (mG (tx al) ws r x)) H'):gI Ad vs H Q E
theorem qe:aL ["self","thing"] ["self","thing"] (ay ic):=by subst_eqs
theorem pS (F:Fun K "has_good" "Code.has_good" ic f fd) (T:Bl mg) (AF:AdF K mg Ad) (C_is_good:Fnc P w K mg base (CX1 P w) 2 "is_good" ["alphabet","weights","rest","word"] nI):bI P w K mg base (CX1 P w) 3 f fd ["self","thing"] (gI Ad):=by
 refine F.okX (k:=2) qe ?_ ?_
 ·bv_decide
 ·bv_normalize
  obtain⟨a,al,ws,r,x,t,rfl,⟨dx,q,h1,h2⟩,ok,ht,hz,k⟩:=h
  refine⟨_,ak (aI (aF C_is_good aw (hr.mono (by decide)) (af (bW (K:=K) rfl (pvL 0)) (af (bW (K:=K) rfl (pvL 0)) (af (bW (K:=K) rfl (pvL 0)) (af (pvL 1) (aa))))))),?_⟩
  ac_nf
  refine⟨_,dx,_,_,h1,AF.c_Code,AF.n_Code_letters,dQ al q r,?_⟩
  refine⟨_,dx,_,_,h1,AF.c_Code,AF.n_Code_factors,fu al q r,?_⟩
  refine⟨_,dx,_,_,h1,AF.c_Code,AF.n_Code_remainder,hX al q r,?_⟩
  have g3:=ok.a3
  have g26:=ok.a26
  have w8:=ok.w8
  refine⟨tx al,q,ws,r,x,t,rfl,h2,by omega,by rw[aJ];omega,by rw[aJ];omega,ok.sml,ht,hz,k⟩
def lU:Sp:=fun vs H Q _=>∃ (x:V) (t:Tg),vs=[x]/\eI H x=some t/\(∀ p xs,x=.ref p->H p=some (.tup xs)->xs.length<=1000/\∀ y∈xs,(∃ t,eI H y=some t)/\∀ z,y=.str z->z.length<=50000)/\∀ H',aD H H'->Q (.bl (lB H x)) H'
theorem xM:aL ["thing"] ["thing"] (ay nB):=by subst_eqs
theorem xm (F:Fun K "is_entry" "is_entry" nB f fd) (T:Bl mg) (AF:AdF K mg Ad) (C_are_letters:Fnc P w K mg base (CX1 P w) 1 "are_letters" ["thing","most"] iK) (C_are_words:Fnc P w K mg base (CX1 P w) 2 "are_words" ["thing","most"] oN):bI P w K mg base (CX1 P w) 3 f fd ["thing"] lU:=by
 refine F.okX (k:=2) xM ?_ ?_
 ·bv_decide
 ·bv_normalize
  obtain⟨x,t,rfl,ht,hit,k⟩:=h
  refine⟨_,ae (bK ((kU (cx (c9 (a8 (eM .tup) T.isinstance bt_isinstance (af (pvL 0) (af (iB T.tuple CU) (aa)))))) (kU (bg (cQ (K:=K) rfl hu) (a8 (aY (K:=K) rfl) T.len bQ (af (pvL 0) (aa))) (aq) (bo _)) (iC (cx (c9 (a8 (eM .str) T.isinstance bt_isinstance (af (cw (dE (K:=K) rfl) (pvL 0) (aq) (fun _ _=>rfl)) (af (iB T.str ky) (aa))))))))).pt) (ak (aI (ip))) (aX)) (ae (bK (bg (cQ (K:=K) rfl hu) (a8 (aY (K:=K) rfl) T.len bQ (af (pvL 0) (aa))) (aq) (bo _)) (ak (aI (dU (cQ (K:=K) rfl hu) (cw (dE (K:=K) rfl) (pvL 0) (aq) (fun _ _=>rfl)) (au) (bo _)))) (aX)) (ae (bK (bg (nv (K:=K) rfl hu) (a8 (aY (K:=K) rfl) T.len bQ (af (pvL 0) (aa))) (aq) (bo _)) (ak (aI (ip))) (aX)) (ae (bK (bg (cQ (K:=K) rfl hu) (cw (dE (K:=K) rfl) (pvL 0) (aq) (fun _ _=>rfl)) (au) (bo _)) (ak (aI (aF C_are_words aw (hr.mono (by decide)) (af (cw (dE (K:=K) rfl) (pvL 0) (aq) (fun _ _=>rfl)) (af (gT AF.v_MOST_PHRASE_WORDS) (aa)))))) (aX)) (ak (aI (ny (dU (cQ (K:=K) rfl hu) (cw (dE (K:=K) rfl) (pvL 0) (aq) (fun _ _=>rfl)) (au) (bo _)) (k9 (aF C_are_letters aw (hr.mono (by decide)) (af (cw (dE (K:=K) rfl) (pvL 0) (aq) (fun _ _=>rfl)) (af (gT AF.v_MOST_PART_LETTERS) (aa))))))))))),?_⟩
  by_cases hs:∃ p xs,x=.ref p/\H p=some (.tup xs)
  ·obtain⟨p,xs,rfl,hp⟩:=hs
   obtain⟨hl,hty⟩:=hit p xs rfl hp
   have et:t=Tg.tup:=by
    have:i3 (H p)=some t:=ht
    rw[hp] at this;cases this;rfl
   subst et
   have ek:lB H (.ref p)=fI xs:=by
    show (match H p with | some (.tup xs)=>fI xs | _=>false)=_
    rw[hp]
   rw[ek] at k
   have hT:Sq K H p xs:=.t hp
   rw[dq]
   and_intros
   refine⟨trivial,Tg.tup,ht,?_⟩
   and_intros
   refine⟨_,hT,?_⟩
   match xs,hT,hty,hl,k with
   | [],hT,hty,hl,k =>
    and_intros
    exact k H (aD.refl _)
   | v::r,hT,hty,hl,k =>
    rw[aE (show ¬ (((v::r).length:Nat):Int)=0 by rw[ag];omega)]
    bv_omega
    have a0:atI (v::r) 0=some v:=bB (xs:=v::r) (j:=0) rfl
    refine⟨_,v,hT,a0,?_⟩
    obtain⟨⟨tv,htv⟩,hzv⟩:=hty v aR
    by_cases hvs:∃ z,v=.str z
    ·obtain⟨z,rfl⟩:=hvs
     refine⟨Tg.str,rfl,?_⟩
     and_intros
     rw[dq]
     and_intros
     refine⟨_,hT,?_⟩
     match r,hT,hty,hl,k with
     | [],hT,hty,hl,k =>
      and_intros
      rw[ao (by rfl)]
      refine⟨_,_,hT,bB (xs:=[V.str z]) (j:=0) rfl,k H (aD.refl _)⟩
     | [y],hT,hty,hl,k =>
      rw[aE (show ¬ ((([V.str z,y]:List V).length:Nat):Int)=1 by show ¬ (2:Int)=1;decide)]
      bv_omega
      obtain⟨⟨ty,hty1⟩,hzy⟩:=hty y (bb _ aR)
      have a0:atI [V.str z,y] 0=some (.str z):=bB (xs:=[V.str z,y]) (j:=0) rfl
      have a1:atI [V.str z,y] 1=some y:=bB (xs:=[V.str z,y]) (j:=1) rfl
      rw[dq]
      and_intros
      refine⟨_,hT,?_⟩
      rw[ai (show ¬ (!decide ((([V.str z,y].length:Nat):Int)=2))=true by rw[show [V.str z,y].length=2 from rfl];decide)]
      rw[dq]
      and_intros
      refine⟨_,_,hT,a0,?_⟩
      and_intros
      have ek2:fI [.str z,y]=if z=("phrase":Str) then iZ 6 y else if z=("part":Str) then gM 6 y else false:=rfl
      rw[ek2] at k
      by_cases e1:z=("phrase":Str)
      ·rw[ao e1] at k
       rw[aC e1]
       bv_omega
       refine⟨_,_,hT,a1,?_⟩
       exact⟨y,ty,6,rfl,hty1,hzy,by decide,k⟩
      ·rw[ai e1] at k
       rw[aE e1]
       bv_omega
       and_intros
       refine⟨_,_,hT,a0,?_⟩
       and_intros
       by_cases e2:z=("part":Str)
       ·rw[ao e2] at k
        rw[aC e2]
        bv_omega
        refine⟨_,_,hT,a1,?_⟩
        exact⟨y,ty,6,rfl,hty1,(fun w e=>by have:=hzy w e;omega),by decide,k⟩
       ·rw[ai e2] at k
        rw[aE e2]
        bv_omega
        exact k H (aD.refl _)
     | y::y2::r,hT,hty,hl,k =>
      have hlen:(V.str z::y::y2::r).length=r.length+3:=rfl
      rw[hlen,aE (show ¬ (((r.length+3:Nat)):Int)=1 by omega)]
      bv_omega
      rw[dq]
      and_intros
      refine⟨_,hT,?_⟩
      rw[hlen,aE (show ¬ (((r.length+3:Nat)):Int)=2 by omega)]
      bv_omega
      exact k H (aD.refl _)
    ·have hv:fI (v::r)=false:=by
      cases v with
      | str z=>exact absurd ⟨z,rfl⟩ hvs
      | _=>cases r with
       | nil=>rfl
       | cons y r=>cases r<;>rfl
     have hne:=oS htv fun z e=>hvs ⟨z,e⟩
     rw[hv] at k
     refine⟨tv,htv,?_⟩
     cases tv<;>first
      | exact absurd rfl hne
      | exact k H (aD.refl _)
  ·have hv:lB H x=false:=by
    cases x with
    | ref p =>
     show (match H p with | some (.tup xs)=>fI xs | _=>false)=_
     split
     ·rename_i xs hp;exact absurd ⟨p,xs,rfl,hp⟩ hs
     ·rfl
    | _=>rfl
   have hne:t≠Tg.tup:=fun e=>by
    subst e
    cases x with
    | ref a =>
     have h':i3 (H a)=some .tup:=ht
     cases e:H a with
     | none=>rw[e] at h';cases h'
     | some o=>rw[e] at h';cases o with
      | tup xs=>exact hs ⟨a,xs,rfl,e⟩
      | frz ob u=>cases u<;>cases h'
      | _=>cases h'
    | _=>cases ht
   rw[hv] at k
   rw[dq]
   and_intros
   refine⟨trivial,t,ht,?_⟩
   cases t<;>first
    | exact absurd rfl hne
    | exact k H (aD.refl _)
theorem i4 {b k:Int} (h0:0<=k) (h1:k<b):bV b (.int k)=true:=by
 show (decide (0<=k)&&decide (k<b))=true
 rw[aC h0,aC h1];rfl
theorem AX {x:V} (h:bV b x=true):∃ k,x=.int k/\0<=k/\k<b:=by
 cases x with
 | int k =>
  have h':(decide (0<=k)&&decide (k<b))=true:=h
  rw[bS,bP,bP] at h'
  exact⟨k,rfl,h'⟩
 | _=>cases h
inductive jG (Ad:Ads) (vs:List V) (H:Hp) (Q:VK) (E:XK):Prop
 | mk (b ca dn de:Addr) (es:List Ben) (al:List Nat) (ws:List Int) (r:Int) (x:V) (t:Tg) (q0:vs=[.ref b,x]) (q1:cY Ad H b ca dn de es) (q2:cP Ad H ca al ws r) (q3:bf al ws r) (q4:eI H x=some t) (q5:(bV (cg al ws) x=false->∀ H',aD H H'->Q .non H')) (q6:(∀ n,x=.int n->0<=n->n<cg al ws->n∉es.map (·.num)->∀ H',aD H H'->Q .non H')) (q7:(∀ n,x=.int n->0<=n->n<cg al ws->∀ e∈es,e.num=n->∀ H',aD H H'->Q (.ref e.adr) H')):jG Ad vs H Q E
theorem ua:aL ["self","number"] ["self","number"] (ay kF):=by subst_eqs
theorem tX (F:Fun K "entry" "Book.entry" kF f fd) (T:Bl mg) (AF:AdF K mg Ad) (C_is_below:Fnc P w K mg base (CX1 P w) 2 "is_below" ["thing","bound"] fP) (M_Code_many:Mtd P w K mg base (CX1 P w) Ad.Code "many" 1 ["self"] (eG Ad)):bI P w K mg base (CX1 P w) 3 f fd ["self","number"] (jG Ad):=by
 refine F.okX (k:=2) ua ?_ (fun cdv A outer s H vs Q E hr h=>?_)
 ·bv_decide
 ·obtain⟨b,ca,dn,de,es,al,ws,r,x,t,rfl,B,C,ok,ht,k1,k2,k3⟩:=h
  obtain⟨dx,h1⟩:=B.bk
  have hu:=hr.kP
  have hu1:=qp hr
  refine⟨_,ae (bK (cx (c9 (aF C_is_below aw (hr.mono (by decide)) (af (pvL 1) (af (cc M_Code_many aw (hr.mono (by decide)) (bW (K:=K) rfl (pvL 0))) (aa)))))) (ak (aI (fk))) (aX)) (ak (aI (uH hu1 (bW (K:=K) rfl (pvL 0)) (pvL 1)))),?_⟩
  grind
  refine⟨_,dx,_,_,h1,AF.c_Book,AF.n_Book_basis,ja ca dn de,?_⟩
  obtain⟨dc,qc,hc1,hc2⟩:=id C
  refine⟨dc,_,hc1,bG (by decide) (by decide) (by decide) al qc r,ca,al,ws,r,rfl,C,ok.a26,by have:=ok.w3;omega,ok.w8,fun G1 t1=>?_⟩
  refine⟨x,t,_,rfl,fw t1 ht,?_⟩
  cases hb:bV ((al.length:Int)^(ws.length-1)) x with
  | false =>
   and_intros
   exact k1 hb G1 t1
  | true =>
   and_intros
   cbv
   obtain⟨n,rfl,n0,n1⟩:=AX hb
   have B1:=B.same t1
   obtain⟨dx1,h11⟩:=B1.bk
   and_intros
   refine⟨_,dx1,_,_,h11,AF.c_Book,AF.n_Book_by_number,gD ca dn de,dn,rfl,.inl ⟨_,.inl B1.hn⟩,_,.inl ⟨_,.inl n,.inl B1.hn,rfl,rfl⟩,?_⟩
   by_cases hm:n∈es.map (·.num)
   ·obtain⟨e,he,ee⟩:=aM.mp hm
    rw[←ee,r6 B.nn he]
    exact k3 n rfl n0 n1 e he ee G1 t1
   ·rw[vt hm]
    exact k2 n rfl n0 n1 hm G1 t1
def oP:Sp:=fun vs H Q _=>∃ n:Int,vs=[.int n]/\0<=n/\∀ p H',H p=none->aD H H'->wq H' p->Q (.ref p) H'
theorem gb:aL ["_law_number","_law_turn","_law_many"] ["_law_number"] (ay lN):=by subst_eqs
theorem vE (F:Fun K "_law_entry" "_law_entry" lN f fd) (T:Bl mg) (AF:AdF K mg Ad) (C_law_some_words:Fnc P w K mg base (CX1 P w) 2 "_law_some_words" ["_law_number","_law_many"] jk) (C_law_word:Fnc P w K mg base (CX1 P w) 1 "_law_word" ["_law_number"] lY):bI P w K mg base (CX1 P w) 3 f fd ["_law_number"] oP:=by
 refine F.okX (k:=2) gb ?_ ?_
 ·bv_decide
 ·bv_normalize
  obtain⟨n,rfl,hn,k⟩:=h
  refine⟨_,ae (aB (i:=1) gb.nd (az bC (pvL 0) (aq))) (ae (aB (i:=0) gb.nd (az ck (pvL 0) (aq))) (ae (bK (bg (cQ (K:=K) rfl hu) (pvL 1) (aq) (bo _)) (ak (aI (fE (af (au) (aa))))) (aX)) (ae (bK (bg k8 (pvL 1) (aq) (bo _)) (ak (aI (fE (af (au) (af (bX (eP (K:=K) rfl) (cw (dE (K:=K) rfl) (aF C_law_word aw (hr.mono (by decide)) (af (pvL 0) (aa))) (aq) (fun _ _=>rfl)) (cH) (cB (aq))) (aa)))))) (aX)) (ae (aB (i:=2) gb.nd (az a9 (aq) (az bC (pvL 0) (aq)))) (ae (bK (bg k8 (pvL 1) (aq) (bo _)) (ak (aB (i:=2) gb.nd (az a9 (aq) (az bC (pvL 0) (aq))))) (aX)) (ak (aI (fE (af (au) (af (dy (K:=K) rfl cV h9 hO (gS (K:=K) rfl) (au) (af (aF C_law_some_words aw (hr.mono (by decide)) (af (az ck (pvL 0) (aq)) (af (pvL 2) (aa)))) (aa))) (aa))))))))))),?_⟩
  grind
  refine⟨by decide,?_⟩
  cbv
  grind
  refine⟨⟨by decide,by decide⟩,?_⟩
  have ht0:0<=n%9/\n%9<9:=by omega
  have hm0:0<=n/9:=by omega
  generalize n%9=tn at ht0
  generalize n/9=m at hm0
  cbv
  grind
  by_cases e8:tn=8
  ·rw[aC e8]
   bv_omega
   refine⟨aN (av (by decide)),fun p H1 hp s1 h1=>k p H1 hp s1 ⟨[.inr ("end":Str)],h1,rfl,by decide,by decide,fun z hz=>?_⟩⟩
   rw[bt.mp hz]
   exact⟨[101,110,100],rfl,by decide⟩
  rw[aE e8]
  bv_omega
  cbv
  grind
  by_cases e4:4<tn
  ·rw[aC e4]
   bv_omega
   refine⟨m,rfl,hm0,fun q w n2 H1 w1 w2 w3 hn2 hq s1 h1=>?_⟩
   and_intros
   refine⟨_,_,.l h1,rfl,?_⟩
   and_intros
   rw[aJ,b0,show (6:Int)=((6:Nat):Int) from rfl,pM]
   have l6:(w.take 6).length=min 6 w.length:=bR
   refine⟨aN (av (by omega)),aN (av (by decide)),fun p H2 hp s2 h2=>k p H2 (by cases e:H p with | none=>rfl | some o=>rw[s1 _ _ e] at hp;cases hp) (s1.trans s2) ⟨[.inr ("part":Str),.inr (tx (w.take 6))],h2,sd (pI (by omega) (by omega) fun c hc=>w3 c (iU hc)),by simp,by simp,fun z hz=>?_⟩⟩
   rcases aH.mp hz with rfl | hz
   ·exact⟨[112,97,114,116],rfl,by decide⟩
   ·rw[bt.mp hz]
    exact⟨_,rfl,by omega⟩
  rw[aE e4]
  bv_omega
  cbv
  grind
  refine⟨by decide,?_⟩
  cbv
  refine zS (fun σ H'=>H'=H/\∃ j:Nat,1<=j/\j<=6/\σ=[some (.int m),some (.int tn),some (.int (j:Int))]) ?_ ?_
  ·rintro σ H' ⟨rfl,j,hj1,hj6,rfl⟩
   and_intros
   refine⟨rfl,⟨by decide,by decide⟩,m/6,j,rfl,by omega,hj6,fun q ws H1 hwl hw hq s1 h1=>?_⟩
   obtain⟨jl1,jl2⟩:=wV (n:=6) (ws:=ws) (by omega) fun w hx=>(hw w hx).2.1
   have ejs:(ws.map fun w=>V.str (tx w))=(ws.map tx).map V.str:=by rw[aK];rfl
   refine⟨ws.map tx,.of (by rw[h1,ejs]),?_,?_⟩
   ·rw[aK,aj]
    have:(ws.map ((fun z:Str=>z.length) ∘ tx)).sum<=(ws.map fun w=>w.length+1).sum:=by
     have e:ws.map ((fun z:Str=>z.length) ∘ tx)=ws.map fun w=>w.length:=iS fun w _=>aJ w
     rw[e]
     clear e jl1 jl2 ejs h1 hw hwl
     induction ws with
     | nil=>simp
     | cons w r ih=>simp only[aQ,fb];omega
    have e1:(Str.ofString " ").length=1:=rfl
    rw[e1]
    omega
   ·rw[show (Str.ofString " ")=tx [32] from rfl,jZ]
    refine⟨aN (av (by decide)),fun p H2 hp s2 h2=>k p H2 (by cases e:H' p with | none=>rfl | some o=>rw[s1 _ _ e] at hp;cases hp) (s1.trans s2) ⟨[.inr ("phrase":Str),.inr (tx (Mk.b7 32 ws))],h2,vk (AW (by omega) (by omega) hw),by simp,by simp,fun z hz=>?_⟩⟩
    rcases aH.mp hz with rfl | hz
    ·exact⟨[112,104,114,97,115,101],rfl,by decide⟩
    ·rw[bt.mp hz]
     exact⟨_,rfl,by omega⟩
  ·intro U hU
   and_intros
   by_cases e1:1<tn
   ·rw[ao (aC e1)]
    obtain⟨j,hj⟩:=cC (show 0<=1+m%2 by omega)
    refine⟨by decide,hU _ _ ⟨rfl,j,by omega,by omega,by rw[hj]⟩⟩
   ·rw[ai (by simpa using e1)]
    obtain⟨j,hj⟩:=cC (show 0<=1+m%6 by omega)
    exact hU _ _ ⟨rfl,j,by omega,by omega,by rw[hj]⟩
theorem ud {b:Int}:∀ {xs:List V},xs.all (bV b)=true->∃ ws:List Int,xs=ws.map V.int/\∀ x∈ws,0<=x/\x<b
 | [],_=>⟨[],rfl,fun _ h=>nomatch h⟩
 | y::ys,h=>by
  rw[iO,bS] at h
  obtain⟨ws,e,hw⟩:=ud h.2
  cases y with
  | int i =>
   have h1:(decide (0<=i)&&decide (i<b))=true:=h.1
   rw[bS,bP,bP] at h1
   refine⟨i::ws,by rw[e];rfl,fun x hx=>?_⟩
   cases hx with
   | head=>exact h1
   | tail _ hx=>exact hw x hx
  | _=>cases h.1
theorem F7 {x:V} (h:ei H b x=true):∃ (p:Addr) (ws:List Int),x=.ref p/\H p=some (.lst (ws.map V.int))/\3<=ws.length/\ws.length<=8/\∀ y∈ws,0<=y/\y<b:=by
 cases x with
 | ref p =>
  have h1:(match H p with | some (.lst xs)=>decide (3<=xs.length)&&decide (xs.length<=8)&&xs.all (bV b) | _=>false)=true:=h
  split at h1
  ·rename_i xs e
   simp only[bS,bP] at h1
   obtain⟨ws,e1,hw⟩:=ud h1.2
   subst e1
   rw[aj] at h1
   exact⟨p,ws,rfl,e,h1.1.1,h1.1.2,hw⟩
  ·cases h1
 | _=>cases h
inductive eF (Ad:Ads) (vs:List V) (H:Hp) (Q:VK) (E:XK):Prop
 | mk (a dx:Addr) (xa xw xr:V) (ta tw tr:Tg) (q0:vs=[.ref a,xa,xw,xr]) (q1:H a=some (.ins Ad.Code dx [])) (q2:eI H xa=some ta) (q3:eI H xw=some tw) (q4:eI H xr=some tr) (q5:(∀ z,xa=.str z->z.length<=50000)) (q6:(∀ p o u,xw=.ref p->H p≠some (.frz o u))) (q7:(∀ p xs,xw=.ref p->H p=some (.lst xs)->xs.length<=50000/\∀ y∈xs,∃ t,eI H y=some t)) (q8:(FA H xa xw xr->∀ H',aD H H'->E (.ref Ad.NoCode) none H')) (q9:(∀ al p ws r,rL H xa xw xr al p ws r->∀ q H',H q=none->(∀ b o,b≠a->H b=some o->H' b=some o)->H' a=some (.ins Ad.Code dx (ql al q r))->H' q=some (.lst (ws.map V.int))->Q .non H')):eF Ad vs H Q E
theorem uy {Ad:Ads}{ca cd qn:Addr}{Q:VK}{E:XK} (ha:H ca=some (.ins Ad.Code cd [])) (hq:H qn=some (.lst (ws.map V.int))) (ok:bf al ws r)
  (k:∀ H',(∀ b o,b≠ca->H b=some o->H' b=some o)->cP Ad H' ca al ws r->Q .non H'):eF Ad [.ref ca,.str (tx al),.ref qn,.int r] H Q E:=by
 have g26:=ok.a26
 have w8:=ok.w8
 refine⟨ca,cd,.str (tx al),.ref qn,.int r,Tg.str,Tg.lst,Tg.int,rfl,ha,rfl,?_,rfl,?_,?_,?_,?_,?_⟩
 ·show i3 (H qn)=_
  rw[hq];rfl
 ·intro z e
  cases e
  rw[aJ];omega
 ·intro p o u e e2
  cases e
  rw[hq] at e2;cases e2
 ·intro p xs e e2
  cases e
  rw[hq] at e2
  cases e2
  refine⟨by rw[aj];omega,fun y hy=>?_⟩
  obtain⟨x,_,rfl⟩:=aM.mp hy
  exact⟨Tg.int,rfl⟩
 ·intro hb
  exact absurd ⟨rfl,rfl,hq,rfl,ok⟩ (hb al qn ws r)
 ·intro al' p ws' r' hm q H' hq' hs h1 h2
  obtain⟨e1,e2,e3,e4,_⟩:=hm
  have ea:al=al':=by injection e1 with e1;exact dG e1
  have er:r=r':=by injection e4
  have ep:qn=p:=by injection e2
  subst ea er ep
  rw[hq] at e3
  have e6:ws.map V.int=ws'.map V.int:=by injection e3 with e3;injection e3
  have ew:ws=ws':=(List.map_inj_right (fun x y h=>by injection h)).mp e6
  subst ew
  exact k H' hs ⟨cd,q,h1,h2⟩
theorem oJ:aL ["self","alphabet","weights","rest","m"] ["self","alphabet","weights","rest"] (ay fN):=by subst_eqs
theorem v3 (F:Fun K "__init__" "Code.__init__" fN f fd) (T:Bl mg) (AF:AdF K mg Ad) (C_are_safe:Fnc P w K mg base (CX1 P w) 2 "are_safe" ["weights","m"] qF) (C_is_below:Fnc P w K mg base (CX1 P w) 2 "is_below" ["thing","bound"] fP) (C_are_weights:Fnc P w K mg base (CX1 P w) 3 "are_weights" ["thing","m"] lS) (C_is_alphabet:Fnc P w K mg base (CX1 P w) 1 "is_alphabet" ["thing"] lT):bI P w K mg base (CX1 P w) 4 f fd ["self","alphabet","weights","rest"] (eF Ad):=by
 refine F.okX (k:=3) oJ ?_ ?_
 ·bv_decide
 ·bv_normalize
  obtain⟨a,dx,xa,xw,xr,ta,tw,tr,rfl,ha,hta,htw,htr,hza,hfz,hit,kE,kQ⟩:=h
  refine⟨_,ae (bK (cx (c9 (aF C_is_alphabet aw (hr.mono (by decide)) (af (pvL 1) (aa))))) (ak (dB di AF.q_NoCode AF.g_NoCode du rfl (af (au) (aa)))) (aX)) (ae (aB (i:=4) oJ.nd (a8 (aY (K:=K) rfl) T.len bQ (af (pvL 1) (aa)))) (ae (bK (cx (c9 (aF C_are_weights aw (hr.mono (by decide)) (af (pvL 2) (af (pvL 4) (aa)))))) (ak (dB di AF.q_NoCode AF.g_NoCode du rfl (af (au) (aa)))) (aX)) (ae (bK (cx (c9 (aF C_is_below aw (hr.mono (by decide)) (af (pvL 3) (af (pvL 4) (aa)))))) (ak (dB di AF.q_NoCode AF.g_NoCode du rfl (af (au) (aa)))) (aX)) (ae (bK (cx (c9 (aF C_are_safe aw (hr.mono (by decide)) (af (pvL 2) (af (pvL 4) (aa)))))) (ak (dB di AF.q_NoCode AF.g_NoCode du rfl (af (au) (aa)))) (aX)) (ae (mL (K:=K) rfl (pvL 0) (pvL 1)) (ae (mL (K:=K) rfl (pvL 0) (eS (nc (K:=K) rfl rfl) T.list ra (af (pvL 2) (aa)))) (ak (mL (K:=K) rfl (pvL 0) (pvL 3))))))))),?_⟩
  rw[dq]
  and_intros
  refine⟨xa,ta,rfl,hta,hza,fun H1 s1=>?_⟩
  and_intros
  cases hA:gQ xa with
  | false =>
   bv_omega
   refine⟨by decide,kE (fun al p ws r ⟨e1,_,_,_,e5⟩=>?_) H1 s1⟩
   have:gQ xa=true:=by
    rw[e1]
    show fU (tx al).cps.toList=true
    rw[b0]
    unfold fU
    rw[aC e5.a3,aC e5.a26,aC e5.nd,bM.mpr fun c hc=>aC (e5.abc c hc)];rfl
   rw[hA] at this;cases this
  | true =>
   bv_omega
   obtain⟨z,rfl⟩:∃ z,xa=.str z:=by
    cases xa with
    | str z=>exact⟨z,rfl⟩
    | _=>cases hA
   have hA':fU z.cps.toList=true:=hA
   have hz:=cR z
   unfold fU at hA'
   simp only[bS,bP,bM] at hA'
   obtain⟨⟨⟨g3,g26⟩,gnd⟩,gabc⟩:=hA'
   rw[dq]
   and_intros
   refine⟨aN (av (by omega)),?_⟩
   and_intros
   rw[dq]
   and_intros
   refine⟨xw,tw,_,rfl,fw s1 htw,fun p o u e e2=>?_,fun p xs e e2=>?_,fun H2 s2=>?_⟩
   ·subst e
    have:i3 (H p)=some tw:=htw
    cases e3:H p with
    | none=>rw[e3] at this;cases this
    | some ob =>
     have e4:=s1 p ob e3
     rw[e2] at e4
     cases e4
     exact hfz p o u rfl e3
   ·subst e
    have:i3 (H p)=some tw:=htw
    cases e3:H p with
    | none=>rw[e3] at this;cases this
    | some ob =>
     have e4:=s1 p ob e3
     rw[e2] at e4
     cases e4
     obtain⟨i1,i2⟩:=hit p xs rfl e3
     exact⟨i1,fun y hy=>by obtain⟨ty,hty⟩:=i2 y hy;exact⟨ty,fw s1 hty⟩⟩
   and_intros
   have eW:ei H1 (z.length:Int) xw=ei H (z.length:Int) xw:=by
    cases xw with
    | ref p =>
     have:i3 (H p)=some tw:=htw
     cases e3:H p with
     | none=>rw[e3] at this;cases this
     | some ob =>
      show (match H1 p with | some (.lst xs)=>_ | _=>false)=(match H p with | some (.lst xs)=>_ | _=>false)
      rw[s1 p ob e3,e3]
    | _=>rfl
   rw[eW]
   cases hW:ei H (z.length:Int) xw with
   | false =>
    bv_omega
    refine⟨by decide,kE (fun al p ws r ⟨e1,e2,e3,_,e5⟩=>?_) H2 (s1.trans s2)⟩
    have hal:z=tx al:=by cases e1;rfl
    have:ei H (z.length:Int) xw=true:=by
     rw[e2,hal,aJ]
     show (match H p with | some (.lst xs)=>decide (3<=xs.length)&&decide (xs.length<=8)&&xs.all (bV (al.length:Int)) | _=>false)=true
     rw[e3]
     simp only[aj]
     rw[aC e5.w3,aC e5.w8,eX,bM.mpr];rfl
     intro x hx
     have:=e5.wm x hx
     show (decide (0<=x)&&decide (x<(al.length:Int)))=true
     rw[aC this.1,aC this.2];rfl
    rw[hW] at this;cases this
   | true =>
    bv_omega
    rw[dq]
    and_intros
    refine⟨xr,tr,_,rfl,fw (s1.trans s2) htr,?_⟩
    and_intros
    cases hB:bV (z.length:Int) xr with
    | false =>
     bv_omega
     refine⟨by decide,kE (fun al p ws r ⟨e1,e2,e3,e4,e5⟩=>?_) H2 (s1.trans s2)⟩
     have hal:z=tx al:=by cases e1;rfl
     have:bV (z.length:Int) xr=true:=by
      rw[e4,hal,aJ]
      show (decide (0<=r)&&decide (r<(al.length:Int)))=true
      rw[aC e5.rm.1,aC e5.rm.2];rfl
     rw[hB] at this;cases this
    | true =>
     bv_omega
     obtain⟨r,rfl⟩:∃ r,xr=.int r:=by
      cases xr with
      | int r=>exact⟨r,rfl⟩
      | _=>cases hB
     have hB':(decide (0<=r)&&decide (r<(z.length:Int)))=true:=hB
     rw[bS,bP,bP] at hB'
     obtain⟨p,ws,rfl,hp,w3,w8,wm⟩:=F7 hW
     have hp2:H2 p=some (.lst (ws.map V.int)):=s2 _ _ (s1 _ _ hp)
     rw[dq]
     and_intros
     refine⟨p,ws,_,rfl,hp2,by omega,fun H3 s3=>?_⟩
     and_intros
     have s03:aD H H3:=(s1.trans s2).trans s3
     have el:(z.length:Int)=(z.cps.toList.length:Int):=by rw[hz]
     cases hS:Mk.safe (z.length:Int) ws with
     | false =>
      bv_omega
      refine⟨by decide,kE (fun al p' ws' r' ⟨e1,e2,e3,e4,e5⟩=>?_) H3 s03⟩
      have hal:z=tx al:=by cases e1;rfl
      have hpp:p'=p:=by cases e2;rfl
      subst hpp
      have hww:ws'=ws:=by
       rw[hp] at e3
       have e6:ws.map V.int=ws'.map V.int:=by injection e3 with e3;injection e3
       exact (List.map_inj_right (fun x y h=>by injection h)).mp e6.symm
      subst hww
      have:=e5.safe
      rw[hal,aJ] at hS
      rw[hS] at this;cases this
     | true =>
      bv_omega
      have ha3:=s03 _ _ ha
      have hp3:H3 p=some (.lst (ws.map V.int)):=s03 _ _ hp
      have hne:p≠a:=fun e=>by rw[e,ha] at hp;cases hp
      have hM:rL H (.str z) (.ref p) (.int r) z.cps.toList p ws r:=⟨by rw[iq],rfl,hp,rfl,⟨g3,g26,gnd,gabc,w3,w8,by rw[←el];exact wm,by rw[←el];exact hS,by rw[←el];exact hB'⟩⟩
      ac_nf
      refine⟨_,_,_,ha3,AF.c_Code,AF.n_Code_letters,by decide,ws.map V.int,.inl (.inl (.of (by rw[aP hne];exact hp3))),fun q H4 hq s4 h4=>?_⟩
      have ha4:=s4 a _ aS
      refine⟨_,_,_,ha4,AF.c_Code,AF.n_Code_factors,gw (aA 1) (by decide),_,_,_,aS,AF.c_Code,AF.n_Code_remainder,gw (aA 2) (by decide),?_⟩
      have hqa:q≠a:=fun e=>by rw[e,aS] at hq;cases hq
      rw[aP hqa] at hq
      have hq0:H q=none:=by
       cases e:H q with
       | none=>rfl
       | some o=>rw[s03 q o e] at hq;cases hq
      refine kQ z.cps.toList p ws r hM q _ hq0 (fun b o hb e=>?_) ?_ ?_
      ·rw[aP hb,aP hb]
       exact s4 b o (by rw[aP hb];exact s03 b o e)
      ·rw[aS]
       unfold ql
       rw[iq]
       rfl
      ·rw[aP hqa,aP hqa];exact h4
inductive gd (Ad:Ads) (vs:List V) (H:Hp) (Q:VK) (E:XK):Prop
 | mk (a:Addr) (al:List Nat) (ws:List Int) (r:Int) (x:V) (t:Tg) (q0:vs=[.ref a,x]) (q1:cP Ad H a al ws r) (q2:bf al ws r) (q3:eI H x=some t) (q4:(∀ z,x=.str z->z.length<=100000)) (q5:(mG (tx al) ws r x=false->∀ H',aD H H'->E (.ref Ad.NoWord) none H')) (q6:(∀ z,x=.str z->Mk.fe al ws r z.cps.toList=true->∀ H',aD H H'->Q (.int (Mk.numOf al.length (Mk.plc al z.cps.toList.dropLast))) H')):gd Ad vs H Q E
theorem fY:aL ["self","word","k","place"] ["self","word"] (ay jz):=by subst_eqs
theorem sF (F:Fun K "number" "Code.number" jz f fd) (T:Bl mg) (AF:AdF K mg Ad) (C_places_of:Fnc P w K mg base (CX1 P w) 1 "places_of" ["alphabet","word"] kO) (M_Code_has_good:Mtd P w K mg base (CX1 P w) Ad.Code "has_good" 3 ["self","thing"] (gI Ad)):bI P w K mg base (CX1 P w) 4 f fd ["self","word"] (gd Ad):=by
 refine F.okX (k:=3) fY ?_ ?_
 ·bv_decide
 ·bv_normalize
  obtain⟨a,al,ws,r,x,t,rfl,⟨dx,q,h1,h2⟩,ok,ht,hz,kE,kQ⟩:=h
  refine⟨_,ae (bK (cx (c9 (dA M_Code_has_good aw (hr.mono (by decide)) (pvL 0) (af (pvL 1) (aa))))) (ak (dB di AF.q_NoWord AF.g_NoWord du rfl (af (au) (aa)))) (aX)) (ae (aB (i:=2) fY.nd (aq)) (ae (fK cO rfl (cF (K:=K) rfl (aF C_places_of aw (hr.mono (by decide)) (af (bW (K:=K) rfl (pvL 0)) (af (bX (eP (K:=K) rfl) (pvL 1) (cH) (cB (A9 wa (aq)))) (aa))))) (aV (i:=3) fY.nd) (ak (aB (i:=2) fY.nd (az a9 (az vK (pvL 2) (a8 (aY (K:=K) rfl) T.len bQ (af (bW (K:=K) rfl (pvL 0)) (aa)))) (pvL 3))))) (ak (aI (pvL 2))))),?_⟩
  have g3:=ok.a3
  have g26:=ok.a26
  have w8:=ok.w8
  rw[dq]
  and_intros
  refine⟨dx,_,h1,bG (by decide) (by decide) (by decide) al q r,a,al,ws,r,x,t,rfl,⟨dx,q,h1,h2⟩,ok,ht,hz,fun H1 s1=>?_⟩
  and_intros
  cases hG:mG (tx al) ws r x with
  | false =>
   bv_omega
   exact⟨by decide,kE hG H1 s1⟩
  | true =>
   bv_omega
   obtain⟨z,rfl⟩:∃ z,x=.str z:=by
    cases x with
    | str z=>exact⟨z,rfl⟩
    | _=>cases hG
   have hG':Mk.fe al ws r z.cps.toList=true:=by
    have:Mk.fe (tx al).cps.toList ws r z.cps.toList=true:=hG
    rw[b0] at this
    exact this
   and_intros
   rw[dq]
   and_intros
   rw[dq]
   and_intros
   refine⟨_,dx,_,_,s1 _ _ h1,AF.c_Code,AF.n_Code_letters,dQ al q r,?_⟩
   and_intros
   have e0:jN z.cps.toList none (some (-1))=z.cps.toList.dropLast:=uo _
   rw[e0]
   have hzl:=hz z rfl
   have hzc:=cR z
   unfold Mk.fe Mk.dJ at hG'
   simp only[bS,bP,bM] at hG'
   obtain⟨⟨hl,hm⟩,-⟩:=hG'
   have hd:z.cps.toList.dropLast.length<=z.cps.toList.length:=by rw[List.length_dropLast];omega
   have hdm:∀ c∈z.cps.toList.dropLast,c∈al:=fun c hc=>hm c (List.dropLast_subset _ hc)
   refine⟨aN (av (by omega)),tx al,tx z.cps.toList.dropLast,rfl,by rw[aJ];omega,by rw[b0,b0];exact hdm,fun p H2 hp s2 h3=>.inl ⟨⟨_,.of h3⟩,?_⟩⟩
   rw[b0,b0] at h3
   have hpm:=Mk.vM hdm
   have hpl:(Mk.plc al z.cps.toList.dropLast).length<=8:=by rw[Mk.AD];omega
   have kQ':=kQ z rfl (by
    have:Mk.fe (tx al).cps.toList ws r z.cps.toList=true:=hG
    rw[b0] at this
    exact this)
   generalize Mk.plc al z.cps.toList.dropLast=ps at h3 hpm hpl kQ'
   refine rp (xs:=ps.map V.int) (fun i σ H'=>H'=H2/\∃ o,σ=[some (.ref a),some (.str z),some (.int (Mk.numOf al.length (ps.take i))),o]) ?_ ?_ ?_ ?_
   ·exact⟨rfl,none,rfl⟩
   ·rintro i σ H' _ ⟨rfl,_⟩
    exact .of h3
   ·rintro i x σ H' hx ⟨rfl,o,rfl⟩
    rw[bY] at hx
    obtain⟨x,hy,rfl⟩:=fB.mp hx
    have hi:=(b9.mp hy).1
    have hb:=Mk.oj (m:=al.length) (by omega) (ps.take i) fun p hp=>hpm p (iU hp)
    have hxm:=hpm x (br hy)
    ac_nf
    refine⟨_,dx,_,_,s2 _ _ (s1 _ _ h1),AF.c_Code,AF.n_Code_letters,dQ al q r,?_⟩
    ac_nf
    rw[aJ]
    refine⟨aN (av (by omega)),⟨?_,bD (show ((al.length:Int)).natAbs<1000 by omega) (by decide)⟩,?_⟩
    ·refine bD (show (Mk.numOf (al.length:Int) (ps.take i)).natAbs<26^8 from ?_) (by decide)
     have e1:((al.length:Int))^(ps.take i).length<=((26^8:Nat):Int):=by
      rw[←Int.natCast_pow]
      exact Int.ofNat_le.mpr (bJ (Nat.pow_le_pow_left g26 _) (m5 (by decide) (by rw[bR];omega)))
     omega
    ·refine⟨trivial,some (.int x),?_⟩
     have e:ps.take (i+1)=ps.take i++[x]:=by rw[m4,hy];rfl
     rw[e,Mk.k7]
   ·rintro σ H' ⟨rfl,o,rfl⟩
    rw[aj,List.take_length]
    ac_nf
    exact kQ' _ (s1.trans s2)
def EW (H:Hp) (x:V):Prop:=(∃ t,eI H x=some t)/\∀ p xs,x=.ref p->H p=some (.tup xs)->xs.length<=1000/\∀ y∈xs,(∃ t,eI H y=some t)/\∀ z,y=.str z->z.length<=50000
theorem EW.same {H H':Hp}{x:V} (h:EW H x) (s:aD H H'):EW H' x:=by
 obtain⟨⟨t,ht⟩,h2⟩:=h
 refine⟨⟨t,fw s ht⟩,fun p xs e hp=>?_⟩
 subst e
 have ht':i3 (H p)=some t:=ht
 cases ho:H p with
 | none=>rw[ho] at ht';cases ht'
 | some o =>
  have:=s _ _ ho
  rw[hp] at this
  cases this
  obtain⟨q1,q2⟩:=h2 p xs rfl ho
  exact⟨q1,fun y hy=>⟨by obtain⟨t',h'⟩:=(q2 y hy).1;exact⟨t',fw s h'⟩,(q2 y hy).2⟩⟩
structure nO (H:Hp) (es:List Ben) (m:Int) (x y:V) (t:Addr) (n:Int) (key:List Key):Prop where
 x:x=.ref t
 h:H t=some (.tup (key.map kV))
 eo:i7 key
 nk:key∉es.map (·.key)
 few:es.length<300
 n0:0<=n
 n1:n<m
 nn:n∉es.map (·.num)
 y:y=.int n∨(y=.non/\pG (es.map (·.num)) n)
def JA (es:List Ben) (m:Int) (y:V):Prop:=(∃ n,y=.int n/\0<=n/\n<m)∨(y=.non/\∃ n,pG (es.map (·.num)) n/\0<=n/\n<m)
def wu (H:Hp) (x:V):Prop:=x=.non∨∃ (t:Addr) (key:List Key),x=.ref t/\H t=some (.tup (key.map kV))/\key.length<=2/\∀ z,V.str z∈key.map kV->z.length<=50000
theorem wu.ask {x:V} (h:wu H x):EW H x:=by
 rcases h with rfl | ⟨t,key,rfl,ht,kl,ks⟩
 ·exact⟨⟨.non,rfl⟩,fun p xs e=>by cases e⟩
 ·refine⟨⟨.tup,by show i3 (H t)=_;rw[ht];rfl⟩,fun p xs ep hp=>?_⟩
  cases ep
  rw[ht] at hp
  cases hp
  refine⟨by rw[aj];omega,fun v hv=>?_⟩
  obtain⟨z,hz,rfl⟩:=aM.mp hv
  exact⟨DI H z,fun s es=>ks s (by rw[←es];exact hv)⟩
theorem wu.same {H H':Hp}{x:V} (h:wu H x) (s:aD H H'):wu H' x:=by
 rcases h with rfl | ⟨t,key,rfl,ht,r⟩
 ·exact .inl rfl
 ·exact .inr ⟨t,key,rfl,s _ _ ht,r⟩
theorem nO.same {H H':Hp}{es:List Ben}{m:Int}{x y:V}{t:Addr}{n:Int} (h:nO H es m x y t n key) (s:aD H H'):nO H' es m x y t n key:=⟨h.x,s _ _ h.h,h.eo,h.nk,h.few,h.n0,h.n1,h.nn,h.y⟩
inductive iI (Ad:Ads) (vs:List V) (H:Hp) (Q:VK) (E:XK):Prop
 | mk (b ca dn de f:Addr) (es:List Ben) (al:List Nat) (ws:List Int) (r:Int) (x y:V) (q0:vs=[.ref b,x,y,.ref f]) (q1:cY Ad H b ca dn de es) (q2:cP Ad H ca al ws r) (q3:bf al ws r) (q4:pF lg Ad.tb H f) (q5:wu H x) (q6:JA es (cg al ws) y) (q7:es.length<=300) (q8:(∀ t n key,nO H es (cg al ws) x y t n key->∀ H',aD H H'->Q (.int n) H')) (q9:((∀ t n key,¬ nO H es (cg al ws) x y t n key)->∀ c∈Ad.mT,∀ H',aD H H'->E (.ref c) none H')):iI Ad vs H Q E
theorem sY:aL ["self","entry","number","is_barred"] ["self","entry","number","is_barred"] (ay jx):=by subst_eqs
theorem sD (F:Fun K "choose" "Book.choose" jx f fd) (T:Bl mg) (AF:AdF K mg Ad) (C_is_below:Fnc P w K mg base (CX1 P w) 2 "is_below" ["thing","bound"] fP) (C_is_entry:Fnc P w K mg base (CX1 P w) 3 "is_entry" ["thing"] lU) (M_Book_least_free:Mtd P w K mg base (CX1 P w) Ad.Book "least_free" 2 ["self","is_barred"] (eE Ad)) (M_Code_many:Mtd P w K mg base (CX1 P w) Ad.Code "many" 1 ["self"] (eG Ad)):bI P w K mg base (CX1 P w) 4 f fd ["self","entry","number","is_barred"] (iI Ad):=by
 refine F.okX (k:=3) sY ?_ (fun cdv A outer s H vs Q E hr h=>?_)
 ·bv_decide
 ·obtain⟨b,ca,dn,de,f,es,al,ws,r,x,y,rfl,B,C,ok,Fb,hx,hy,h300,k,kE⟩:=h
  obtain⟨dx,h1⟩:=B.bk
  have hu:=hr.kP
  have hu1:=qp hr
  refine⟨_,ae (bK (cx (c9 (aF C_is_entry aw (hr.mono (by decide)) (af (pvL 1) (aa))))) (ak (dB di AF.q_NoEntry AF.g_NoEntry du rfl (af (au) (aa)))) (aX)) (ae (bK (bg (lF (K:=K) rfl hu1) (pvL 1) (bW (K:=K) rfl (pvL 0)) (by kernel_rfl)) (ak (dB di AF.q_Twice AF.g_Twice du rfl (af (au) (aa)))) (aX)) (ae (bK (bg Cb (pvL 2) (fk) (bo _)) (ae (bK (cx (c9 (aF C_is_below aw (hr.mono (by decide)) (af (pvL 2) (af (cc M_Code_many aw (hr.mono (by decide)) (bW (K:=K) rfl (pvL 0))) (aa)))))) (ak (dB di AF.q_NoNumber AF.g_NoNumber du rfl (af (au) (aa)))) (aX)) (ak (bK ((kU (bg (lF (K:=K) rfl hu1) (pvL 2) (bW (K:=K) rfl (pvL 0)) (by kernel_rfl)) (iC (c9 (sT (q:=lg) (Pt:=Ad.tb) (pvL 3) hr (af (pvL 2) (aa)))))).pt) (ak (dB di AF.q_NoNumber AF.g_NoNumber du rfl (af (au) (aa)))) (aX)))) (aX)) (ae (bK (bg (Ef (K:=K) rfl hu) (a8 Bd T.len bQ (af (bW (K:=K) rfl (pvL 0)) (aa))) (gT AF.v_MOST_ENTRIES) (bo _)) (ak (dB di AF.q_TooMany AF.g_TooMany du rfl (af (au) (aa)))) (aX)) (ak (aI (xA (bg sR (pvL 2) (fk) (bo _)) (dA M_Book_least_free aw (hr.mono (by decide)) (pvL 0) (af (pvL 3) (aa))) (pvL 2))))))),?_⟩
  grind
  obtain⟨⟨tx0,htx⟩,hax⟩:=hx.ask
  refine⟨_,tx0,rfl,htx,hax,fun G1 t1=>?_⟩
  by_cases hent:lB H x=false
  ·rw[hent]
   and_intros
   exact⟨by decide,kE (fun t n key p=>by rw[p.x,Ae p.h p.eo] at hent;cases hent) _ (by simp [Ads.mT]) G1 t1⟩
  have hent':lB H x=true:=by simpa using hent
  rw[hent']
  and_intros
  cbv
  obtain⟨t,key,rfl,ht,eo⟩:∃ t key,x=V.ref t/\H t=some (.tup (key.map kV))/\i7 key:=by
   rcases hx with rfl | ⟨t,key,rfl,ht,kl,ks⟩
   ·cases hent'
   ·refine⟨t,key,rfl,ht,?_,kl,ks⟩
    have:(match H t with | some (.tup xs)=>fI xs | _=>false)=true:=hent'
    rw[ht] at this
    exact this
  have B1:=B.same t1
  obtain⟨dx1,h11⟩:=B1.bk
  have inj:∀ {t':Addr}{n':Int}{key':List Key},nO H es (cg al ws) (V.ref t) y t' n' key'->key'=key:=fun p=>by
   have e:=p.x
   cases e
   have:=p.h
   rw[ht] at this
   injection this with this
   injection this with this
   exact (nZ this).symm
  grind
  refine⟨_,dx1,_,_,h11,AF.c_Book,AF.n_Book_by_entry,pJ ca dn de,?_⟩
  refine .inr ⟨_,.inr ⟨_,key,t,.inl B1.he,rfl,t1 _ _ ht,rfl⟩,?_⟩
  by_cases hk:key∈es.map (·.key)
  ·obtain⟨e,he,ee⟩:=aM.mp hk
   rw[←ee,Af B.nk he]
   bv_omega
   exact⟨by decide,kE (fun t n key' p=>p.nk (by rw[inj p];exact hk)) _ (by simp [Ads.mT]) G1 t1⟩
  rw[yo hk]
  bv_omega
  show nn _ _ _
  cbv
  have rest:∀ (G2:Hp),aD H G2->(∀ n,y=.int n->n∉es.map (·.num))->(Cq
       (Ju
        (xV
         (tOp (Jn K) (tCB E3 (oT (EM K (tN 0) (Str.ofString "by_number")) xU)) (tC (V.int 300))))
        (zt Ad.TooMany (fun x=>E) (oT (tC (V.str (Str.ofString "a book has at most 300 entries"))) xU))
        EO)
       (Jv
        (tIf (xV (tOp (Ci false) (tN 2) (tC V.non)))
         (tM Ad.Book (Str.ofString "least_free") (eE Ad) (fun x=>E) (tN 0)
          (oT (tN 3) xU))
         (tN 2)))) { nx:=fun x H'=>Q V.non H',rt:=Q } [some (V.ref b),some (V.ref t),some y,some (V.ref f)] G2:=by
   intro G2 t2 hfr
   have B2:=B.same t2
   obtain⟨dx2,h12⟩:=B2.bk
   grind
   refine⟨_,dx2,_,_,h12,AF.c_Book,AF.n_Book_by_number,gD ca dn de,?_⟩
   and_intros
   refine⟨_,.inl B2.hn,?_⟩
   rw[xh]
   by_cases hl:300<=es.length
   ·rw[aC (show (300:Int)<=(es.length:Int) by omega)]
    bv_omega
    exact⟨by decide,kE (fun t n key' p=>by have:=p.few;omega) _ (by simp [Ads.mT]) G2 t2⟩
   rw[aE (show ¬ (300:Int)<=(es.length:Int) by omega)]
   bv_omega
   show nn _ _ _
   cbv
   rcases hy with ⟨n,rfl,n0,n1⟩ | ⟨rfl,n,Lf,n0,n1⟩
   ·and_intros
    exact k t n key ⟨rfl,ht,eo,hk,by omega,n0,n1,hfr n rfl,.inl rfl⟩ G2 t2
   ·and_intros
    exact⟨dx2,_,h12,dw (by decide) (by decide) (by decide) ca dn de,b,ca,dn,de,f,es,al,ws,r,n,rfl,B2,C.same t2,ok,Fb.same t2,Lf,n1,fun G3 t3=>k t n key ⟨rfl,ht,eo,hk,by omega,n0,n1,Lf.2.1,.inr ⟨rfl,Lf⟩⟩ G3 (t2.trans t3)⟩
  grind
  rcases id hy with ⟨n,rfl,n0,n1⟩ | ⟨rfl,_⟩
  ·and_intros
   have C1:=C.same t1
   obtain⟨dc,qc,hc1,hc2⟩:=id C1
   refine ft fun n2 hM=>?_
   and_intros
   refine⟨_,dx1,_,_,h11,AF.c_Book,AF.n_Book_basis,ja ca dn de,?_⟩
   refine⟨dc,_,hc1,bG (by decide) (by decide) (by decide) al qc r,ca,al,ws,r,rfl,C1,ok.a26,by have:=ok.w3;omega,ok.w8,fun G2 t2=>?_⟩
   refine⟨_,.int,_,rfl,rfl,?_⟩
   rw[i4 (b:=(al.length:Int)^(ws.length-1)) n0 n1]
   and_intros
   rw[hM]
   clear hM n2
   have t02:=t1.trans t2
   have B2:=B.same t02
   obtain⟨dx2,h12⟩:=B2.bk
   and_intros
   refine⟨_,dx2,_,_,h12,AF.c_Book,AF.n_Book_by_number,gD ca dn de,?_⟩
   refine .inr ⟨_,.inl ⟨_,.inl n,.inl B2.hn,rfl,rfl⟩,?_⟩
   by_cases hm:n∈es.map (·.num)
   ·obtain⟨e,he,ee⟩:=aM.mp hm
    rw[←ee,r6 B.nn he]
    bv_omega
    exact⟨by decide,kE (fun t n' key' p=>by rcases p.y with z | ⟨z,_⟩<;>cases z;exact p.nn hm) _ (by simp [Ads.mT]) G2 t02⟩
   ·rw[vt hm]
    bv_omega
    refine⟨Fb.same t02,Fb.same t02,?_⟩
    show nn _ _ _
    rw[hN]
    exact rest G2 t02 (fun n' e=>by cases e;exact hm)
  ·and_intros
   show nn _ _ _
   rw[hN]
   exact rest G1 t1 (fun n' e=>by cases e)
theorem Dl (h:fI xs=true):∃ key:List Key,xs=key.map kV:=by
 cases xs with
 | nil=>cases h
 | cons a r =>
  cases a with
  | str z =>
   cases r with
   | nil=>exact⟨[.inr z],rfl⟩
   | cons y r2 =>
    cases r2 with
    | cons _ _=>cases h
    | nil =>
     have h':(if z=("phrase":Str) then iZ 6 y else if z=("part":Str) then gM 6 y else false)=true:=h
     cases y with
     | str y=>exact⟨[.inr z,.inr y],rfl⟩
     | _ =>
      exfalso
      split at h'
      ·cases h'
      ·split at h'
       ·cases h'
       ·cases h'
  | _=>cases h
inductive iJ (Ad:Ads) (vs:List V) (H:Hp) (Q:VK) (E:XK):Prop
 | mk (b ca dn de:Addr) (es:List Ben) (x:V) (t:Tg) (q0:vs=[.ref b,x]) (q1:cY Ad H b ca dn de es) (q2:eI H x=some t) (q3:(∀ p xs,x=.ref p->H p=some (.tup xs)->xs.length<=1000/\∀ y∈xs,(∃ t,eI H y=some t)/\∀ z,y=.str z->z.length<=50000)) (q4:(lB H x=false->∀ H',aD H H'->Q .non H')) (q5:(∀ p key,x=.ref p->H p=some (.tup (key.map kV))->fI (key.map kV)=true->(∀ e∈es,e.key=key->∀ H',aD H H'->Q (.int e.num) H')/\(key∉es.map (·.key)->∀ H',aD H H'->Q .non H'))):iJ Ad vs H Q E
theorem sZ:aL ["self","entry"] ["self","entry"] (ay jy):=by subst_eqs
theorem sE (F:Fun K "number" "Book.number" jy f fd) (T:Bl mg) (AF:AdF K mg Ad) (C_is_entry:Fnc P w K mg base (CX1 P w) 3 "is_entry" ["thing"] lU):bI P w K mg base (CX1 P w) 4 f fd ["self","entry"] (iJ Ad):=by
 refine F.okX (k:=3) sZ ?_ ?_
 ·bv_decide
 ·bv_normalize
  obtain⟨b,ca,dn,de,es,x,t,rfl,B,ht,hx,k1,k2⟩:=h
  refine⟨_,ae (bK (cx (c9 (aF C_is_entry aw (hr.mono (by decide)) (af (pvL 1) (aa))))) (ak (aI (fk))) (aX)) (ak (aI (uH hu1 (bW (K:=K) rfl (pvL 0)) (pvL 1)))),?_⟩
  grind
  refine⟨x,t,rfl,ht,hx,fun H1 s1=>⟨_,rfl,?_⟩⟩
  cases hv:lB H x with
  | false =>
   bv_omega
   exact k1 hv H1 s1
  | true =>
   bv_omega
   show nn _ _ _
   cbv
   cases x with
   | ref p =>
    have hv':(match H p with | some (.tup xs)=>fI xs | _=>false)=true:=hv
    cases hp:H p with
    | none=>rw[hp] at hv';cases hv'
    | some o =>
     rw[hp] at hv'
     cases o with
     | tup xs =>
      obtain⟨key,rfl⟩:=Dl hv'
      obtain⟨q1,q2⟩:=k2 p key rfl hp hv'
      have B1:=B.same s1
      obtain⟨dx1,h11⟩:=B1.bk
      and_intros
      refine⟨_,dx1,_,_,h11,AF.c_Book,AF.n_Book_by_entry,pJ ca dn de,de,rfl,.inr ⟨_,.inl B1.he⟩,_,lj.t (k:=key) B1.he (s1 _ _ hp),?_⟩
      by_cases hm:key∈es.map (·.key)
      ·obtain⟨e,he,ee⟩:=aM.mp hm
       rw[←ee,Af B.nk he]
       exact q1 e he ee H1 s1
      ·rw[yo hm]
       exact q2 hm H1 s1
     | _=>cases hv'
   | _=>cases hv
inductive jX (Ad:Ads) (vs:List V) (H:Hp) (Q:VK) (E:XK):Prop
 | mk (b ca dn de:Addr) (es:List Ben) (al:List Nat) (ws:List Int) (r:Int) (q0:vs=[.ref b]) (q1:cY Ad H b ca dn de es) (q2:cP Ad H ca al ws r) (q3:bf al ws r) (q4:es.length<=300) (q5:(es.length<64∨(es.map (·.num)).Pairwise (·<=·))) (q6:(∀ e∈es,i7 e.key/\0<=e.num/\e.num<cg al ws)) (q7:∀ ms H',ms.Perm es->(ms.map (·.num)).Pairwise (·<·)->aD H H'->Q (.str (tx (eu al ws r ms))) H'):jX Ad vs H Q E
theorem tH:aL ["book","code","rows"] ["book"] (ay vR):=by subst_eqs
theorem Ea (F:Fun K "shown" "shown" vR f fd) (T:Bl mg) (AF:AdF K mg Ad) (C_code_row:Fnc P w K mg base (CX1 P w) 2 "code_row" ["code"] (qG Ad)) (C_entry_row:Fnc P w K mg base (CX1 P w) 1 "entry_row" ["word","entry"] oO) (M_Book_entries:Mtd P w K mg base (CX1 P w) Ad.Book "entries" 1 ["self"] (fF Ad)) (M_Code_word:Mtd P w K mg base (CX1 P w) Ad.Code "word" 3 ["self","k"] (dP Ad)) (M_Book_code:Mtd P w K mg base (CX1 P w) Ad.Book "code" 1 ["self"] (kK Ad)):bI P w K mg base (CX1 P w) 4 f fd ["book"] (jX Ad):=by
 refine F.okX (k:=3) tH ?_ ?_
 ·bv_decide
 ·bv_normalize
  obtain⟨b,ca,dn,de,es,al,ws,r,rfl,B,C,ok,l300,l64,hes,k⟩:=h
  refine⟨_,ae (vN (i:=1) tH.nd (cc M_Book_code aw (hr.mono (by decide)) (pvL 0))) (ae (jU (i:=2) ["number","entry"] tH.nd rfl (Or.inl rfl) rfl ⟨rfl,by decide +kernel,rfl,by decide +kernel⟩ (.cons (j:=1) rfl (.inl (by kernel_rfl)) (.nil)) (by decide +kernel) (cF (K:=K) rfl (cc M_Book_entries aw (hr.mono (by decide)) (pvL 0))) (fun _ _ _ _=>rC (K:=K) (n:=2) rfl rfl (cG (aV (i:=0) (show (["number","entry","code"]:List Str).Nodup from by decide +kernel)) (cG (aV (i:=1) (show (["number","entry","code"]:List Str).Nodup from by decide +kernel)) (iu)))) (fun _ _ _ _=>dM) (fun _ _ _ _=>aF C_entry_row jv (hr.mono (by decide)) (af (dA M_Code_word jv (hr.mono (by decide)) (pvC 2) (af (pvL 0) (aa))) (af (pvL 1) (aa))))) (ak (aI (dy (K:=K) rfl cV h9 hO (gS (K:=K) rfl) (au) (af (az a9 (bF (af (aF C_code_row aw (hr.mono (by decide)) (af (pvC 1) (aa))) (aa))) (pvL 2)) (aa)))))),?_⟩
  obtain⟨dx,hb⟩:=B.bk
  grind
  refine⟨dx,_,hb,dw (by decide) (by decide) (by decide) ca dn de,b,ca,dn,de,es,rfl,B,?_⟩
  cbv
  grind
  refine⟨dx,_,hb,dw (by decide) (by decide) (by decide) ca dn de,b,ca,dn,de,es,rfl,B,l300,l64,fun D vs ms H1 hD s1 g1 mp ml hp=>?_⟩
  and_intros
  have lm:=mp.length_eq
  have hms:∀ m∈ms,i7 m.key/\0<=m.num/\m.num<cg al ws:=fun m hm=>hes m (mp.mem_iff.mp hm)
  have lv:vs.length=ms.length:=Paired.length hp
  have C1:=C.same s1
  obtain⟨dc,qc,hc1,hc2⟩:=id C1
  refine .inl ⟨⟨_,.of g1⟩,DP (fv (.of g1)) (av (by omega)) (fun i=>V.int (ms.getD i ⟨0,[],0⟩).num) (fun i=>V.ref (ms.getD i ⟨0,[],0⟩).adr) (fun i=>V.str (tx (cz al ws r (ms.getD i ⟨0,[],0⟩)))) (fun _=>true) ?_ ?_ ?_ ?_⟩
  ·intro i v hv
   obtain⟨m,hm,p,e,h2⟩:=mK hp hv
   rw[cU,hm]
   exact⟨p,e,h2⟩
  ·intro i _ H2 s2 R hR
   exact hR H2 (aD.refl _)
  ·intro i hi _ H2 s2 R hR
   obtain⟨m,hm⟩:∃ m,ms[i]?=some m:=⟨_,bu (by omega)⟩
   have hmm:=hms m (br hm)
   have ea:H m.adr=some (.tup (m.key.map kV)):=B.en m (mp.mem_iff.mp (br hm))
   rw[show ms.getD i ⟨0,[],0⟩=m from by rw[cU,hm];rfl] at hR ⊢
   and_intros
   refine⟨dc,_,s2 _ _ hc1,bG (by decide) (by decide) (by decide) al qc r,ca,al,ws,r,_,.int,rfl,C1.same s2,ok,rfl,(fun h=>by rw[show bV ((al.length:Int)^(ws.length-1)) (V.int m.num)=true from i4 hmm.2.1 hmm.2.2] at h;cases h),fun n e n0 n1 H3 s3=>?_⟩
   cases e
   refine⟨wdL al ws r m.num,m.adr,m.key,rfl,s3 _ _ (s2 _ _ (s1 _ _ ea)),hmm.1,by rw[(fz ok hmm.2.1 hmm.2.2).1];have:=ok.w8;omega,fun H4 s4=>hR H4 (s3.trans s4)⟩
  intro D2 H2 hD2 s2 g2
  cbv
  have e2:((List.range vs.length).filter fun _=>true).map (fun i=>V.str (tx (cz al ws r (ms.getD i ⟨0,[],0⟩))))=(ms.map (cz al ws r)).map fun l=>V.str (tx l):=by
   rw[List.filter_eq_self.mpr fun _ _=>rfl,aK]
   apply List.ext_getElem?
   intro i
   rw[bY,bY]
   by_cases hi:i<ms.length
   ·rw[List.getElem?_range (by omega),bu hi]
    simp [hi]
   ·rw[List.getElem?_eq_none (by simp;omega),List.getElem?_eq_none (by omega)];rfl
  rw[e2] at g2
  have s02:=s1.trans s2
  and_intros
  refine⟨rfl,ca,al,ws,r,rfl,C.same s02,ok,fun H3 s3=>⟨aN (av (by decide)),fun p4 H4 hp4 s4 g4=>⟨_,_,g4,(s3.trans s4) _ _ g2,?_,fun p5 H5 hp5 s5 g5=>?_⟩⟩⟩
  ·simp only[aj,ag,ax]
   exact aN (av (by omega))
  have e10:Str.ofString "\n"=tx [10]:=rfl
  refine⟨(bU al ws r::ms.map (cz al ws r)).map tx,.of (by rw[g5];simp [Function.comp_def]),?_,?_⟩
  ·have h1:=xI (ls:=bU al ws r::ms.map (cz al ws r)) (n:=138) fun l hl=>by
    rcases aH.mp hl with rfl | hl
    ·have:=jM ok;omega
    ·obtain⟨m,hm,rfl⟩:=aM.mp hl
     exact lA ok (hms m hm)
   rw[aK,show (fun x:Str=>x.length) ∘ tx=fun l:List Nat=>l.length from funext aJ,e10,aj]
   simp only[ag,aj] at h1 ⊢
   rw[show (tx [10]).length=1 from rfl]
   omega
  rw[e10,jZ]
  exact k ms H5 mp ml (s02.trans (s3.trans (s4.trans s5)))
def u4:List Nat->Bool
 | [32,46]=>true
 | 32::61::32::l=>fj 6 l
 | 32::43::32::l=>dv 6 l
 | _=>false
theorem DH (h:i7 key):u4 (fH key)=true:=by
 rcases eQ h with rfl | ⟨l,rfl,hl,_⟩ | ⟨l,rfl,hl,_⟩
 ·rfl
 ·rw[fS];exact hl
 ·rw[fR];exact hl
structure rF (al:List Nat) (ws:List Int) (r:Int) (row:List Nat):Prop where
 len:row.length<=200
 nl:10∉row
 no:∀ m,jt al ws m->cz al ws r m≠row
section
variable {al:List Nat}{ws:List Int}{r:Int}
theorem vw {w s:List Nat} (ok:bf al ws r) (hw:w.length=ws.length) (h:∀ n,0<=n->n<cg al ws->w=wdL al ws r n->u4 s=false) (m:Ben) (hm:jt al ws m):cz al ws r m≠w++s:=fun e=>by
 obtain⟨e1,e2⟩:=vP ok hm hw e.symm
 have:=h _ hm.2.1 hm.2.2 e1
 rw[e2,DH hm.1] at this
 cases this
theorem vx {s:List Nat} (ok:bf al ws r) (g0:0<=g) (g1:g<cg al ws) (hs:u4 s=false) (hl:s.length<=100) (h10:10∉s):rF al ws r (wdL al ws r g++s):=by
 obtain⟨w1,w2,_⟩:=fz ok g0 g1
 have:=ok.w8
 exact⟨by rw[ah];omega,fun z=>(bw.mp z).elim (fun z=>by have:=w2 _ z;omega) h10,vw ok w1 fun _ _ _ _=>hs⟩
theorem Ib {u:List Nat}{c c1:Nat} (ok:bf al ws r) (g0:0<=g) (g1:g<cg al ws) (e:wdL al ws r g=u++[c]) (hc:c1≠c) (n:Int) (n0:0<=n) (n1:n<cg al ws):u++[c1]≠wdL al ws r n:=fun z=>by
 have h1:=(fz ok g0 g1).2.2.2
 have h2:=(fz ok n0 n1).2.2.2
 rw[e,mf] at h1
 rw[←z,mf,h1] at h2
 rw[←h2,e] at z
 have:=List.append_cancel_left z
 injection this with this _
 exact hc this
theorem FH (ok:bf al ws r) {m:Ben} (hm:jt al ws m)  (hi:i<ws.length):∃ c,(cz al ws r m)[i]?=some c/\97<=c/\c<123:=by
 obtain⟨w1,w2,_⟩:=fz ok hm.2.1 hm.2.2
 refine⟨_,by unfold cz;rw[gi (by omega)];exact bu (by omega),w2 _ (iR _)⟩
theorem yZ {i c:Nat} (ok:bf al ws r) (hi:i<ws.length) (h:row[i]?=some c) (hc:¬ (97<=c/\c<123)) (hl:row.length<=200) (h10:10∉row):rF al ws r row :=
 ⟨hl,h10,fun m hm e=>by obtain⟨d,h1,h2⟩:=FH ok hm hi;rw[e,h] at h1;cases h1;exact hc h2⟩
theorem uF (ok:bf al ws r) (h:row.length<5) (h10:10∉row):rF al ws r row :=
 ⟨by omega,h10,fun m hm e=>by
  have h1:=aG List.length e
  have w1:=(fz ok hm.2.1 hm.2.2).1
  have w3:=ok.w3
  have:2<=(fH m.key).length:=by
   rcases eQ hm.1 with e | ⟨l,e,_⟩ | ⟨l,e,_⟩<;>rw[e]
   ·decide
   ·rw[fS,ah];simp only[ag,ax];omega
   ·rw[fR,ah];simp only[ag,ax];omega
  unfold cz at h1
  rw[ah] at h1
  omega⟩
end
def nN (al:List Nat) (ws:List Int) (r:Int) (v:V):Prop:=∃ row,v=.str (tx row)/\rF al ws r row
inductive iL (Ad:Ads) (vs:List V) (H:Hp) (Q:VK) (E:XK):Prop
 | mk (ca:Addr) (al:List Nat) (ws:List Int) (r n:Int) (q0:vs=[.ref ca,.int n]) (q1:cP Ad H ca al ws r) (q2:bf al ws r) (q3:0<=n) (q4:∀ row H',rF al ws r row->aD H H'->Q (.str (tx row)) H'):iL Ad vs H Q E
theorem cq:aL ["_law_code_here","_law_number","_law_good","_law_letters","_law_bad","_law_some"] ["_law_code_here","_law_number"] (ay jD):=by subst_eqs
theorem sP (F:Fun K "_law_odd_row" "_law_odd_row" jD f fd) (T:Bl mg) (AF:AdF K mg Ad) (M_Code_alphabet:Mtd P w K mg base (CX1 P w) Ad.Code "alphabet" 1 ["self"] (fh Ad)) (M_Code_word:Mtd P w K mg base (CX1 P w) Ad.Code "word" 3 ["self","k"] (dP Ad)) (M_Code_many:Mtd P w K mg base (CX1 P w) Ad.Code "many" 1 ["self"] (eG Ad)):bI P w K mg base (CX1 P w) 4 f fd ["_law_code_here","_law_number"] (iL Ad):=by
 refine F.okX (k:=3) cq ?_ ?_
 ·bv_decide
 ·bv_normalize
  obtain⟨ca,al,ws,r,n,rfl,C,ok,hn,k⟩:=h
  refine⟨_,ae (aB (i:=2) cq.nd (dA M_Code_word aw (hr.mono (by decide)) (pvL 0) (af (az bC (az ck (pvL 1) (aq)) (cc M_Code_many aw (hr.mono (by decide)) (pvL 0))) (aa)))) (ae (aB (i:=3) cq.nd (cc M_Code_alphabet aw (hr.mono (by decide)) (pvL 0))) (ae (aB (i:=4) cq.nd (az a9 (bX (eP (K:=K) rfl) (pvL 2) (cH) (cB (A9 wa (aq)))) (cw (dE (K:=K) rfl) (pvL 3) (az bC (az a9 (dy (K:=K) rfl cV PySem.F.slot_str_index PySem.F.type_str_index uE (pvL 3) (af (cw (dE (K:=K) rfl) (pvL 2) (A9 wa (aq)) (fun _ _=>rfl)) (aa))) (aq)) (a8 (aY (K:=K) rfl) T.len bQ (af (pvL 3) (aa)))) (fun _ _=>rfl)))) (ae (aB (i:=5) cq.nd (bF (af (pvL 2) (af (az a9 (pvL 2) (au)) (af (az a9 (pvL 2) (au)) (af (az a9 (pvL 2) (au)) (af (az a9 (pvL 2) (au)) (af (az a9 (pvL 2) (au)) (af (az a9 (pvL 2) (au)) (aa)))))))))) (ae (aB (i:=5) cq.nd (az a9 (pvL 5) (bF (af (az a9 (pvL 2) (au)) (af (az a9 (pvL 2) (au)) (af (az a9 (pvL 2) (au)) (af (az a9 (pvL 2) (au)) (af (az a9 (pvL 2) (au)) (aa))))))))) (ae (aB (i:=5) cq.nd (az a9 (pvL 5) (bF (af (az a9 (pvL 2) (au)) (af (az a9 (pvL 2) (au)) (af (az a9 (pvL 2) (au)) (af (az a9 (pvL 2) (au)) (aa)))))))) (ae (aB (i:=5) cq.nd (az a9 (pvL 5) (bF (af (az a9 (pvL 2) (au)) (af (az a9 (pvL 2) (au)) (af (az a9 (az a9 (au) (pvL 2)) (au)) (af (az a9 (pvL 2) (au)) (aa)))))))) (ae (aB (i:=5) cq.nd (az a9 (pvL 5) (bF (af (az a9 (pvL 4) (au)) (af (az a9 (pvL 4) (au)) (af (az a9 (pvL 4) (au)) (af (az a9 (bX (eP (K:=K) rfl) (pvL 2) (cB (aq)) (cH)) (au)) (aa)))))))) (ae (aB (i:=5) cq.nd (az a9 (pvL 5) (bF (af (az a9 (az a9 (pvL 2) (cw (dE (K:=K) rfl) (pvL 3) (aq) (fun _ _=>rfl))) (au)) (af (au) (af (au) (af (au) (af (au) (af (au) (af (au) (af (au) (aa)))))))))))) (ae (aB (i:=5) cq.nd (az a9 (pvL 5) (bF (af (az a9 (pvL 2) (au)) (af (az a9 (pvL 2) (au)) (af (az a9 (pvL 2) (au)) (af (az a9 (pvL 2) (au)) (aa)))))))) (ak (aI (cw (dE (K:=K) rfl) (pvL 5) (az bC (pvL 1) (a8 (aY (K:=K) rfl) T.len bQ (af (pvL 5) (aa)))) (fun _ _=>rfl))))))))))))),?_⟩
  have big:∀ {u:Nat},u<=1000->u<=sizeLine:=fun hu=>aN (av (by omega))
  have a3:=ok.a3
  have a26:=ok.a26
  have w3:=ok.w3
  have w8:=ok.w8
  have hpos:0<cg al ws:=Int.pow_pos (by omega)
  obtain⟨dc,qc,hc1,hc2⟩:=id C
  grind
  refine⟨dc,_,hc1,bG (by decide) (by decide) (by decide) al qc r,⟨by decide,by decide⟩,dc,_,hc1,bG (by decide) (by decide) (by decide) al qc r,ca,al,ws,r,rfl,C,a26,by omega,w8,fun H1 s1=>?_⟩
  and_intros
  refine⟨hpos,?_⟩
  have u0:=cA (n/50) (b:=cg al ws) (by omega)
  have u1:=df (n/50) (b:=cg al ws) (by omega)
  refine⟨ca,al,ws,r,V.int (n/50%cg al ws),.int,rfl,C.same s1,ok,rfl,(fun h=>by rw[show bV ((al.length:Int)^(ws.length-1)) (V.int (n/50%cg al ws))=true from i4 u0 u1] at h;cases h),fun g e g0 g1 H2 s2=>?_⟩
  clear e u0 u1
  obtain⟨wl,wc,wg,wn⟩:=fz ok g0 g1
  rw[show Mk.gC al (Mk.ir (↑al.length) ws r g)=wdL al ws r g from rfl]
  have s02:=s1.trans s2
  have C2:=C.same s02
  cbv
  grind
  refine⟨dc,_,s02 _ _ hc1,bG (by decide) (by decide) (by decide) al qc r,ca,al,ws,r,rfl,C2,?_⟩
  cbv
  grind
  obtain⟨u,c,ew⟩:∃ u c,wdL al ws r g=u++[c]:=⟨(wdL al ws r g).dropLast,(wdL al ws r g).getLast (by intro e;rw[e] at wl;simp at wl;omega),(oX _).symm⟩
  have cal:c∈al:=by
   unfold Mk.fe Mk.dJ at wg
   simp only[bS,bP,bM] at wg
   exact wg.1.2 c (by rw[ew];simp)
  have ci:=mx cal
  have ul:u.length+1=ws.length:=by rw[ew,ah] at wl;exact wl
  obtain⟨j,hj⟩:=cC (cA (((al.idxOf c:Nat):Int)+1) (b:=(al.length:Int)) (by omega))
  have hjl:j<al.length/\j≠al.idxOf c:=by
   have:=df (((al.idxOf c:Nat):Int)+1) (b:=(al.length:Int)) (by omega)
   refine⟨by omega,fun e=>?_⟩
   by_cases hx:((al.idxOf c:Nat):Int)+1<al.length
   ·rw[Int.emod_eq_of_lt (by omega) hx] at hj;omega
   ·rw[show ((al.idxOf c:Nat):Int)+1=(al.length:Int) by omega,Int.emod_self] at hj;omega
  obtain⟨c1,hc1'⟩:∃ c1,al[j]?=some c1:=⟨_,bu hjl.1⟩
  have cne:c1≠c:=fun e=>hjl.2 (by rw[←Mk.ux ok.nd hc1',e])
  have bno:=Ib ok g0 g1 ew cne
  have c1l:=ok.abc c1 (br hc1')
  rw[b0,b0,uo,aJ,aJ,aJ,ew,mf]
  refine⟨big (by rw[ah];simp;omega),rfl,big (by rw[ah];simp;omega),c,?_,?_⟩
  ·exact uc (by simp)
  rw[rT (by rw[b0];exact cal),b0,hj]
  refine⟨by omega,big (by omega),by omega,big (by omega),c1,bB hc1',big (by show u.length+1<=_;omega),?_⟩
  rw[show (⟨#[c1]⟩:Str)=tx [c1] from rfl,cy,←ew]
  have bl:(u++[c1]).length=ws.length:=by rw[ah];exact ul
  have bc:∀ x∈u++[c1],97<=x/\x<123:=fun x hx=>(bw.mp hx).elim (fun h=>wc x (by rw[ew];exact fA _ h)) (fun h=>by rw[bt.mp h];exact c1l)
  generalize u++[c1]=bd at bno bl bc
  clear hjl hc1' cne cal ci hj ul ew
  have lc:∀ {u:Str},u.length<=100->(tx (wdL al ws r g)).length+u.length<=sizeLine:=fun h=>big (by rw[aJ,wl];omega)
  have lb:∀ {u:Str},u.length<=100->(tx bd).length+u.length<=sizeLine:=fun h=>big (by rw[aJ,bl];omega)
  have og:∀ {u:Str},u4 u.cps.toList=false->u.length<=100->10∉u.cps.toList->nN al ws r (.str (tx (wdL al ws r g)++u)):=fun {u} h1 h2 h3=>⟨wdL al ws r g++u.cps.toList,by rw[←cy,iq],vx ok g0 g1 h1 (by rw[←cR];exact h2) h3⟩
  have ob:∀ {u:Str},u.length<=100->10∉u.cps.toList->nN al ws r (.str (tx bd++u)):=fun {u} h2 h3=>⟨bd++u.cps.toList,by rw[←cy,iq],by have:=cR u;rw[ah];omega,fun z=>(bw.mp z).elim (fun z=>by have:=bc _ z;omega) h3,vw ok bl fun n n0 n1 e=>absurd e (bno n n0 n1)⟩
  have oc:∀ {u:Str},u.length<5->10∉u.cps.toList->nN al ws r (.str u):=fun {u} h1 h2=>⟨u.cps.toList,by rw[iq],uF ok (by rw[←cR];exact h1) h2⟩
  have g32:10∉wdL al ws r g:=fun z=>by have:=wc _ z;omega
  have oh:nN al ws r (.str (Str.ofString " "++tx (wdL al ws r g)++Str.ofString " .")):=⟨32::(wdL al ws r g++[32,46]),by rw[show Str.ofString " "=tx [32] from rfl,show Str.ofString " ."=tx [32,46] from rfl,cy,cy];rfl,yZ ok (i:=0) (by omega) rfl (by decide) (by rw[ag,ah];simp only[ag,ax];omega) (by simp [g32])⟩
  have oA:nN al ws r (.str (Str.ofString "A = zz")):=⟨[65,32,61,32,122,122],rfl,yZ ok (i:=0) (by omega) rfl (by decide) (by decide) (by decide)⟩
  cbv
  grind
  refine⟨lc (by decide),lc (by decide),lc (by decide),lc (by decide),lc (by decide),lc (by decide),big (by decide),fun p0 G0 hp0 t0 g0'=>?_⟩
  obtain⟨xs0,e0,A0,l0⟩:∃ xs,G0 p0=some (.lst xs)/\(∀ v∈xs,nN al ws r v)/\1<=xs.length/\xs.length<=10:=⟨_,g0',by
   simp only[cM]
   exact⟨⟨wdL al ws r g,rfl,by have:=vx (s:=[]) ok g0 g1 rfl (by decide) (by decide);rwa [gW] at this⟩,og (by rfl) (by decide) (by decide),og (by rfl) (by decide) (by decide),og (by rfl) (by decide) (by decide),og (by rfl) (by decide) (by decide),og (by rfl) (by decide) (by decide),og (by rfl) (by decide) (by decide),fun _ h=>by cases h⟩,by simp,by simp⟩
  clear g0'
  have S0:=s02.trans t0
  obtain⟨c0,hc0⟩:∃ c0,al[0]?=some c0:=⟨_,bu (by omega)⟩
  have c0l:=ok.abc c0 (br hc0)
  have ol:nN al ws r (.str (tx (wdL al ws r g)++⟨#[c0]⟩++Str.ofString " = zz zz")):=⟨wdL al ws r g++(c0::[32,61,32,122,122,32,122,122]),by rw[show (⟨#[c0]⟩:Str)=tx [c0] from rfl,show Str.ofString " = zz zz"=tx [32,61,32,122,122,32,122,122] from rfl,cy,cy,gU];rfl,vx ok g0 g1 (by unfold u4;split<;>first | rfl | (rename_i h;injection h with h _;omega)) (by simp) (by simp;omega)⟩
  have ot:nN al ws r (.str (tx (jN (tx (wdL al ws r g)).cps.toList (some 1) none)++Str.ofString " = zz zz")):=by
   refine⟨(wdL al ws r g).drop 1++[32,61,32,122,122,32,122,122],by rw[b0,show jN _ (some 1) none=_ from mE _ 1,show Str.ofString " = zz zz"=tx [32,61,32,122,122,32,122,122] from rfl,cy],yZ ok (i:=ws.length-1) (c:=32) (by omega) ?_ (by decide) ?_ ?_⟩
   ·rw[gj (by rw[bA];omega),bA,wl,Nat.sub_self];rfl
   ·rw[ah,bA,wl];simp only[ag,ax];omega
   ·intro z
    rcases bw.mp z with z | z
    ·exact g32 (iT z)
    ·revert z;decide
  cbv
  grind
  refine⟨lc (by decide),lc (by decide),lc (by decide),lc (by decide),lc (by decide),big (by decide),fun q1 F1 hq1 f1 z1=>⟨_,_,f1 _ _ e0,z1,big (by simp only[ag,ax];omega),fun p1 G1 hp1 t1 g1'=>?_⟩⟩
  obtain⟨xs1,e1,A1,l1⟩:∃ xs,G1 p1=some (.lst xs)/\(∀ v∈xs,nN al ws r v)/\1<=xs.length/\xs.length<=20:=⟨_,g1',eY.mpr ⟨A0,by
   simp only[cM]
   exact⟨og (by rfl) (by decide) (by decide),og (by rfl) (by decide) (by decide),og (by rfl) (by decide) (by decide),og (by rfl) (by decide) (by decide),og (by rfl) (by decide) (by decide),fun _ h=>by cases h⟩⟩,by rw[ah];omega,by rw[ah];simp only[ag,ax];omega⟩
  have S1:=S0.trans (f1.trans t1)
  clear g1' z1 e0 A0
  cbv
  grind
  refine⟨lc (by decide),lc (by decide),lc (by decide),lc (by decide),big (by decide),fun q2 F2 hq2 f2 z2=>⟨_,_,f2 _ _ e1,z2,big (by simp only[ag,ax];omega),fun p2 G2 hp2 t2 g2'=>?_⟩⟩
  obtain⟨xs2,e2,A2,l2⟩:∃ xs,G2 p2=some (.lst xs)/\(∀ v∈xs,nN al ws r v)/\1<=xs.length/\xs.length<=30:=⟨_,g2',eY.mpr ⟨A1,by
   simp only[cM]
   exact⟨og (by rfl) (by decide) (by decide),og (by rfl) (by decide) (by decide),og (by rfl) (by decide) (by decide),og (by rfl) (by decide) (by decide),fun _ h=>by cases h⟩⟩,by rw[ah];omega,by rw[ah];simp only[ag,ax];omega⟩
  have S2:=S1.trans (f2.trans t2)
  clear g2' z2 e1 A1
  cbv
  grind
  refine⟨lc (by decide),lc (by decide),big (by rw[aJ,wl];show 1+_<=_;omega),big (by rw[show Str.ofString " "=tx [32] from rfl,cy,aJ,ah,wl];show 1+_+2<=_;omega),lc (by decide),big (by decide),fun q3 F3 hq3 f3 z3=>⟨_,_,f3 _ _ e2,z3,big (by simp only[ag,ax];omega),fun p3 G3 hp3 t3 g3'=>?_⟩⟩
  obtain⟨xs3,e3,A3,l3⟩:∃ xs,G3 p3=some (.lst xs)/\(∀ v∈xs,nN al ws r v)/\1<=xs.length/\xs.length<=40:=⟨_,g3',eY.mpr ⟨A2,by
   simp only[cM]
   exact⟨og (by rfl) (by decide) (by decide),og (by rfl) (by decide) (by decide),oh,og (by rfl) (by decide) (by decide),fun _ h=>by cases h⟩⟩,by rw[ah];omega,by rw[ah];simp only[ag,ax];omega⟩
  have S3:=S2.trans (f3.trans t3)
  clear g3' z3 e2 A2
  cbv
  grind
  refine⟨lb (by decide),lb (by decide),lb (by decide),big (by rw[aJ,wl];omega),big (by rw[aJ];have:=qm (tx (wdL al ws r g)).cps.toList (some 1) none;rw[b0,wl] at this;show _+8<=_;rw[b0];omega),big (by decide),fun q4 F4 hq4 f4 z4=>⟨_,_,f4 _ _ e3,z4,big (by simp only[ag,ax];omega),fun p4 G4 hp4 t4 g4'=>?_⟩⟩
  obtain⟨xs4,e4,A4,l4⟩:∃ xs,G4 p4=some (.lst xs)/\(∀ v∈xs,nN al ws r v)/\1<=xs.length/\xs.length<=50:=⟨_,g4',eY.mpr ⟨A3,by
   simp only[cM]
   exact⟨ob (by decide) (by decide),ob (by decide) (by decide),ob (by decide) (by decide),ot,fun _ h=>by cases h⟩⟩,by rw[ah];omega,by rw[ah];simp only[ag,ax];omega⟩
  have S4:=S3.trans (f4.trans t4)
  clear g4' z4 e3 A3
  cbv
  grind
  refine⟨big (by rw[aJ];omega),c0,by rw[b0];exact bB hc0,big (by rw[aJ,wl];show _+1<=_;omega),big (by rw[show (⟨#[c0]⟩:Str)=tx [c0] from rfl,cy,aJ,ah,wl];show _+1+8<=_;omega),big (by decide),fun q5 F5 hq5 f5 z5=>⟨_,_,f5 _ _ e4,z5,big (by simp only[ag,ax];omega),fun p5 G5 hp5 t5 g5'=>?_⟩⟩
  obtain⟨xs5,e5,A5,l5⟩:∃ xs,G5 p5=some (.lst xs)/\(∀ v∈xs,nN al ws r v)/\1<=xs.length/\xs.length<=60:=⟨_,g5',eY.mpr ⟨A4,by
   simp only[cM]
   exact⟨ol,oc (by decide) (by decide),oc (by decide) (by decide),oc (by decide) (by decide),oc (by decide) (by decide),oA,oc (by decide) (by decide),oc (by decide) (by decide),fun _ h=>by cases h⟩⟩,by rw[ah];omega,by rw[ah];simp only[ag,ax];omega⟩
  have S5:=S4.trans (f5.trans t5)
  clear g5' z5 e4 A4
  cbv
  grind
  refine⟨lc (by decide),lc (by decide),lc (by decide),lc (by decide),big (by decide),fun q6 F6 hq6 f6 z6=>⟨_,_,f6 _ _ e5,z6,big (by simp only[ag,ax];omega),fun p6 G6 hp6 t6 g6'=>?_⟩⟩
  obtain⟨xs6,e6,A6,l6⟩:∃ xs,G6 p6=some (.lst xs)/\(∀ v∈xs,nN al ws r v)/\1<=xs.length/\xs.length<=70:=⟨_,g6',eY.mpr ⟨A5,by
   simp only[cM]
   exact⟨og (by rfl) (by decide) (by decide),og (by rfl) (by decide) (by decide),og (by rfl) (by decide) (by decide),og (by rfl) (by decide) (by decide),fun _ h=>by cases h⟩⟩,by rw[ah];omega,by rw[ah];simp only[ag,ax];omega⟩
  have S6:=S5.trans (f6.trans t6)
  clear g6' z6 e5 A5
  cbv
  and_intros
  obtain⟨v,hv,row,rfl,ho⟩:=sU (i:=n%(xs6.length:Int)) A6 (cA _ (by omega)) (df _ (by omega))
  exact⟨_,.l e6,by omega,_,_,.l e6,hv,k row G6 ho S6⟩
inductive cL (Ad:Ads) (vs:List V) (H:Hp) (Q:VK) (E:XK):Prop
 | mk (b ca dn de:Addr) (es:List Ben) (al:List Nat) (ws:List Int) (r:Int) (x y:V) (q0:vs=[.ref b,x,y]) (q1:cY Ad H b ca dn de es) (q2:cP Ad H ca al ws r) (q3:bf al ws r) (q4:H Ad.tb=some (iz lg)) (q5:wu H x) (q6:JA es (cg al ws) y) (q7:es.length<=300) (q8:(∀ t n key,nO H es (cg al ws) x y t n key->∀ H',(∀ c o,c≠dn->c≠de->H c=some o->H' c=some o)->cY Ad H' b ca dn de (es++[⟨n,key,t⟩])->Q (.int n) H')) (q9:((∀ t n key,¬ nO H es (cg al ws) x y t n key)->∀ c∈Ad.mT,∀ H',aD H H'->E (.ref c) none H')):cL Ad vs H Q E
theorem qC:aL ["self","entry","number","given"] ["self","entry","number"] (ay da):=by subst_eqs
theorem qy (F:AU K "put" "Book.put" da f fd) (T:Bl mg) (AF:AdF K mg Ad) (CD:fd.code=.ref Ad.cd) (M_Book_choose:Mtd P w K mg base (CX1 P w) Ad.Book "choose" 4 ["self","entry","number","is_barred"] (iI Ad)):bI P w K mg base (CX1 P w) 5 f fd ["self","entry","number"] (cL Ad):=by
 refine F.okT (k:=4) CD qC ?_ (fun A outer s H vs Q E hr h=>?_)
 ·bv_decide
 ·obtain⟨b,ca,dn,de,es,al,ws,r,x,y,rfl,B,C,ok,Tb,hx,hy,h300,k,kE⟩:=h
  obtain⟨dx,h1⟩:=B.bk
  have hu:=hr.kP
  have hu1:=qp hr
  refine⟨_,ae (aB (i:=3) qC.nd (dA M_Book_choose aw (hr.mono (by decide)) (pvL 0) (af (pvL 1) (af (pvL 2) (af (Gx (q:=lg) (x:="k") rfl AF.t_tab (by kernel_rfl) rfl rfl (fun _ _ _ _=>rfl)) (aa)))))) (ae (xC hu1 (bW (K:=K) rfl (pvL 0)) (pvL 3) (pvL 1)) (ae (xC hu1 (bW (K:=K) rfl (pvL 0)) (pvL 1) (pvL 3)) (ak (aI (pvL 3))))),?_⟩
  grind
  refine⟨dx,_,h1,dw (by decide) (by decide) (by decide) ca dn de,Tb,fun f G1 z1 t1 Fb=>?_⟩
  refine⟨b,ca,dn,de,f,es,al,ws,r,x,y,rfl,B.same t1,C.same t1,ok,Fb,hx.same t1,hy,h300,fun t n key p G2 t2=>?_,fun hb c hc G2 t2=>kE (fun t n key p=>hb t n key (p.same t1)) c hc G2 (t1.trans t2)⟩
  have t02:=t1.trans t2
  have B2:=B.same t02
  obtain⟨dx2,h12⟩:=B2.bk
  have ex:=p.x
  subst ex
  have few:=p.few
  have pH:nO H es (cg al ws) (.ref t) y t n key:=by
   rcases hx with z | ⟨t',key',e,h',_⟩
   ·cases z
   ·cases e
    have:=t1 _ _ h'
    rw[p.h] at this
    rw[←Option.some.inj this] at h'
    exact⟨rfl,h',p.eo,p.nk,p.few,p.n0,p.n1,p.nn,p.y⟩
  cbv
  grind
  refine⟨_,dx2,_,_,h12,AF.c_Book,AF.n_Book_by_number,gD ca dn de,dn,_,rfl,.inl ⟨_,.inl n,B2.hn,rfl,by rw[xh];exact av (by omega),rfl⟩,?_⟩
  rw[AE (vt p.nn),show lE es++[((.inl n:Key),V.ref t)]=lE (es++[⟨n,key,t⟩]) from (BW es ⟨n,key,t⟩).symm]
  have hnb:dn≠b:=qx B2.hn h12 (by intro z;cases z)
  have heb:de≠b:=qx B2.he h12 (by intro z;cases z)
  have hne:dn≠de:=qx B2.hn B2.he (by intro z;cases z)
  have hdt:∀ {c:Addr}{xs:List V},G2 c=some (.tup xs)->c≠dn/\c≠de:=fun h=>⟨qx h B2.hn (by intro z;cases z),qx h B2.he (by intro z;cases z)⟩
  have k3:∀ c o,c≠dn->G2 c=some o->upd G2 dn (.dK (lE (es++[⟨n,key,t⟩]))) c=some o:=fun c o hc h=>by rw[aP hc];exact h
  have g3:upd G2 dn (.dK (lE (es++[⟨n,key,t⟩]))) dn=some (.dK (lE (es++[⟨n,key,t⟩]))):=aS
  generalize upd G2 dn (.dK (lE (es++[⟨n,key,t⟩])))=G3 at k3 g3
  cbv
  have ht2:=t2 _ _ p.h
  have hb3:=k3 _ _ hnb.symm h12
  grind
  refine⟨_,dx2,_,_,hb3,AF.c_Book,AF.n_Book_by_entry,pJ ca dn de,de,_,rfl,.inr ⟨_,key,t,k3 _ _ hne.symm B2.he,rfl,k3 _ _ (hdt ht2).1 ht2,by show (nU es).length<_;unfold nU;rw[aj];exact av (by omega),rfl⟩,?_⟩
  rw[AE (yo p.nk),show nU es++[(key,V.int n)]=nU (es++[⟨n,key,t⟩]) from (Bp es ⟨n,key,t⟩).symm]
  have k4:∀ c o,c≠de->G3 c=some o->upd G3 de (.dT (nU (es++[⟨n,key,t⟩]))) c=some o:=fun c o hc h=>by rw[aP hc];exact h
  have g4:upd G3 de (.dT (nU (es++[⟨n,key,t⟩]))) de=some (.dT (nU (es++[⟨n,key,t⟩]))):=aS
  generalize upd G3 de (.dT (nU (es++[⟨n,key,t⟩])))=G4 at k4 g4
  cbv
  and_intros
  refine k t n key pH G4 (fun c o h1 h2 h=>k4 _ _ h2 (k3 _ _ h1 (t02 _ _ h))) ⟨⟨dx2,k4 _ _ heb.symm hb3⟩,k4 _ _ hne g3,g4,fun e he=>?_,?_,?_⟩
  ·rcases bw.mp he with he | he
   ·have:=B2.en e he
    exact k4 _ _ (hdt this).2 (k3 _ _ (hdt this).1 this)
   ·rw[bt.mp he]
    exact k4 _ _ (hdt ht2).2 (k3 _ _ (hdt ht2).1 ht2)
  ·rw[cN];exact vp B.nn p.nn
  ·rw[cN];exact vp B.nk p.nk
theorem lZ (c:Nat):∀ (n:Nat) (seg l:List Nat),Mk.bZ c n seg l≠[]/\Mk.b7 c (Mk.bZ c n seg l)=seg++l
 | 0,seg,l=>⟨by simp [Mk.bZ],by simp [Mk.bZ,Mk.b7]⟩
 | n+1,seg,[]=>⟨by simp [Mk.bZ],by simp [Mk.bZ,Mk.b7]⟩
 | n+1,seg,x::l=>by
  unfold Mk.bZ
  split
  ·rename_i h
   obtain⟨h1,h2⟩:=lZ c n [] l
   refine⟨by simp,?_⟩
   cases e:Mk.bZ c n [] l with
   | nil=>exact absurd e h1
   | cons a q =>
    rw[e] at h2
    show seg++c::Mk.b7 c (a::q)=_
    rw[h2,h];rfl
  ·obtain⟨h1,h2⟩:=lZ c (n+1) (seg++[x]) l
   exact⟨h1,by rw[h2];simp⟩
theorem u6 {c:Nat}:∀ (ls:List (List Nat)) (w:List Nat),w∈ls->w.length<=(Mk.b7 c ls).length
 | [a],w,h=>by rw[bt.mp h];exact aA _
 | a::b::q,w,h=>by
  show _<=(a++c::Mk.b7 c (b::q)).length
  rw[ah,ag]
  rcases aH.mp h with rfl | h
  ·omega
  ·have:=u6 (c:=c) (b::q) w h;omega
theorem Dk (h:qM ps=some key) (w:List Nat):Mk.b7 32 (w::ps)=w++fH key/\key.length<=2/\∀ z,V.str z∈key.map kV->z.length<=6∨∃ y∈ps,z=tx y:=by
 unfold qM at h
 split at h
 ·cases h
  refine⟨rfl,by decide,fun z hz=>.inl ?_⟩
  cases bt.mp hz
  decide
 ·cases h
  rename_i y
  refine⟨by rw[fS];rfl,by simp,fun z hz=>?_⟩
  rcases aH.mp hz with hz | hz
  ·cases hz;exact .inl (by decide)
  ·cases bt.mp hz;exact .inr ⟨y,by simp,rfl⟩
 ·cases h
  rename_i y
  refine⟨by rw[fR];rfl,by simp,fun z hz=>?_⟩
  rcases aH.mp hz with hz | hz
  ·cases hz;exact .inl (by decide)
  ·cases bt.mp hz;exact .inr ⟨y,by simp,rfl⟩
 ·cases h
theorem xG {m:Ben} (ok:bf al ws r) (h:jt al ws m):∃ ps,Mk.bZ 32 2 [] (cz al ws r m)=wdL al ws r m.num::ps/\qM ps=some m.key:=by
 obtain⟨w1,w2,_⟩:=fz ok h.2.1 h.2.2
 have n32:32∉wdL al ws r m.num:=fun z=>by have:=w2 _ z;omega
 unfold cz
 rcases eQ h.1 with e | ⟨l,e,hl,_⟩ | ⟨l,e,hl,_⟩
 ·rw[e,show fH [.inr (Str.ofString "end")]=32::[46] from rfl,Mk.dC 1 _ _ _ n32,Mk.jo _ _ _ (by decide)]
  exact⟨_,rfl,rfl⟩
 ·rw[e,fS,show [32,61,32]++l=32::([61]++32::l) from rfl,Mk.dC 1 _ _ _ n32,Mk.dC 0 _ _ _ (by decide),Mk.bZ]
  exact⟨_,rfl,rfl⟩
 ·rw[e,fR,show [32,43,32]++l=32::([43]++32::l) from rfl,Mk.dC 1 _ _ _ n32,Mk.dC 0 _ _ _ (by decide),Mk.bZ]
  exact⟨_,rfl,rfl⟩
def xR (Ad:Ads):Sp:=fun vs H Q E=>∃ (p:Addr) (rows:List (List Nat)),vs=[.ref p]/\H p=some (.lst (rows.map fun l=>V.str (tx l)))/\rows≠[]/\(∀ l∈rows,l.length<=45000)/\H Ad.tb=some (iz lg) ∧
 (∀ b ca dn de es al ws r H',Rws rows al ws r es->aD H H'->H dn=none->H de=none->cY Ad H' b ca dn de es->cP Ad H' ca al ws r->Q (.ref b) H')/\((∀ al ws r ms,¬ Rws rows al ws r ms)->∀ c∈Ad.mT,∀ H',aD H H'->E (.ref c) none H')
theorem jV:aL ["rows","fields","code","book","row","parts"] ["rows"] (ay vQ):=by subst_eqs
theorem DZ (F:Fun K "built" "built" vQ f fd) (T:Bl mg) (AF:AdF K mg Ad) (C_entry_written:Fnc P w K mg base (CX1 P w) 1 "entry_written" ["parts"] jW) (C_code_written:Fnc P w K mg base (CX1 P w) 2 "code_written" ["words"] kW) (M_Book_put:Mtd P w K mg base (CX1 P w) Ad.Book "put" 5 ["self","entry","number"] (cL Ad)) (M_Code_number:Mtd P w K mg base (CX1 P w) Ad.Code "number" 4 ["self","word"] (gd Ad)) (K_Book:Mak P w K mg base (CX1 P w) Ad.Book "Book" 1 ["self","code"] (gc Ad)) (K_Code:Mak P w K mg base (CX1 P w) Ad.Code "Code" 4 ["self","alphabet","weights","rest"] (eF Ad)):bI P w K mg base (CX1 P w) 6 f fd ["rows"] (xR Ad):=by
 refine F.okX (k:=5) jV ?_ ?_
 ·bv_decide
 ·bv_normalize
  obtain⟨p,rows,rfl,hp,hne,hlen,Tb,k,kE⟩:=h
  refine⟨_,ae (aB (i:=1) jV.nd (aF C_code_written aw (hr.mono (by decide)) (af (dy (K:=K) rfl cV ki kj lD (cw (dE (K:=K) rfl) (pvL 0) (aq) (fun _ _=>rfl)) (af (au) (aa))) (aa)))) (ae (bK (bg sR (pvL 1) (fk) (bo _)) (ak (dB di AF.q_NoBook AF.g_NoBook du rfl (af (au) (aa)))) (aX)) (ae (aB (i:=2) jV.nd (jT K_Code aw (hr.mono (by decide)) (af (cw (dE (K:=K) rfl) (pvL 1) (aq) (fun _ _=>rfl)) (af (cw (dE (K:=K) rfl) (pvL 1) (aq) (fun _ _=>rfl)) (af (cw (dE (K:=K) rfl) (pvL 1) (aq) (fun _ _=>rfl)) (aa)))))) (ae (aB (i:=3) jV.nd (jT K_Book aw (hr.mono (by decide)) (af (pvL 2) (aa)))) (ae (fK cO rfl (cF (K:=K) rfl (bX (eP (K:=K) rfl) (pvL 0) (cB (aq)) (cH))) (aV (i:=4) jV.nd) (ae (aB (i:=5) jV.nd (dy (K:=K) rfl cV ki kj BV (pvL 4) (af (au) (af (aq) (aa))))) (ak (gO (dA M_Book_put aw (hr.mono (by decide)) (pvL 3) (af (aF C_entry_written aw (hr.mono (by decide)) (af (bX (eP (K:=K) rfl) (pvL 5) (cB (aq)) (cH)) (aa))) (af (dA M_Code_number aw (hr.mono (by decide)) (pvL 2) (af (cw (dE (K:=K) rfl) (pvL 5) (aq) (fun _ _=>rfl)) (aa))) (aa)))))))) (ak (aI (pvL 3))))))),?_⟩
  have big:∀ {u:Nat},u<=1000->u<=sizeLine:=fun hu=>aN (av (by omega))
  obtain⟨l0,ls,rfl⟩:∃ l0 ls,rows=l0::ls:=by cases rows with | nil=>exact absurd rfl hne | cons a b=>exact⟨a,b,rfl⟩
  grind
  refine⟨_,_,.l hp,bB (j:=0) rfl,?_⟩
  show tyV K "str" (V.str (tx l0)) H/\_
  and_intros
  have h0:=hlen l0 aR
  refine⟨rfl,by rw[aJ];omega,32,rfl,fun p1 H1 hp1 s1 g1=>?_⟩
  rw[b0] at g1
  obtain⟨sl,dl⟩:=Mk.gK (c:=32) l0
  refine⟨p1,_,rfl,g1,(fun l hl=>by have:=dl l hl;omega),fun al ws r cd t q H2 s2 g2 g3=>?_,fun hcd H2 s2=>?_⟩
  rotate_left
  ·cbv
   grind
   exact⟨by decide,kE (fun al ws r ms R=>by have e:=R.eq;injection e with e1 _;exact hcd al _ _ (by rw[e1];exact uY R.ok)) _ (by simp [Ads.mT]) H2 (s1.trans s2)⟩
  cbv
  grind
  cbv
  grind
  refine⟨_,_,.t g2,bB (j:=0) rfl,_,_,.t g2,bB (j:=1) rfl,_,_,.t g2,bB (j:=2) rfl,?_⟩
  intro ca dc H3 hca hdc _ s3 hi ho
  have erow:=Ii cd
  have s03:=s1.trans (s2.trans s3)
  have al5:al.length<=50000:=by have:=dl al (by rw[cd.eq];simp);omega
  have wl:ws.length<=50000:=by
   have h1:=(Mk.gK (c:=44) (Mk.b7 44 (ws.map Mk.dgN))).1
   rw[nS cd.ne cd.wf,aj] at h1
   have:=dl (Mk.b7 44 (ws.map Mk.dgN)) (by rw[cd.eq];simp)
   omega
  refine⟨ca,dc,.str (tx al),.ref q,.int r,.str,.lst,.int,rfl,hi,rfl,(by show i3 (H3 q)=_;rw[s3 _ _ g3];rfl),rfl,(fun z e=>by cases e;rw[aJ];exact al5),(fun p' o u e z=>by cases e;rw[s3 _ _ g3] at z;cases z),(fun p' xs e z=>by
   cases e
   rw[s3 _ _ g3] at z
   cases z
   refine⟨by rw[aj];exact wl,fun y hy=>?_⟩
   obtain⟨w,_,rfl⟩:=aM.mp hy
   exact⟨.int,rfl⟩),fun bad H4 s4=>?_,fun al' p' ws' r' made q4 H4 hq4 kp4 ha4 hq5=>⟨rfl,?_⟩⟩
  ·refine kE (fun al2 ws2 r2 ms R=>?_) _ (by simp [Ads.mT]) H4 (s03.trans s4)
   have e:=R.eq
   injection e with e1 _
   have c2:=uY R.ok
   rw[←e1] at c2
   obtain⟨rfl,rfl,rfl⟩:=cd.uniq c2
   have rn:=R.ok.rm
   refine bad al2 q ws2 r2 ⟨rfl,rfl,?_,by rw[md rn.1],R.ok⟩
   rw[s3 _ _ g3,show (ws2.map Int.toNat).map (fun w:Nat=>V.int w)=((ws2.map Int.toNat).map (fun w:Nat=>(w:Int))).map V.int from (aK ..).symm,tO fun w hw=>(R.ok.wm w hw).1]
  obtain⟨e1,e2,e3,e4,ok⟩:=made
  have e1':=dG (V.str.inj e1)
  subst e1'
  cases e2
  cases e4
  rw[s3 _ _ g3] at e3
  have e3':ws.map (fun w:Nat=>(w:Int))=ws':=by
   have h:ws.map (fun w:Nat=>V.int w)=ws'.map V.int:=by injection e3 with h;injection h
   exact map_inj (fun a b e=>V.int.inj e) (by rw[←h,aK];rfl)
  rw[e3'] at erow
  clear e3 e3' e1
  generalize (r:Int)=r0 at ok ha4 erow
  subst erow
  have C4:cP Ad H4 ca al ws' r0:=⟨dc,q4,ha4,hq5⟩
  have s4:aD H2 H4:=fun c o e=>kp4 c o (b8 e hca) (s3 _ _ e)
  cbv
  have s04:=s1.trans (s2.trans s4)
  grind
  intro b bx G0 hb hbx hbb t0 g0 g0x
  refine⟨b,bx,ca,rfl,g0,fun dn de G1 hdn hde ne1 ne2 ne3 k1 g1 gn ge=>⟨rfl,?_⟩⟩
  have t01:aD H4 G1:=fun x o e=>k1 x o (fun z=>by rw[z,hb] at e;cases e) (t0 _ _ e)
  have B1:cY Ad G1 b ca dn de []:=⟨⟨bx,g1⟩,gn,ge,(fun e he=>by cases he),.nil,.nil⟩
  have hdn0:H4 dn=none:=t0.free hdn
  have hde0:H4 de=none:=t0.free hde
  cbv
  grind
  have sp1:=s04.trans t01
  refine⟨_,.of (sp1 _ _ hp),fun p5 G2 hp5 t2 g5=>?_⟩
  rw[show kZ _ (some 1) none=_ from eN _ 1,aQ,List.drop_one,List.tail_cons] at g5
  have n5n:p5≠dn:=fun z=>by rw[z,gn] at hp5;cases hp5
  have n5e:p5≠de:=fun z=>by rw[z,ge] at hp5;cases hp5
  have kE':∀ {i:Nat}{l:List Nat}{es:List Ben},ls[i]?=some l->es.map nk=es.map nk->(ls.take i)=es.map (cz al ws' r0)->(∀ e∈es,jt al ws' e)->(∀ m:Ben,jt al ws' m->cz al ws' r0 m=l->m.key∉es.map (·.key)->m.num∉es.map (·.num)->es.length<300->False)->∀ c∈Ad.mT,∀ G,aD H4 G->E (.ref c) none G:=by
   intro i l es hl _ het hen hno c hc G sG
   refine kE (fun al2 ws2 r2 ms R=>?_) c hc G (s04.trans sG)
   have e:=R.eq
   injection e with e1 e2
   obtain⟨rfl,rfl,rfl⟩:=i5 ok R.ok e1
   have hl2:=hl
   rw[e2,bY] at hl2
   obtain⟨m,hm,em⟩:=fB.mp hl2
   have hil:=(b9.mp hm).1
   rw[e2,←List.map_take] at het
   have enk:=rO ok (fun m hm=>R.mo.en m (iU hm)) hen het
   have hne:∀ {β:Type} (f:Ben->β),(ms.map f).Nodup->f m∉(ms.take i).map f:=fun f nd h=>by
    rw[←List.take_append_drop i ms,cN,List.nodup_append] at nd
    refine nd.2.2 _ h _ ?_ rfl
    rw[List.drop_eq_getElem_cons hil,aQ,(b9.mp hm).2]
    exact aR
   refine hno m (R.mo.en m (br hm)) em ?_ ?_ ?_
   ·rw[←IJ enk];exact hne _ R.mo.nk
   ·rw[←yW enk];exact hne _ R.mo.nn
   ·have:=aG List.length enk
    rw[aj,aj,bR] at this
    have:=R.mo.few
    omega
  refine .inl ⟨⟨_,.of g5⟩,jP (xs:=ls.map fun l=>V.str (tx l)) (fun i σ G=>(∃ o4 o5,σ=[some (V.ref p),some (V.ref t),some (V.ref ca),some (V.ref b),o4,o5])/\(∀ c o,c≠dn->c≠de->G2 c=some o->G c=some o)/\∃ es,cY Ad G b ca dn de es/\es.length<=300/\(∀ e∈es,jt al ws' e)/\ls.take i=es.map (cz al ws' r0)) ?_ ?_ ?_ ?_⟩
  ·exact⟨⟨_,_,rfl⟩,(fun c o _ _ e=>e),[],B1.same t2,by decide,(fun e he=>by cases he),rfl⟩
  ·rintro i σ G _ ⟨_,kp,_⟩
   exact .of (kp _ _ n5n n5e g5)
  ·rintro i v σ G3 hi' ⟨⟨o4,o5,rfl⟩,kp,es,B,e300,hen,het⟩ N hNx
   clear hN
   rw[bY] at hi'
   obtain⟨l,hl,rfl⟩:=fB.mp hi'
   have hll:=hlen l (bb _ (br hl))
   have sG:aD H4 G3:=fun c o e=>kp c o (fun z=>by rw[z,hdn0] at e;cases e) (fun z=>by rw[z,hde0] at e;cases e) (t2 _ _ (t01 _ _ e))
   show Cq _ _ _ [some (V.ref p),some (V.ref t),some (V.ref ca),some (V.ref b),some (V.str (tx l)),o5] _
   refine ft fun n2 hM=>?_
   and_intros
   refine⟨rfl,by rw[aJ];omega,by decide,by decide,32,rfl,fun pp G4 hpp t4 g4=>?_⟩
   obtain⟨ne0,ej⟩:=lZ 32 2 [] l
   rw[b0,show (2:Int).toNat=2 from rfl] at g4
   obtain⟨w,ps,es0⟩:∃ w ps,Mk.bZ 32 2 [] l=w::ps:=by cases e:Mk.bZ 32 2 [] l with | nil=>exact absurd e ne0 | cons a q=>exact⟨a,q,rfl⟩
   rw[es0] at g4 ej
   rw[kg] at ej
   have pl:∀ y∈w::ps,y.length<=45000:=fun y hy=>by have:=u6 (c:=32) (w::ps) y hy;rw[ej] at this;omega
   rw[hM]
   clear hM n2
   have B4:=B.same t4
   obtain⟨dx,hb4⟩:=B4.bk
   and_intros
   refine⟨dx,_,hb4,dw (by decide) (by decide) (by decide) ca dn de,_,.of g4,fun p6 G6 hp6 t6 g6=>?_⟩
   rw[show kZ _ (some 1) none=_ from eN _ 1,aQ,List.drop_one,List.tail_cons] at g6
   have go:∀ (x:V) (G7:Hp),aD G6 G7->(qM ps=none/\x=.non∨∃ (t7:Addr) (key:List Key),qM ps=some key/\x=.ref t7/\G7 t7=some (.tup (key.map kV)))->∃ dx fs,G7 ca=some (.ins Ad.Code dx fs)/\List.lookup (Str.ofString "number") fs=none/\∃ xs v,Sq K G7 pp xs/\atI xs 0=some v ∧
     gd Ad [V.ref ca,v] G7 (fun y H1=>cL Ad [V.ref b,x,y] H1 (fun _ H1=>N [some (V.ref p),some (V.ref t),some (V.ref ca),some (V.ref b),some (V.str (tx l)),some (V.ref pp)] H1) E) E:=by
    intro x G7 t67 hx
    have s47:=t6.trans t67
    have sG7:=sG.trans (t4.trans s47)
    have C7:=C4.same sG7
    obtain⟨dc7,qc7,hc71,hc72⟩:=id C7
    refine⟨dc7,_,hc71,bG (by decide) (by decide) (by decide) al qc7 r0,_,_,.l (s47 _ _ g4),bB (j:=0) rfl,ca,al,ws',r0,V.str (tx w),.str,rfl,C7,ok,rfl,(fun z e=>by cases e;rw[aJ];have:=pl w aR;omega),(fun hg G8 t8=>?_),fun z e hg G8 t8=>?_⟩
    ·refine kE' hl rfl het hen (fun m hm em _ _ _=>?_) _ (by simp [Ads.mT]) G8 (sG7.trans t8)
     obtain⟨ps',e1,_⟩:=xG ok hm
     rw[em,es0] at e1
     injection e1 with e1 _
     have hw:=(fz ok hm.2.1 hm.2.2).2.2.1
     rw[←e1] at hw
     have:Mk.fe (tx al).cps.toList ws' r0 (tx w).cps.toList=false:=hg
     rw[b0,b0,hw] at this
     cases this
    ·cases e
     rw[b0] at hg ⊢
     obtain⟨n0,n1,en⟩:=FX ok hg
     have s48:=t4.trans (s47.trans t8)
     have sG8:=sG7.trans t8
     have hth:wu G8 x:=by
      rcases hx with ⟨_,rfl⟩ | ⟨t7,key,ek,rfl,g7⟩
      ·exact .inl rfl
      ·obtain⟨_,k2,k3⟩:=Dk ek w
       refine .inr ⟨t7,key,rfl,t8 _ _ g7,k2,fun z hz=>?_⟩
       rcases k3 z hz with h | ⟨y,hy,rfl⟩
       ·omega
       ·rw[aJ];have:=pl y (bb _ hy);omega
     refine⟨b,ca,dn,de,es,al,ws',r0,x,_,rfl,B.same s48,C4.same sG8,ok,sG8 _ _ (s04 _ _ Tb),hth,.inl ⟨_,rfl,n0,n1⟩,e300,fun t7 n key po G9 kp9 B9=>?_,fun hno c hc G9 t9=>?_⟩
     ·have ex:=po.x
      subst ex
      rcases hx with ⟨_,z⟩ | ⟨t7',key',ek,z,g7⟩
      ·cases z
      cases z
      have hk:=t8 _ _ g7
      rw[po.h] at hk
      have hk2:key=key':=by injection hk with hk;injection hk with hk;exact nZ hk
      subst hk2
      have hn:Mk.numOf al.length (Mk.plc al w.dropLast)=n:=by
       rcases po.y with z | ⟨z,_⟩
       ·cases z;rfl
       ·cases z
      rw[hn] at en
      have erow:l=cz al ws' r0 ⟨n,key,t7⟩:=by
       rw[←ej,(Dk ek w).1]
       show w++fH key=wdL al ws' r0 n++fH key
       rw[en]
      refine hNx _ _ ⟨⟨_,_,rfl⟩,(fun c o h1 h2 e=>kp9 c o h1 h2 (s48 _ _ (kp c o h1 h2 e))),_,B9,?_,?_,?_⟩
      ·rw[ah];have:=po.few;simp only[ag,ax];omega
      ·intro e he
       rcases bw.mp he with he | he
       ·exact hen e he
       ·rw[bt.mp he];exact⟨po.eo,po.n0,po.n1⟩
      ·rw[m4,hl,het,cN]
       show _++[l]=_++[_]
       rw[erow]
     ·refine kE' hl rfl het hen (fun m hm em k1 k2 k3=>?_) c hc G9 (sG8.trans t9)
      obtain⟨ps',e1,e2⟩:=xG ok hm
      rw[em,es0] at e1
      injection e1 with e1 e3
      subst e3
      have wn:=(fz ok hm.2.1 hm.2.2).2.2.2
      rw[←e1] at wn
      rcases hx with ⟨z,_⟩ | ⟨t7,key,ek,rfl,g7⟩
      ·rw[e2] at z;cases z
      rw[e2] at ek
      cases ek
      exact hno t7 _ m.key ⟨rfl,t8 _ _ g7,hm.1,k1,k3,n0,n1,by rw[wn];exact k2,.inl rfl⟩
   exact⟨p6,ps,rfl,g6,fun en G7 t67=>go .non G7 t67 (.inl ⟨en,rfl⟩),fun key ek t7 G7 ht7 t67 g7=>go (.ref t7) G7 t67 (.inr ⟨t7,key,ek,rfl,g7⟩)⟩
  ·rintro σ G3 ⟨⟨o4,o5,rfl⟩,kp,es,B,e300,hen,het⟩
   show nn _ _ _
   cbv
   rw[aj,dZ (aA _)] at het
   have sG:aD H4 G3:=fun c o e=>kp c o (fun z=>by rw[z,hdn0] at e;cases e) (fun z=>by rw[z,hde0] at e;cases e) (t2 _ _ (t01 _ _ e))
   and_intros
   exact k b ca dn de es al ws' r0 G3 ⟨ok,⟨e300,hen,B.nn,B.nk⟩,by rw[het]⟩ (s04.trans sG) (s04.free hdn0) (s04.free hde0) B (C4.same sG)
theorem Fc {S L:List Nat}{j:Nat}{c:Nat} (h:(S++L).Perm (List.range' 97 26)) (hj:L[j]?=some c):((S++[c])++(L.take j++L.drop (j+1))).Perm (List.range' 97 26):=by
 have e:L=L.take j++c::L.drop (j+1):=by
  obtain⟨hl,e⟩:=b9.mp hj
  rw[←e,List.getElem_cons_drop,List.take_append_drop]
 refine List.Perm.trans ?_ h
 conv=>rhs;rw[e]
 rw[gU]
 exact List.Perm.append_left S (by
  rw[List.singleton_append]
  exact List.perm_middle.symm)
def qI (K:PySem.W.Frag) (Ad:Ads):Sp:=fun vs H Q _=>∃ (a:Addr) (ns:List Int),vs=[.ref a]/\SqL K H a (ns.map V.int)/\∀ ca al ws r H',aD H H'->cP Ad H' ca al ws r->bf al ws r->Q (.ref ca) H'
theorem bT:aL ["_law_script","_law_left","_law_number","_law_m","_law_size","_law_signs","_law_k","_law_at","_law_weights","_law_one"] ["_law_script"] (ay nE):=by subst_eqs
theorem xo (F:Fun K "_law_code" "_law_code" nE f fd) (T:Bl mg) (AF:AdF K mg Ad) (C_law_weight:Fnc P w K mg base (CX1 P w) 2 "_law_weight" ["_law_weights","_law_m","_law_number"] mX) (C_law_mixed:Fnc P w K mg base (CX1 P w) 1 "_law_mixed" ["_law_cell"] iy) (C_law_cell_at:Fnc P w K mg base (CX1 P w) 1 "_law_cell_at" ["_law_script","_law_k"] (gf K)) (K_Code:Mak P w K mg base (CX1 P w) Ad.Code "Code" 4 ["self","alphabet","weights","rest"] (eF Ad)):bI P w K mg base (CX1 P w) 6 f fd ["_law_script"] (qI K Ad):=by
 refine F.okX (k:=5) bT ?_ ?_
 ·bv_decide
 ·bv_normalize
  obtain⟨a,ns,rfl,hS,k⟩:=h
  refine⟨_,ae (aB (i:=1) bT.nd (au)) (ae (aB (i:=2) bT.nd (aF C_law_mixed aw (hr.mono (by decide)) (af (aF C_law_cell_at aw (hr.mono (by decide)) (af (pvL 0) (af (aq) (aa)))) (aa)))) (ae (aB (i:=3) bT.nd (az a9 (aq) (az rB (aq) (az bC (pvL 2) (aq))))) (ae (aB (i:=4) bT.nd (az a9 (aq) (az bC (az ck (pvL 2) (aq)) (aq)))) (ae (aB (i:=2) bT.nd (az ck (pvL 2) (aq))) (ae (aB (i:=5) bT.nd (au)) (ae (fK cO rfl (fJ T.range (af (pvL 3) (aa))) (aV (i:=6) bT.nd) (ae (aB (i:=7) bT.nd (az bC (pvL 2) (a8 (aY (K:=K) rfl) T.len bQ (af (pvL 1) (aa))))) (ae (aB (i:=2) bT.nd (az ck (pvL 2) (a8 (aY (K:=K) rfl) T.len bQ (af (pvL 1) (aa))))) (ae (aB (i:=5) bT.nd (az a9 (pvL 5) (cw (dE (K:=K) rfl) (pvL 1) (pvL 7) (fun _ _=>rfl)))) (ak (aB (i:=1) bT.nd (az a9 (bX (eP (K:=K) rfl) (pvL 1) (cH) (cB (pvL 7))) (bX (eP (K:=K) rfl) (pvL 1) (cB (az a9 (pvL 7) (aq))) (cH))))))))) (ae (aB (i:=8) bT.nd (bF (aa))) (ae (fK cO rfl (fJ T.range (af (pvL 4) (aa))) (aV (i:=6) bT.nd) (ae (sW (aF C_law_weight aw (hr.mono (by decide)) (af (pvL 8) (af (pvL 3) (af (pvL 2) (aa))))) (ow (K:=K) (n:=2) rfl rfl (cG (aV (i:=9) bT.nd) (cG (aV (i:=2) bT.nd) (iu))))) (ak (gO (dy (K:=K) rfl kh m7 m8 i6 (pvL 8) (af (pvL 9) (aa))))))) (ak (aI (jT K_Code aw (hr.mono (by decide)) (af (pvL 5) (af (pvL 8) (af (az bC (pvL 2) (pvL 3)) (aa))))))))))))))),?_⟩
  have big:∀ {u:Nat},u<=1000->u<=sizeLine:=fun hu=>aN (av (by omega))
  grind
  cbv
  grind
  refine⟨a,ns,0,rfl,hS,by decide,?_⟩
  generalize ns.getD (0:Int).toNat 0=c0
  refine⟨c0,rfl,?_⟩
  have n0:0<=sv c0:=vo c0
  generalize sv c0=num at n0
  cbv
  grind
  refine⟨by decide,.inl (by decide),?_⟩
  obtain⟨m,em⟩:=cC (a:=3+2*(num%12)) (by omega)
  have m3:3<=m:=by omega
  have m25:m<=25:=by omega
  have mo:m%2=1:=by omega
  rw[em]
  cbv
  grind
  refine⟨⟨by decide,by decide⟩,by decide,?_⟩
  obtain⟨z,ez⟩:=cC (a:=3+num/12%6) (by omega)
  have z3:3<=z:=by omega
  have z8:z<=8:=by omega
  rw[ez]
  cbv
  grind
  refine⟨⟨by decide,by decide⟩,?_⟩
  have n1:0<=num/72:=by omega
  generalize num/72=nu at n1
  clear em ez n0
  cbv
  grind
  cbv
  grind
  refine⟨by omega,by omega,nX (fun i σ H'=>H'=H/\∃ (L S:List Nat) (n:Int) (o6 o7:Option V),σ=[some (V.ref a),some (V.str (tx L)),some (V.int n),some (V.int m),some (V.int z),some (V.str (tx S)),o6,o7,none,none]/\0<=n/\S.length=i/\(S++L).Perm (List.range' 97 26)) ?_ ?_ ?_⟩
  ·exact⟨rfl,List.range' 97 26,[],nu,_,_,rfl,n1,rfl,List.Perm.refl _⟩
  ·rintro i σ _ hi ⟨rfl,L,S,n,o6,o7,rfl,hn,hSl,hpm⟩ N hNx
   clear hN
   have hi':i<m:=by omega
   have ll:S.length+L.length=26:=by have:=hpm.length_eq;rw[ah,List.length_range'] at this;exact this
   have i0:=cA n (b:=(L.length:Int)) (by omega)
   have i1:=df n (b:=(L.length:Int)) (by omega)
   obtain⟨j,ej⟩:=cC i0
   have hat:L[j]?=some (L[j]'(by omega)):=bu _
   generalize L[j]'(by omega)=c at hat
   refine ft fun n2 hM=>?_
   and_intros
   rw[aJ]
   refine⟨big (by omega),by omega,?_⟩
   rw[ej]
   rw[hM]
   clear hM n2
   refine ft fun n2 hM=>?_
   and_intros
   rw[aJ]
   refine⟨big (by omega),⟨by omega,Int.lt_trans (show (L.length:Int)<1000 by omega) (by decide)⟩,?_⟩
   rw[hM]
   clear hM n2
   refine ft fun n2 hM=>?_
   and_intros
   simp only[aJ,b0]
   refine⟨big (by omega),c,uR (by omega) (by rw[Int.toNat_natCast];exact hat),?_⟩
   rw[show (⟨#[c]⟩:Str)=tx [c] from rfl]
   simp only[aJ,cy]
   refine⟨big (by simp;omega),?_⟩
   rw[hM]
   clear hM n2
   and_intros
   have e1:(j:Int)+1=((j+1:Nat):Int):=rfl
   simp only[aJ,b0,e1,pM,mE,cy]
   refine⟨big (by omega),big (by omega),big (by simp;omega),hNx _ _ ⟨rfl,_,_,_,_,_,rfl,ma hn (by omega),by rw[ah,hSl];rfl,Fc hpm hat⟩⟩
  rintro σ H ⟨rfl,L,S,n,o6,o7,rfl,hn,hSl,hpm⟩
  show nn _ _ _
  cbv
  have snd:S.Nodup:=(List.nodup_append.mp (hpm.nodup_iff.mpr List.nodup_range')).1
  have smem:∀ c∈S,97<=c/\c<123:=fun c hc=>by
   have:=hpm.mem_iff.mp (fA L hc)
   rw[List.mem_range'] at this
   obtain⟨i,hi,rfl⟩:=this
   omega
  have sl:S.length=m:=by omega
  clear hpm
  grind
  refine⟨bN _,fun D H1 hD s1 h1=>?_⟩
  cbv
  grind
  refine⟨by omega,by omega,nX (fun i σ H'=>∃ (fnd:List Int) (n:Int) (o6 o9:Option V),σ=[some (V.ref a),some (V.str (tx L)),some (V.int n),some (V.int m),some (V.int z),some (V.str (tx S)),o6,o7,some (V.ref D),o9]/\aD H H'/\H' D=some (.lst (fnd.map V.int))/\fnd.length=i/\0<=n/\(∀ x∈fnd,0<=x/\x<(m:Int))/\Mk.safe m fnd=true) ?_ ?_ ?_⟩
  ·exact⟨[],n,_,_,rfl,s1,h1,rfl,hn,(fun x hx=>by cases hx),rfl⟩
  ·rintro i σ H2 hi ⟨fnd,n,o6,o9,rfl,s2,h2,fl,hn2,hb,hs⟩ N hNx
   clear hN
   have hi':i<z:=by omega
   refine ft fun n2 hM=>?_
   and_intros
   refine⟨D,fnd,m,n,rfl,h2,by omega,m3,by omega,mo,hn2,hb,hs,fun q x n' H3 hq s3 h3 x1 x2 n'0=>?_⟩
   and_intros
   refine⟨_,.inl (.of h3),rfl,?_⟩
   and_intros
   rw[hM]
   clear hM n2
   have h23:=s3 _ _ h2
   and_intros
   refine⟨.inl ⟨rfl,_,.of h23⟩,D,_,_,rfl,rfl,h23,by rw[aj];exact av (by omega),hNx _ _ ⟨fnd++[x],_,_,_,rfl,(s2.trans s3).fi hD,by rw[aS,cN];rfl,by rw[ah,fl];rfl,n'0,fun y hy=>?_,x2⟩⟩
   rcases bw.mp hy with hy | hy
   ·exact hb y hy
   ·rw[bt.mp hy];exact x1
  rintro σ H2 ⟨fnd,n,o6,o9,rfl,s2,h2,fl,hn2,hb,hs⟩
  show nn _ _ _
  cbv
  have r0:=cA n (b:=(m:Int)) (by omega)
  have r1:=df n (b:=(m:Int)) (by omega)
  have ok:bf S fnd (n%(m:Int)):=⟨by omega,by omega,snd,smem,by omega,by omega,by rw[sl];exact hb,by rw[sl];exact hs,r0,by rw[sl];exact r1⟩
  and_intros
  refine⟨by omega,fun ca cd H3 hca hcd hcc s3 h3a h3d=>?_⟩
  refine uy h3a (s3 _ _ h2) ok fun H4 s4 c4=>⟨rfl,k ca S fnd _ H4 (fun b o e=>?_) c4 ok⟩
  have hb:b≠ca:=fun e2=>by rw[←e2,s2 _ _ e] at hca;cases hca
  exact s4 b o hb (s3 _ _ (s2 _ _ e))
theorem zk {Ad:Ads}{b ca dn de t:Addr}{es:List Ben}{r n:Int}{y:V}{Q:VK}{E:XK} (B:cY Ad H b ca dn de es) (C:cP Ad H ca al ws r) (ok:bf al ws r) (Tb:H Ad.tb=some (iz lg)) (ht:H t=some (.tup (key.map kV))) (eo:i7 key) (hk:key∉es.map (·.key)) (h300:es.length<300)
  (n0:0<=n) (n1:n<cg al ws) (hnn:n∉es.map (·.num)) (hy:y=.int n∨(y=.non/\pG (es.map (·.num)) n)) (k:∀ H',(∀ c o,c≠dn->c≠de->H c=some o->H' c=some o)->cY Ad H' b ca dn de (es++[⟨n,key,t⟩])->Q (.int n) H'):cL Ad [.ref b,.ref t,y] H Q E:=by
 refine⟨b,ca,dn,de,es,al,ws,r,.ref t,y,rfl,B,C,ok,Tb,.inr ⟨t,key,rfl,ht,eo.few,eo.short⟩,hy.imp (fun e=>⟨n,e,n0,n1⟩) (fun e=>⟨e.1,n,e.2,n0,n1⟩),aN h300,fun t' n' key' p H' kp BB=>?_,fun hno=>absurd ⟨rfl,ht,eo,hk,h300,n0,n1,hnn,hy⟩ (hno t n key)⟩
 have e:=p.x
 cases e
 have e2:=p.h
 rw[ht] at e2
 have e3:key=key':=by injection e2 with e2;injection e2 with e2;exact nZ e2
 subst e3
 have e4:n'=n:=by
  rcases hy with rfl | ⟨rfl,L⟩
  ·rcases p.y with z | ⟨z,_⟩
   ·cases z;rfl
   ·cases z
  ·rcases p.y with z | ⟨_,L'⟩
   ·cases z
   ·rcases Int.lt_trichotomy n' n with h | h | h
    ·exact absurd (L.2.2 n' L'.1 h) L'.2.1
    ·exact h
    ·exact absurd (L'.2.2 n L.1 h) L.2.1
 subst e4
 exact k H' kp BB
inductive jH (K:PySem.W.Frag) (Ad:Ads) (vs:List V) (H:Hp) (Q:VK) (E:XK):Prop
 | mk (ca cl:Addr) (al:List Nat) (ws:List Int) (r:Int) (ns:List Int) (st:Int) (q0:vs=[.ref ca,.ref cl,.int st]) (q1:cP Ad H ca al ws r) (q2:bf al ws r) (q3:H Ad.tb=some (iz lg)) (q4:SqL K H cl (ns.map V.int)) (q5:ns.length<=62) (q6:∀ b dn de es H',aD H H'->cY Ad H' b ca dn de es->es.length<=ns.length->(∀ e∈es,i7 e.key/\0<=e.num/\e.num<cg al ws)->Q (.ref b) H'):jH K Ad vs H Q E
theorem dR:aL ["_law_code_here","_law_cells","_law_start","_law_book","_law_k","_law_cell","_law_number","_law_entry_here","_law_place"] ["_law_code_here","_law_cells","_law_start"] (ay kG):=by subst_eqs
theorem tY (F:Fun K "_law_filled" "_law_filled" kG f fd) (T:Bl mg) (AF:AdF K mg Ad) (C_law_entry:Fnc P w K mg base (CX1 P w) 3 "_law_entry" ["_law_number"] oP) (C_law_mixed:Fnc P w K mg base (CX1 P w) 1 "_law_mixed" ["_law_cell"] iy) (M_Book_entries:Mtd P w K mg base (CX1 P w) Ad.Book "entries" 1 ["self"] (fF Ad)) (M_Code_many:Mtd P w K mg base (CX1 P w) Ad.Code "many" 1 ["self"] (eG Ad)) (M_Book_number:Mtd P w K mg base (CX1 P w) Ad.Book "number" 4 ["self","entry"] (iJ Ad)) (M_Book_entry:Mtd P w K mg base (CX1 P w) Ad.Book "entry" 3 ["self","number"] (jG Ad)) (M_Book_put:Mtd P w K mg base (CX1 P w) Ad.Book "put" 5 ["self","entry","number"] (cL Ad)) (D_Book_put:HH P w K mg base (CX1 P w) Ad.Book "put" 5 ["self","entry","number"] (cL Ad)) (K_Book:Mak P w K mg base (CX1 P w) Ad.Book "Book" 1 ["self","code"] (gc Ad)):bI P w K mg base (CX1 P w) 6 f fd ["_law_code_here","_law_cells","_law_start"] (jH K Ad):=by
 refine F.okX (k:=5) dR ?_ ?_
 ·bv_decide
 ·bv_normalize
  obtain⟨ca,cl,al,ws,r,ns,st,rfl,C,ok,Tb,hS,hlen,k⟩:=h
  refine⟨_,ae (aB (i:=3) dR.nd (jT K_Book aw (hr.mono (by decide)) (af (pvL 0) (aa)))) (ae (fK cO rfl (Ew (K:=K) rfl T.enumerate (af (pvL 1) (aa))) (rC (K:=K) (n:=2) rfl rfl (cG (aV (i:=4) dR.nd) (cG (aV (i:=5) dR.nd) (iu)))) (ae (aB (i:=6) dR.nd (aF C_law_mixed aw (hr.mono (by decide)) (af (az a9 (az a9 (az rB (aq) (pvL 5)) (pvL 2)) (pvL 4)) (aa)))) (ae (aB (i:=7) dR.nd (aF C_law_entry aw (hr.mono (by decide)) (af (az ck (pvL 6) (aq)) (aa)))) (ak (bK ((lG (bg sR (dA M_Book_number aw (hr.mono (by decide)) (pvL 3) (af (pvL 7) (aa))) (fk) (bo _)) (jf (bg vJ (a8 (aY (K:=K) rfl) T.len bQ (af (cc M_Book_entries aw (hr.mono (by decide)) (pvL 3)) (aa))) (cc M_Code_many aw (hr.mono (by decide)) (pvL 0)) (bo _)))).pt) (ae (aB (i:=8) dR.nd (az bC (cw (dE (K:=K) rfl) (bF (af (az ck (pvL 6) (aq)) (af (az bC (az ck (pvL 6) (aq)) (aq)) (aa)))) (az bC (pvL 6) (aq)) (fun _ _=>rfl)) (cc M_Code_many aw (hr.mono (by decide)) (pvL 0)))) (ak (bK ((lG (bg sR (dA M_Book_entry aw (hr.mono (by decide)) (pvL 3) (af (pvL 8) (aa))) (fk) (bo _)) (jf (bg k8 (az bC (pvL 6) (aq)) (aq) (bo _)))).pt) (ak (gO (dA M_Book_put aw (hr.mono (by decide)) (pvL 3) (af (pvL 7) (af (pvL 8) (aa)))))) (ak (gO (Es D_Book_put aw (hr.mono (by decide)) (pvL 3) (af (pvL 7) (aa)))))))) (aX)))))) (ak (aI (pvL 3)))),?_⟩
  have big:∀ {u:Nat},u<=1000->u<=sizeLine:=fun hu=>aN (av (by omega))
  have a3:=ok.a3
  have a26:=ok.a26
  have w3:=ok.w3
  have w8:=ok.w8
  have hpos:0<cg al ws:=Int.pow_pos (by omega)
  grind
  intro b bx G0 hb hbx hbb t0 g0 g0x
  refine⟨b,bx,ca,rfl,g0,fun dn de G1 hdn hde ne1 ne2 ne3 k1 g1 gn ge=>⟨rfl,?_⟩⟩
  have s1:aD H G1:=fun x o e=>k1 x o (fun z=>by rw[z,hb] at e;cases e) (t0 _ _ e)
  have B1:cY Ad G1 b ca dn de []:=⟨⟨bx,g1⟩,gn,ge,(fun e he=>by cases he),.nil,.nil⟩
  have hdn0:H dn=none:=t0.free hdn
  have hde0:H de=none:=t0.free hde
  cbv
  grind
  refine⟨cl,rfl,⟨_,s1.seq hS⟩,?_⟩
  refine BD (xs:=ns.map V.int) (fun i σ H'=>(∃ o3 o4 o5 o6 o7,σ=[some (V.ref ca),some (V.ref cl),some (V.int st),some (V.ref b),o3,o4,o5,o6,o7])/\aD H H'/\∃ es,cY Ad H' b ca dn de es/\es.length<=i/\∀ e∈es,i7 e.key/\0<=e.num/\e.num<cg al ws) ?_ ?_ ?_ ?_
  ·exact⟨⟨_,_,_,_,_,rfl⟩,s1,[],B1,aA _,fun e he=>by cases he⟩
  ·rintro i σ H' _ ⟨_,sH,_⟩
   exact sH.seq hS
  ·rintro i x σ A1 hx ⟨⟨o3,o4,o5,o6,o7,rfl⟩,sA,es,BA,el,hes⟩ N hNx p A2 zp t2 h2
   clear hN
   obtain⟨c1,hci,rfl⟩:=DT hx
   have hi:i<ns.length:=(b9.mp hci).1
   refine⟨p,_,rfl,.of h2,rfl,?_⟩
   have S2:=sA.trans t2
   have B2:=BA.same t2
   clear zp h2
   and_intros
   refine ft fun n2 hM=>?_
   and_intros
   refine⟨.inl (by decide),_,rfl,?_⟩
   have hmx:0<=sv (64*c1+st+(i:Int)):=vo _
   generalize sv (64*c1+st+(i:Int))=nu at hmx
   rw[hM]
   clear hM n2
   refine ft fun n2 hM=>?_
   and_intros
   refine⟨by decide,nu/3,rfl,by omega,fun q G2 hq t3 ent=>?_⟩
   obtain⟨ks,hq2,eok⟩:=Il ent
   rw[hM]
   clear hM n2 ent
   have S3:=S2.trans t3
   have t4:=t3
   have hq4:=hq2
   clear hq2 hq t3 S3
   have S4:=S2.trans t4
   have B4:=B2.same t4
   obtain⟨dx4,h14⟩:=B4.bk
   obtain⟨tt1,tt2⟩:=FI hq4 eok
   have keep:∀ G o,aD A2 G->N [some (V.ref ca),some (V.ref cl),some (V.int st),some (V.ref b),some (V.int (i:Int)),some (V.int c1),some (V.int nu),some (V.ref q),o] G:=fun G o tG=>hNx _ _ ⟨⟨_,_,_,_,_,rfl⟩,S2.trans tG,es,B2.same tG,by omega,hes⟩
   and_intros
   refine⟨dx4,_,h14,dw (by decide) (by decide) (by decide) ca dn de,b,ca,dn,de,es,.ref q,.tup,rfl,B4,tt1,tt2,fun hv=>?_,fun q' key e1 e2 e3=>⟨fun u hu ek G5 t5=>?_,fun hno G5 t5=>?_⟩⟩
   ·rw[Ae hq4 eok] at hv;cases hv
   ·exact keep G5 _ (t4.trans t5)
   cases e1
   have ekk:ks=key:=nZ (by rw[hq4] at e2;injection e2 with e2;injection e2)
   subst ekk
   have S5:=S4.trans t5
   have B5:=B4.same t5
   obtain⟨dx5,h15⟩:=B5.bk
   show (if (true != false)=true then _ else _)
   rw[ao (by decide)]
   refine⟨dx5,_,h15,dw (by decide) (by decide) (by decide) ca dn de,b,ca,dn,de,es,rfl,B5,by omega,.inl (by omega),fun D6 ws6 ms G6 hD6 t6 g6 mp ml hp=>?_⟩
   have C6:=C.same (S5.trans t6)
   obtain⟨dc6,qc6,hc61,hc62⟩:=id C6
   refine⟨_,.l g6,dc6,_,hc61,bG (by decide) (by decide) (by decide) al qc6 r,ca,al,ws,r,rfl,C6,a26,by omega,w8,fun G7 t7=>?_⟩
   have em:(al.length:Int)^(ws.length-1)=cg al ws:=rfl
   rw[em,sS hp,mp.length_eq]
   have t57:=t5.trans (t6.trans t7)
   by_cases hl:(es.length:Int)<cg al ws
   ·and_intros
    rw[aC hl,ao rfl]
    refine ft fun n2 hM=>?_
    and_intros
    refine⟨⟨by decide,by decide⟩,⟨by decide,by decide⟩,by decide,big (by decide),fun p8 G8 z8 t8 g8=>⟨by decide,?_⟩⟩
    obtain⟨v,hv⟩:∃ v:Int,atI [V.int (nu/5),V.int (nu/5%40)] (nu%2)=some (.int v):=by
     rcases (show nu%2=0∨nu%2=1 by omega) with e | e
     ·exact⟨_,by rw[e];rfl⟩
     ·exact⟨_,by rw[e];rfl⟩
    have t48:=t4.trans (t57.trans t8)
    have C8:=C.same (S2.trans t48)
    obtain⟨dc8,qc8,hc81,hc82⟩:=id C8
    refine⟨_,_,.inl (.of g8),hv,dc8,_,hc81,bG (by decide) (by decide) (by decide) al qc8 r,ca,al,ws,r,rfl,C8,a26,by omega,w8,fun G9 t9=>?_⟩
    rw[em]
    and_intros
    refine⟨by omega,?_⟩
    have u0:=cA v (b:=cg al ws) (by omega)
    have u1:=df v (b:=cg al ws) (by omega)
    generalize v%cg al ws=pl at u0 u1
    clear hv g8
    rw[hM]
    clear hM n2
    have t49:=t48.trans t9
    have B9:=B2.same t49
    have C9:=C.same (S2.trans t49)
    have hq9:=(t57.trans (t8.trans t9)) _ _ hq4
    obtain⟨dx9,h19⟩:=B9.bk
    have fin:∀ (n:Int) (G G':Hp),aD A2 G->0<=n->n<cg al ws->(∀ c o,c≠dn->c≠de->G c=some o->G' c=some o)->cY Ad G' b ca dn de (es++[⟨n,ks,q⟩])->N [some (V.ref ca),some (V.ref cl),some (V.int st),some (V.ref b),some (V.int (i:Int)),some (V.int c1),some (V.int nu),some (V.ref q),some (V.int pl)] G':=fun n G G' tG n0 n1 hs BG=>hNx _ _ ⟨⟨_,_,_,_,_,rfl⟩,fun x o e=>hs x o (fun z=>by rw[z,hdn0] at e;cases e) (fun z=>by rw[z,hde0] at e;cases e) ((S2.trans tG) _ _ e),es++[⟨n,ks,q⟩],BG,by rw[ah];show es.length+1<=_;omega,fun e he=>(bw.mp he).elim (hes e) fun h=>by rw[bt.mp h];exact⟨eok,n0,n1⟩⟩
    have els:∀ (G:Hp),aD G9 G->∃ dx fs,G b=some (HO.ins Ad.Book dx fs)/\List.lookup (Str.ofString "put") fs=none/\spD (cL Ad) [V.ref b,V.ref q] G (fun x H1=>N [some (V.ref ca),some (V.ref cl),some (V.int st),some (V.ref b),some (V.int (i:Int)),some (V.int c1),some (V.int nu),some (V.ref q),some (V.int pl)] H1) E:=fun G tG=>by
     have BG:=B9.same tG
     obtain⟨dxG,h1G⟩:=BG.bk
     obtain⟨n,Lf,hn⟩:=DQ (es.map (·.num))
     rw[aj] at hn
     refine⟨dxG,_,h1G,dw (by decide) (by decide) (by decide) ca dn de,?_⟩
     show cL Ad [V.ref b,V.ref q,.non] G _ _
     refine zk BG (C9.same tG) ok ((S2.trans (t49.trans tG)) _ _ Tb) (tG _ _ hq9) eok hno (by omega) (by omega) (by omega) Lf.2.1 (.inr ⟨rfl,Lf⟩) fun GA kA BA=>?_
     exact fin n G GA (t49.trans tG) (by omega) (by omega) kA BA
    and_intros
    refine⟨dx9,_,h19,dw (by decide) (by decide) (by decide) ca dn de,b,ca,dn,de,es,al,ws,r,.int pl,.int,rfl,B9,C9,ok,rfl,(fun h=>by rw[i4 u0 u1] at h;cases h),(fun n e _ _ hn GA tA=>?_),fun n e _ _ x hx ex GA tA=>?_⟩
    ·cases e
     show (if (true != false)=true then _ else _)
     rw[ao (by decide)]
     refine⟨by decide,?_⟩
     by_cases h3:0<nu%3
     ·rw[ao (aC h3)]
      have BA:=B9.same tA
      obtain⟨dxA,h1A⟩:=BA.bk
      refine⟨dxA,_,h1A,dw (by decide) (by decide) (by decide) ca dn de,zk BA (C9.same tA) ok ((S2.trans (t49.trans tA)) _ _ Tb) (tA _ _ hq9) eok hno (by omega) u0 u1 hn (.inl rfl) fun GB kB BB=>?_⟩
      exact fin pl GA GB (t49.trans tA) u0 u1 kB BB
     ·rw[ai (by rw[aE h3];decide)]
      exact els GA tA
    ·exact els GA tA
   ·and_intros
    rw[aE hl,ai (by decide)]
    exact keep G7 _ (t4.trans t57)
  rintro σ H2 ⟨⟨o3,o4,o5,o6,o7,rfl⟩,s2,es,B2,el,hes⟩
  show nn _ _ _
  cbv
  and_intros
  exact k b dn de es H2 s2 B2 (by rw[aj] at el;exact el) hes
structure rG (t:List Nat):Prop where
 len:t.length<=45000
 so:∀ al ws r es,Rws (Mk.aZ 10 t) al ws r es->es.length<64∨(es.map (·.num)).Pairwise (·<=·)
def AL (Ad:Ads):Sp:=fun vs H Q E=>∃ (x:V) (tg:Tg),vs=[x]/\eI H x=some tg/\H Ad.tb=some (iz lg)/\(∀ t,x=.str (tx t)->rG t) ∧
 (∀ t al ws r es b ca dn de H',x=.str (tx t)->qL t al ws r es->aD H H'->H dn=none->H de=none->cY Ad H' b ca dn de es->cP Ad H' ca al ws r->Q (.ref b) H') ∧
 ((∀ t,x=.str (tx t)->wt t)->∀ H',aD H H'->E (.ref Ad.NoBook) none H')
theorem AK:aL ["text","book"] ["text"] (ay zu):=by subst_eqs
theorem Gj (F:Fun K "read" "read" zu f fd) (T:Bl mg) (AF:AdF K mg Ad) (C_shown:Fnc P w K mg base (CX1 P w) 4 "shown" ["book"] (jX Ad)) (C_built:Fnc P w K mg base (CX1 P w) 6 "built" ["rows"] (xR Ad)):bI P w K mg base (CX2 P w) 7 f fd ["text"] (AL Ad):=by
 refine F.Lg (k:=6) AK ?_ (fun cdv A outer s H vs Q E hr h=>?_)
 ·bv_decide
 ·obtain⟨x,tg,rfl,ht,Tb,hR,k,kE⟩:=h
  have hu:=hr.kP
  have hu1:=qp hr
  refine⟨_,ae (bK (cx (c9 (a8 (eM .str) T.isinstance bt_isinstance (af (pvL 0) (af (iB T.str ky) (aa)))))) (ak (dB di AF.q_NoBook AF.g_NoBook n4.one rfl (af (au) (aa)))) (aX)) (ae (GH di AF.q_NoBook rfl rfl rfl AF.g_CableError AF.g_NoBook n4 (fun _=>PassesOwnAt.leaving) (fun pn xe E1 po px=>ak (aB (i:=1) AK.nd (aF C_built px (hr.mono (by decide)) (af (dy (K:=K) rfl cV ki kj lD (pvL 0) (af (au) (aa))) (aa))))) (fun _=>(af (au) (aa)))) (ae (bK (bg (nv (K:=K) rfl hu) (aF C_shown jv (hr.mono (by decide)) (af (pvL 1) (aa))) (pvL 0) (bo _)) (ak (dB di AF.q_NoBook AF.g_NoBook n4.one rfl (af (au) (aa)))) (aX)) (ak (aI (pvL 1))))),?_⟩
  grind
  refine⟨trivial,tg,ht,?_⟩
  by_cases hs:∃ z,x=.str z
  rotate_left
  ·have fin:1<=sizeLine/\E (Value.ref Ad.NoBook) none H:=⟨aN (av (by decide)),kE (fun t e=>absurd ⟨_,e⟩ hs) H (aD.refl _)⟩
   cases tg with
   | str =>
    exfalso
    cases x with
    | str z=>exact hs ⟨z,rfl⟩
    | ref p =>
     have h2:i3 (H p)=some Tg.str:=ht
     unfold i3 at h2
     split at h2<;>cases h2
    | _=>cases ht
   | _=>exact fin
  obtain⟨z,rfl⟩:=hs
  obtain⟨t,rfl⟩:∃ t,z=tx t:=⟨z.cps.toList,(iq z).symm⟩
  cases ht
  rw[ai (by decide)]
  show nn _ _ _
  cbv
  have R:=hR t rfl
  have tl:=R.len
  grind
  refine⟨rfl,by rw[aJ];omega,10,rfl,fun p1 H1 hp1 s1 g1=>?_⟩
  rw[b0] at g1
  refine⟨p1,_,rfl,g1,qi 10 t,(fun l hl=>bJ ((Mk.gK t).2 l hl) tl),s1 _ _ Tb,fun b ca dn de es al ws r H2 rw2 s2 hd0 he0 B C=>?_,fun hno c hc H2 s2=>⟨(yp AF.err hc).em,fun H3 s3=>kE (fun t' e al ws r ms ib=>by cases dG (V.str.inj e);exact hno al ws r ms ib.rws) H3 (s1.trans (s2.trans s3))⟩⟩
  cbv
  have s02:=s1.trans s2
  grind
  refine⟨b,ca,dn,de,es,al,ws,r,rfl,B,C,rw2.ok,rw2.mo.few,R.so al ws r es rw2,rw2.mo.en,fun ms' H3 mp ml s3=>?_⟩
  and_intros
  have ib:∀ (ms':List Ben),ms'.Perm es->(ms'.map (·.num)).Pairwise (·<·)->tT al ws ms':=fun ms' mp ml=>⟨by rw[mp.length_eq];exact rw2.mo.few,fun m hm=>rw2.mo.en m (mp.mem_iff.mp hm),ml,(mp.map _).nodup_iff.mpr rw2.mo.nk⟩
  by_cases et:tx (eu al ws r ms')=tx t
  ·have et':t=eu al ws r ms':=(dG et).symm
   have ib':qL t al ws r ms':=⟨rw2.ok,ib ms' mp ml,et'⟩
   have enk:=(rw2.uniq ib'.rws).2.2.2
   have up:(es.map (·.num)).Pairwise (·<·):=by rw[yW enk];exact ml
   rw[ai (by simp [et])]
   show nn _ _ _
   cbv
   and_intros
   exact k t al ws r es b ca dn de H3 rfl ⟨rw2.ok,ib es (.refl _) up,by rw[et',nQ enk]⟩ (s02.trans s3) (s1.free hd0) (s1.free he0) (B.same s3) (C.same s3)
  ·rw[ao (by simp [et])]
   refine⟨aN (av (by decide)),kE (fun t' e al2 ws2 r2 ms i2=>?_) H3 (s02.trans s3)⟩
   cases dG (V.str.inj e)
   obtain⟨rfl,rfl,rfl,enk⟩:=rw2.uniq i2.rws
   exact et (aG tx (by rw[i2.eq];exact nQ (vq enk mp ml i2.mo.up)))
def Kg (j:Int):List V:=(List.range 16).map fun k:Nat=>V.bl (decide ((k:Int)=j)||decide (k=15))
def lX (Ad:Ads):Sp:=fun vs H Q _=>∃ (x:V) (tg:Tg),vs=[x]/\eI H x=some tg/\H Ad.tb=some (iz lg)/\(∀ t,x=.str (tx t)->rG t) ∧
 (∀ t al ws r es b ca dn de a q H',x=.str (tx t)->qL t al ws r es->aD H H'->cY Ad H' b ca dn de es->cP Ad H' ca al ws r->H' a=some (.tup [.ref b,.ref q])->H' q=some (.lst [])->Q (.ref a) H') ∧
 ((∀ t,x=.str (tx t)->wt t)->∀ a q H',aD H H'->H' a=some (.tup [.non,.ref q])->H' q=some (.lst (Kg 4))->Q (.ref a) H')
theorem fO:aL ["_law_thing","_law_found","_law_kinds","e"] ["_law_thing"] (ay nG):=by subst_eqs
theorem xq (F:Fun K "_law_told" "_law_told" nG f fd) (T:Bl mg) (AF:AdF K mg Ad) (C_read:Fnc P w K mg base (CX2 P w) 7 "read" ["text"] (AL Ad)):bI P w K mg base (CX1 P w) 8 f fd ["_law_thing"] (lX Ad):=by
 refine F.okX (k:=7) fO ?_ ?_
 ·bv_decide
 ·bv_normalize
  obtain⟨x,tg,rfl,ht,Tb,hR,k,kN⟩:=h
  refine⟨_,ae (aB (i:=1) fO.nd (fk)) (ae (aB (i:=2) fO.nd (bF (aa))) (ae (GG (i:=3) rfl rfl rfl fO.nd AF.g_CableError (fun pn xe E1 po px=>ak (aB (i:=1) fO.nd (aF C_read px (hr.mono (by decide)) (af (pvL 0) (aa))))) (fun _=>ak (aB (i:=2) fO.nd (bF (af (a8 (cJ (K:=K) rfl) T.isinstance bt_isinstance (af (pvL 3) (af (dz AF.g_NoEntry) (aa)))) (af (a8 (cJ (K:=K) rfl) T.isinstance bt_isinstance (af (pvL 3) (af (dz AF.g_Twice) (aa)))) (af (a8 (cJ (K:=K) rfl) T.isinstance bt_isinstance (af (pvL 3) (af (dz AF.g_NoNumber) (aa)))) (af (a8 (cJ (K:=K) rfl) T.isinstance bt_isinstance (af (pvL 3) (af (dz AF.g_TooMany) (aa)))) (af (a8 (cJ (K:=K) rfl) T.isinstance bt_isinstance (af (pvL 3) (af (dz AF.g_NoBook) (aa)))) (af (a8 (cJ (K:=K) rfl) T.isinstance bt_isinstance (af (pvL 3) (af (dz AF.g_NoText) (aa)))) (af (a8 (cJ (K:=K) rfl) T.isinstance bt_isinstance (af (pvL 3) (af (dz AF.g_NoReading) (aa)))) (af (a8 (cJ (K:=K) rfl) T.isinstance bt_isinstance (af (pvL 3) (af (dz AF.g_NoSetting) (aa)))) (af (a8 (cJ (K:=K) rfl) T.isinstance bt_isinstance (af (pvL 3) (af (dz AF.g_NoCode) (aa)))) (af (a8 (cJ (K:=K) rfl) T.isinstance bt_isinstance (af (pvL 3) (af (dz AF.g_NoWord) (aa)))) (af (a8 (cJ (K:=K) rfl) T.isinstance bt_isinstance (af (pvL 3) (af (dz AF.g_TooGarbled) (aa)))) (af (a8 (cJ (K:=K) rfl) T.isinstance bt_isinstance (af (pvL 3) (af (dz AF.g_NoRow) (aa)))) (af (a8 (cJ (K:=K) rfl) T.isinstance bt_isinstance (af (pvL 3) (af (dz AF.g_NoNet) (aa)))) (af (a8 (cJ (K:=K) rfl) T.isinstance bt_isinstance (af (pvL 3) (af (dz AF.g_NoOffice) (aa)))) (af (a8 (cJ (K:=K) rfl) T.isinstance bt_isinstance (af (pvL 3) (af (dz AF.g_NoDay) (aa)))) (af (a8 (cJ (K:=K) rfl) T.isinstance bt_isinstance (af (pvL 3) (af (iB T.ValueError tV) (aa)))) (aa))))))))))))))))))))) (ak (aI (fE (af (pvL 1) (af (pvL 2) (aa)))))))),?_⟩
  have big:∀ {u:Nat},u<=1000->u<=sizeLine:=fun hu=>aN (av (by omega))
  grind
  cbv
  grind
  refine⟨big (by decide),fun q0 H1 hq0 s1 g1=>?_⟩
  cbv
  grind
  refine⟨x,tg,rfl,fw s1 ht,s1 _ _ Tb,hR,fun t al ws r es b ca dn de H2 et ib s2 _ _ B C=>?_,fun hno H2 s2=>⟨(yp AF.err (show Ad.NoBook∈Ad.mT by simp [Ads.mT])).em,fun ea H3 hea s3 hx=>?_⟩⟩
  ·cbv
   and_intros
   exact⟨big (by decide),fun a H4 ha s4 g4=>k t al ws r es b ca dn de a q0 H4 et ib (s1.trans (s2.trans s4)) (B.same s4) (C.same s4) g4 (s4 _ _ (s2 _ _ g1))⟩
  ·and_intros
   have eC:=yp AF.err (c:=Ad.NoBook) (br (i:=6) rfl)
   have kd:∀ {j:Nat}{d:Addr},Ad.mT[j]?=some d->PySem.W.kitOne K (.ref Ad.NoBook) (.ref d)=some (decide (6=j)):=fun {j d} hd=>by rw[eC.kd d (br hd),Hc AF.nd (i:=6) rfl hd]
   refine⟨_,_,hx,eC.ex,kd (j:=3) rfl,_,_,hx,eC.ex,kd (j:=4) rfl,_,_,hx,eC.ex,kd (j:=1) rfl,_,_,hx,eC.ex,kd (j:=5) rfl,_,_,hx,eC.ex,kd (j:=6) rfl,_,_,hx,eC.ex,kd (j:=7) rfl,_,_,hx,eC.ex,kd (j:=8) rfl,_,_,hx,eC.ex,kd (j:=9) rfl,_,_,hx,eC.ex,kd (j:=0) rfl,_,_,hx,eC.ex,kd (j:=2) rfl,_,_,hx,eC.ex,kd (j:=10) rfl,_,_,hx,eC.ex,kd (j:=14) rfl,_,_,hx,eC.ex,kd (j:=11) rfl,_,_,hx,eC.ex,kd (j:=12) rfl,_,_,hx,eC.ex,kd (j:=13) rfl,_,_,hx,eC.ex,eC.ve,big (by decide),fun q H4 hq s4 g4=>?_⟩
   cbv
   and_intros
   exact⟨big (by decide),fun a H5 ha s5 g5=>kN hno a q H5 (s1.trans (s2.trans (s3.trans (s4.trans s5)))) g5 (s5 _ _ g4)⟩
def eT (Ad:Ads):Sp:=fun vs H Q _=>∃ (x:V) (tg:Tg),vs=[x]/\eI H x=some tg/\H Ad.tb=some (iz lg)/\(∀ t,x=.str (tx t)->rG t/\wt t)/\∀ H',aD H H'->Q (.bl true) H'
theorem tF:aL ["_law_thing"] ["_law_thing"] (ay jE):=by subst_eqs
theorem sQ (F:Fun K "_law_refused" "_law_refused" jE f fd) (T:Bl mg) (AF:AdF K mg Ad) (C_law_told:Fnc P w K mg base (CX1 P w) 8 "_law_told" ["_law_thing"] (lX Ad)) (C_law_only:Fnc P w K mg base (CX1 P w) 1 "_law_only" ["_law_place"] qJ):bI P w K mg base (CX1 P w) 9 f fd ["_law_thing"] (eT Ad):=by
 refine F.okX (k:=8) tF ?_ ?_
 ·bv_decide
 ·bv_normalize
  obtain⟨x,tg,rfl,ht,Tb,hR,k⟩:=h
  refine⟨_,ak (aI (dU (cQ (K:=K) rfl hu) (cw (dE (K:=K) rfl) (aF C_law_told aw (hr.mono (by decide)) (af (pvL 0) (aa))) (aq) (fun _ _=>rfl)) (aF C_law_only aw (hr.mono (by decide)) (af (aq) (aa))) (bo _))),?_⟩
  and_intros
  refine⟨x,tg,rfl,ht,Tb,(fun t e=>(hR t e).1),(fun t al ws r es b ca dn de a q H' e ib=>absurd ib ((hR t e).2 al ws r es)),fun _ a q H1 s1 g1 g2=>?_⟩
  and_intros
  refine⟨_,_,.t g1,bB (j:=1) rfl,4,rfl,fun q2 H2 hq2 s2 g3=>?_⟩
  and_intros
  exact⟨_,_,.of (s2 _ _ g2),.of g3,rfl,rfl,k H2 (s1.trans s2)⟩
def kM (Ad:Ads):Sp:=fun vs H Q _=>∃ (t:List Nat),vs=[.str (tx t)]/\H Ad.tb=some (iz lg)/\rG t/\((∃ al ws r es,qL t al ws r es)->∀ H',aD H H'->Q (.bl true) H')/\(wt t->∀ H',aD H H'->Q (.bl false) H')
theorem kJ:aL ["_law_words","_law_found","_law_kinds"] ["_law_words"] (ay lQ):=by subst_eqs
theorem vH (F:Fun K "_law_stays" "_law_stays" lQ f fd) (T:Bl mg) (AF:AdF K mg Ad) (C_shown:Fnc P w K mg base (CX1 P w) 4 "shown" ["book"] (jX Ad)) (C_law_told:Fnc P w K mg base (CX1 P w) 8 "_law_told" ["_law_thing"] (lX Ad)):bI P w K mg base (CX1 P w) 9 f fd ["_law_words"] (kM Ad):=by
 refine F.okX (k:=8) kJ ?_ ?_
 ·bv_decide
 ·bv_normalize
  obtain⟨t,rfl,Tb,hR,k,kN⟩:=h
  refine⟨_,ae (sW (aF C_law_told aw (hr.mono (by decide)) (af (pvL 0) (aa))) (ow (K:=K) (n:=2) rfl rfl (cG (aV (i:=1) kJ.nd) (cG (aV (i:=2) kJ.nd) (iu))))) (ak (aI (ny (dU (cQ (K:=K) rfl hu) (pvL 2) (bF (aa)) (bo _)) (k9 (dU (cQ (K:=K) rfl hu) (aF C_shown aw (hr.mono (by decide)) (af (pvL 1) (aa))) (pvL 0) (bo _)))))),?_⟩
  grind
  refine⟨_,.str,rfl,rfl,Tb,(fun t' e=>by cases dG (V.str.inj e);exact hR),fun t' al ws r es b ca dn de a q H1 e ib s1 B C g1 g2=>?_,fun hno a q H1 s1 g1 g2=>?_⟩
  ·cases dG (V.str.inj e)
   refine⟨_,.t g1,rfl,?_⟩
   and_intros
   cbv
   and_intros
   refine⟨bN _,fun p H2 hp s2 g3=>⟨_,_,.of (s2 _ _ g2),.of g3,rfl,rfl,?_⟩⟩
   rw[ao (by rfl)]
   refine⟨b,ca,dn,de,es,al,ws,r,rfl,B.same s2,C.same s2,ib.ok,ib.mo.few,.inr (ib.mo.up.imp fun h=>eV h),ib.mo.en,fun ms H3 mp ml s3=>?_⟩
   and_intros
   rw[show eu al ws r ms=t from by rw[ib.eq];exact nQ (vq rfl mp ml ib.mo.up),aC (rfl:tx t=tx t)]
   exact k ⟨al,ws,r,es,ib⟩ H3 (s1.trans (s2.trans s3))
  ·refine⟨_,.t g1,rfl,?_⟩
   and_intros
   cbv
   and_intros
   refine⟨bN _,fun p H2 hp s2 g3=>⟨_,_,.of (s2 _ _ g2),.of g3,rfl,rfl,?_⟩⟩
   rw[ai (by decide)]
   exact kN (hno t rfl) H2 (s1.trans s2)
theorem yb.bk {t:List Nat} (h:yb t):wt t:=fun al ws r ms ib=>h al ws r ms ib.rws
theorem yb.rd {t:List Nat} (h:yb t) (hl:t.length<=45000):rG t:=⟨hl,fun al ws r es R=>absurd R (h al ws r es)⟩
theorem qL.rd {t al:List Nat}{ms:List Ben} (h:qL t al ws r ms) (hl:t.length<=45000):rG t:=⟨hl,fun al' ws' r' es R=>.inr (by rw[yW (R.uniq h.rws).2.2.2];exact h.mo.up.imp fun h=>eV h)⟩
def alG:List Nat:=[97,98,99,100,101,102,103,104,105]
def wsG:List Int:=[1,2,1,2]
theorem okG (h:0<=r/\r<9):bf alG wsG r:=⟨by decide,by decide,by decide,by decide,by decide,by decide,by decide,by decide +kernel,h⟩
def qO (k:Nat):List Key:=[.inr (Str.ofString "part"),.inr (tx [97+k%26,97+k/26])]
def nkG (k:Nat):Int×List Key:=((k:Int),qO k)
theorem Am {k:Nat} (h:k<300):i7 (qO k):=by
 refine⟨sd (pI (by simp) (by simp) fun c hc=>?_),by simp [qO],fun z hz=>?_⟩
 ·simp only[aH,dh,dm] at hc
  omega
 ·rcases aH.mp hz with hz | hz
  ·cases hz;decide
  ·cases bt.mp hz
   rw[aJ];simp
theorem wY {a b:Nat} (h:qO a=qO b):a=b:=by
 unfold qO at h
 injection h with _ h
 injection h with h _
 have:=dG (Sum.inr.inj h)
 injection this with h1 h2
 injection h2 with h2 _
 omega
def oQ (Ad:Ads):Sp:=fun vs H Q _=>∃ c:Int,vs=[.int c]/\H Ad.tb=some (iz lg)/\∀ H',Q (.bl true) H'
theorem fg:aL ["_law_cell","_law_code_here","_law_letters","_law_book","_law_k","_law_words"] ["_law_cell"] (ay lO):=by subst_eqs
theorem vF (F:Fun K "_law_great" "_law_great" lO f fd) (T:Bl mg) (AF:AdF K mg Ad) (C_law_refused:Fnc P w K mg base (CX1 P w) 9 "_law_refused" ["_law_thing"] (eT Ad)) (C_law_stays:Fnc P w K mg base (CX1 P w) 9 "_law_stays" ["_law_words"] (kM Ad)) (C_shown:Fnc P w K mg base (CX1 P w) 4 "shown" ["book"] (jX Ad)) (M_Code_word:Mtd P w K mg base (CX1 P w) Ad.Code "word" 3 ["self","k"] (dP Ad)) (M_Book_put:Mtd P w K mg base (CX1 P w) Ad.Book "put" 5 ["self","entry","number"] (cL Ad)) (K_Book:Mak P w K mg base (CX1 P w) Ad.Book "Book" 1 ["self","code"] (gc Ad)) (K_Code:Mak P w K mg base (CX1 P w) Ad.Code "Code" 4 ["self","alphabet","weights","rest"] (eF Ad)):bI P w K mg base (CX1 P w) 10 f fd ["_law_cell"] (oQ Ad):=by
 refine F.okX (k:=9) fg ?_ ?_
 ·bv_decide
 ·bv_normalize
  obtain⟨c,rfl,Tb,k⟩:=h
  refine⟨_,ae (aB (i:=1) fg.nd (jT K_Code aw (hr.mono (by decide)) (af (au) (af (bF (af (aq) (af (aq) (af (aq) (af (aq) (aa)))))) (af (az bC (pvL 0) (aq)) (aa)))))) (ae (aB (i:=2) fg.nd (au)) (ae (aB (i:=3) fg.nd (jT K_Book aw (hr.mono (by decide)) (af (pvL 1) (aa)))) (ae (fK cO rfl (fJ T.range (af (aq) (aa))) (aV (i:=4) fg.nd) (ak (gO (dA M_Book_put aw (hr.mono (by decide)) (pvL 3) (af (fE (af (au) (af (az a9 (cw (dE (K:=K) rfl) (pvL 2) (az bC (pvL 4) (aq)) (fun _ _=>rfl)) (cw (dE (K:=K) rfl) (pvL 2) (az ck (pvL 4) (aq)) (fun _ _=>rfl))) (aa)))) (af (pvL 4) (aa))))))) (ae (aB (i:=5) fg.nd (aF C_shown aw (hr.mono (by decide)) (af (pvL 3) (aa)))) (ae (bK ((kU (cx (c9 (aF C_law_stays aw (hr.mono (by decide)) (af (pvL 5) (aa))))) (iC (cx (c9 (aF C_law_refused aw (hr.mono (by decide)) (af (az a9 (az a9 (az a9 (pvL 5) (au)) (dA M_Code_word aw (hr.mono (by decide)) (pvL 1) (af (aq) (aa)))) (au)) (aa))))))).pt) (ak (aI (ip))) (aX)) (ak (aI (ny (aF C_law_refused aw (hr.mono (by decide)) (af (az a9 (pvL 5) (au)) (aa))) (k9 (aF C_law_refused aw (hr.mono (by decide)) (af (az a9 (az a9 (az a9 (pvL 5) (au)) (dA M_Code_word aw (hr.mono (by decide)) (pvL 1) (af (aq) (aa)))) (au)) (aa)))))))))))),?_⟩
  have big:∀ {u:Nat},u<=50000->u<=sizeLine:=fun hu=>aN (av (by omega))
  grind
  refine⟨big (by decide),fun p1 H1 hp1 s1 g1=>⟨by decide,?_⟩⟩
  have hr9:0<=c%9/\c%9<9:=by omega
  generalize c%9=r at hr9
  have ok:=okG hr9
  intro ca dc H2 hca hdc _ s2 hi ho
  refine uy hi (s2 _ _ (show H1 p1=some (.lst (wsG.map V.int)) from g1)) ok fun H3 kp3 C3=>⟨rfl,?_⟩
  replace C3:cP Ad H3 ca alG wsG r:=C3
  have s3:aD H H3:=fun c o e=>kp3 c o (b8 (s1 _ _ e) hca) (s2 _ _ (s1 _ _ e))
  rw[hN]
  clear hN nn g1
  grind
  cbv
  grind
  intro b bx G0 hb hbx hbb t0 g0 g0x
  refine⟨b,bx,ca,rfl,g0,fun dn de G1 hdn hde ne1 ne2 ne3 k1 g1 gn ge=>⟨rfl,?_⟩⟩
  have t01:aD H3 G1:=fun x o e=>k1 x o (fun z=>by rw[z,hb] at e;cases e) (t0 _ _ e)
  have B1:cY Ad G1 b ca dn de []:=⟨⟨bx,g1⟩,gn,ge,(fun e he=>by cases he),.nil,.nil⟩
  have hdn0:H3 dn=none:=t0.free hdn
  have hde0:H3 de=none:=t0.free hde
  cbv
  grind
  refine⟨by decide,by decide,?_⟩
  have mny:cg alG wsG=729:=by decide
  refine nX (n:=300) (fun i σ G=>(∃ o4,σ=[some (V.int c),some (V.ref ca),some (V.str (Str.ofString "abcdefghijklmnopqrstuvwxyz")),some (V.ref b),o4,none])/\(∀ c o,c≠dn->c≠de->G1 c=some o->G c=some o)/\∃ es,cY Ad G b ca dn de es/\es.map nk=(List.range i).map nkG) ?_ ?_ ?_
  ·exact⟨⟨_,rfl⟩,(fun c o _ _ e=>e),[],B1,rfl⟩
  ·rintro i σ G hi ⟨⟨o4,rfl⟩,kp,es,B,he⟩ N hNx
   clear hN
   have sG:aD H3 G:=fun c o e=>kp c o (fun z=>by rw[z,hdn0] at e;cases e) (fun z=>by rw[z,hde0] at e;cases e) (t01 _ _ e)
   obtain⟨dx,hbG⟩:=B.bk
   have les:es.length=i:=by have:=aG List.length he;rwa [aj,aj,gk] at this
   show EL _ _ [some (V.int c),some (V.ref ca),some (V.str (Str.ofString "abcdefghijklmnopqrstuvwxyz")),some (V.ref b),some (V.int (0+(i:Int))),none] _
   rw[Int.zero_add]
   and_intros
   have at1:∀ j:Nat,j<26->atI (Str.ofString "abcdefghijklmnopqrstuvwxyz").cps.toList (j:Int)=some (97+j):=fun j hj=>bB (by rw[mD,List.getElem?_range' hj];simp)
   refine⟨dx,_,hbG,dw (by decide) (by decide) (by decide) ca dn de,by decide,big (by decide),97+i%26,?_,⟨by decide,by decide⟩,big (by decide),97+i/26,?_,big (show 2<=50000 by decide),big (by decide),fun q G2 hq t2 g2=>?_⟩
   ·rw[show (i:Int)%26=((i%26:Nat):Int) by omega];exact at1 _ (by omega)
   ·rw[show (i:Int)/26=((i/26:Nat):Int) by omega];exact at1 _ (by omega)
   have hk:qO i∉es.map (·.key):=fun h=>by
    have e2:=aG (List.map (·.2)) he
    rw[aK,aK] at e2
    rw[show es.map (·.key)=(List.range i).map (((·.2):Int×List Key->List Key) ∘ nkG) from e2] at h
    obtain⟨j,hj,e⟩:=aM.mp h
    have:=wY (show qO j=qO i from e)
    rw[this] at hj
    exact absurd (gm.mp hj) (gv _)
   have hn:(i:Int)∉es.map (·.num):=fun h=>by
    have e2:=aG (List.map (·.1)) he
    rw[aK,aK] at e2
    rw[show es.map (·.num)=(List.range i).map (((·.1):Int×List Key->Int) ∘ nkG) from e2] at h
    obtain⟨j,hj,e⟩:=aM.mp h
    have:(j:Int)=i:=e
    have:=gm.mp hj
    omega
   refine zk (n:=i) (key:=qO i) (B.same t2) (C3.same (sG.trans t2)) ok ((sG.trans t2) _ _ (s3 _ _ Tb)) ?_ (Am hi) hk (by omega) (by omega) (by rw[mny];omega) hn (.inl rfl) fun G3 kp3' B3=>?_
   ·rw[g2];rfl
   refine hNx _ _ ⟨⟨_,rfl⟩,(fun c o h1 h2 e=>kp3' c o h1 h2 (t2 _ _ (kp c o h1 h2 e))),_,B3,?_⟩
   rw[cN,he,List.range_succ,cN]
   rfl
  rintro σ G ⟨⟨o4,rfl⟩,kp,es,B,he⟩
  show nn _ _ _
  cbv
  have sG:aD H3 G:=fun c o e=>kp c o (fun z=>by rw[z,hdn0] at e;cases e) (fun z=>by rw[z,hde0] at e;cases e) (t01 _ _ e)
  have les:es.length=300:=by have:=aG List.length he;rwa [aj,aj,gk] at this
  have en1:es.map (·.num)=(List.range 300).map (fun k:Nat=>(k:Int)):=by
   have e2:=aG (List.map (·.1)) he
   rw[aK,aK] at e2
   exact e2
  have en2:es.map (·.key)=(List.range 300).map qO:=by
   have e2:=aG (List.map (·.2)) he
   rw[aK,aK] at e2
   exact e2
  have up:(es.map (·.num)).Pairwise (·<·):=by
   rw[en1]
   exact List.Pairwise.map _ (fun a b (h:a<b)=>by omega) List.pairwise_lt_range
  have hen:∀ e∈es,jt alG wsG e:=fun e h=>by
   have h1:nk e∈(List.range 300).map nkG:=by rw[←he];exact aM.mpr ⟨e,h,rfl⟩
   obtain⟨j,hj,ej⟩:=aM.mp h1
   have e1:(j:Int)=e.num:=aG Prod.fst ej
   have e2:qO j=e.key:=aG Prod.snd ej
   have:=gm.mp hj
   exact⟨by rw[←e2];exact Am (by omega),by omega,by rw[mny];omega⟩
  have mo:tT alG wsG es:=⟨by omega,hen,up,by rw[en2];exact List.Pairwise.map _ (fun a b (h:a≠b) z=>h (wY z)) List.nodup_range⟩
  have tl:=ui ok hen
  grind
  refine⟨b,ca,dn,de,es,alG,wsG,r,rfl,B,C3.same sG,ok,by omega,.inr (up.imp fun h=>eV h),hen,fun ms G2 mp ml t2=>?_⟩
  rw[nQ (vq (es:=es) (ms:=es) rfl mp ml up)]
  have sp:∀ x:List Nat,10∉x->Mk.aZ 10 (eu alG wsG r es++10::x)=(bU alG wsG r::es.map (cz alG wsG r))++[x]:=fun x hx=>uj ok hen hx
  have ib:qL (eu alG wsG r es) alG wsG r es:=⟨ok,mo,rfl⟩
  have many:∀ x:List Nat,10∉x->yb (eu alG wsG r es++10::x):=fun x hx al ws r' ms R=>by
   have e:=R.eq
   rw[sp x hx] at e
   have:=aG List.length e
   simp only[ah,ag,aj,ax] at this
   have:=R.mo.few
   omega
  have sG2:=sG.trans t2
  have Tb2:=sG2 _ _ (s3 _ _ Tb)
  have C2:=C3.same sG2
  generalize eu alG wsG r es=t at tl ib many
  clear sp B en1 en2 he kp mp ml
  cbv
  grind
  refine⟨t,rfl,Tb2,ib.rd (by omega),(fun _ G3 t3=>?_),fun hno=>absurd ib (hno _ _ _ _)⟩
  and_intros
  have e10:Str.ofString "\n"=tx [10]:=rfl
  obtain⟨dc2,qc2,hc21,hc22⟩:=id C2
  have cfn:=bG (m:=Str.ofString "word") (by decide) (by decide) (by decide) alG qc2 r
  have wrd:∀ (j:Int) {G:Hp}{RR:VK}{E':XK},0<=j->j<729->aD G2 G->(∀ w:List Nat,w.length=4->(∀ c∈w,97<=c/\c<123)->∀ G',aD G G'->RR (.str (tx w)) G')->dP Ad [.ref ca,.int j] G RR E':=fun j {G RR E'} j0 j1 s kk=>⟨ca,alG,wsG,r,_,.int,rfl,C2.same s,ok,rfl,(fun h=>by rw[show bV ((alG.length:Int)^(wsG.length-1)) (V.int j)=true from i4 j0 (by rw[show (alG.length:Int)^(wsG.length-1)=729 from mny];exact j1)] at h;cases h),fun n e n0 n1 G' t'=>by
   have wo:=fz ok n0 n1
   exact kk _ wo.1 wo.2.1 G' t'⟩
  rw[e10,cy,aJ]
  refine⟨big (show t.length+1<=_ by omega),dc2,_,t3 _ _ hc21,cfn,wrd 300 (by decide) (by decide) t3 fun w wl wc G4 t4=>?_⟩
  and_intros
  rw[show Str.ofString " ."=tx [32,46] from rfl]
  simp only[cy,aJ]
  have w10:10∉w:=fun h=>by have:=wc _ h;omega
  have m1:=many (w++[32,46]) (by simp [w10])
  have sh:∀ x:List Nat,t++[10]++w++x=t++10::(w++x):=fun x=>by simp
  refine⟨big (by simp only[ah,ag,ax];omega),big (by simp only[ah,ag,ax];omega),_,.str,rfl,rfl,(t3.trans t4) _ _ Tb2,(fun t' e=>?_),fun G5 t5=>⟨true,rfl,?_⟩⟩
  ·cases dG (V.str.inj e)
   rw[sh]
   exact⟨m1.rd (by simp only[ah,ag,ax];omega),m1.bk⟩
  rw[ai (by decide),hN]
  clear hN nn m1 sh
  and_intros
  have t25:=t3.trans (t4.trans t5)
  have m2:=many [] (by simp)
  rw[e10]
  simp only[cy,aJ]
  refine⟨big (show t.length+1<=_ by omega),_,.str,rfl,rfl,t25 _ _ Tb2,(fun t' e=>?_),fun G6 t6=>?_⟩
  ·cases dG (V.str.inj e)
   exact⟨m2.rd (by simp only[ah,ag,ax];omega),m2.bk⟩
  and_intros
  refine⟨big (show t.length+1<=_ by omega),dc2,_,(t25.trans t6) _ _ hc21,cfn,wrd 400 (by decide) (by decide) (t25.trans t6) fun v vl vc G7 t7=>?_⟩
  and_intros
  rw[show Str.ofString " + zz"=tx [32,43,32,122,122] from rfl]
  simp only[cy,aJ]
  have v10:10∉v:=fun h=>by have:=vc _ h;omega
  have m3:=many (v++[32,43,32,122,122]) (by simp [v10])
  refine⟨big (by simp only[ah,ag,ax];omega),big (by simp only[ah,ag,ax];omega),_,.str,rfl,rfl,(t25.trans (t6.trans t7)) _ _ Tb2,(fun t' e=>?_),fun G8 t8=>k G8⟩
  cases dG (V.str.inj e)
  rw[show t++[10]++v++[32,43,32,122,122]=t++10::(v++[32,43,32,122,122]) by simp]
  exact⟨m3.rd (by simp only[ah,ag,ax];omega),m3.bk⟩
theorem Dc (ns:List Int) (a b:Nat):∃ l:List Int,kZ (ns.map V.int) (some (a:Int)) (some (b:Int))=l.map V.int/\l.length<=b-a:=by
 refine⟨(ns.drop (min a ns.length)).take (min b ns.length-min a ns.length),?_,?_⟩
 ·unfold kZ
  rw[HT.mO,HT.mO,aj,List.map_take,ke]
 ·rw[bR,bA]
  omega
section
variable {al:List Nat}{ws:List Int}{r:Int}{ms:List Ben}
theorem w5 (ok:bf al ws r):∃ c x,bU al ws r=99::111::100::101::32::c::x/\97<=c/\c<123:=by
 have a3:=ok.a3
 have abc:=ok.abc
 unfold bU
 cases al with
 | nil=>simp at a3
 | cons c q =>
  have:=abc c aR
  exact⟨c,_,by simp only[List.cons_append,kg];rfl,this⟩
theorem uS {t:List Nat} (h:qL t al ws r ms):∃ c x,t=99::111::100::101::32::c::x/\97<=c/\c<123:=by
 obtain⟨c,x,e,h1⟩:=w5 h.ok
 rw[h.eq]
 unfold eu
 cases ms.map (cz al ws r) with
 | nil=>exact⟨c,x,e,h1⟩
 | cons b q=>exact⟨c,_,by show bU al ws r++10::Mk.b7 10 (b::q)=_;rw[e];rfl,h1⟩
theorem wz {al':List Nat}{ws':List Int}{r':Int}{m:Ben} (ok:bf al ws r) (ok':bf al' ws' r') (hm:jt al ws m):bU al' ws' r'≠cz al ws r m:=fun e=>by
 obtain⟨c,x,e1,c1,c2⟩:=w5 ok'
 have w3:=ok.w3
 obtain⟨w1,w2,_⟩:=fz ok hm.2.1 hm.2.2
 have h2:∃ d y,fH m.key=32::d::y/\d<97:=by
  rcases eQ hm.1 with e | ⟨l,e,_⟩ | ⟨l,e,_⟩<;>rw[e]
  ·exact⟨46,[],rfl,by decide⟩
  ·exact⟨61,_,by rw[fS];rfl,by decide⟩
  ·exact⟨43,_,by rw[fR];rfl,by decide⟩
 obtain⟨d,y,e2,d1⟩:=h2
 rw[e1] at e
 unfold cz at e
 rw[e2] at e
 by_cases h5:4<ws.length
 ·have:=aG (·[4]?) e
  simp only[mq,pd] at this
  rw[gi (by omega),bu (by omega)] at this
  have:=w2 _ (List.mem_of_getElem (Option.some.inj this).symm)
  omega
 ·by_cases h4:ws.length=4
  ·have:=aG (·[5]?) e
   simp only[mq,pd] at this
   rw[gj (by omega),w1,h4] at this
   simp at this
   omega
  ·have:=aG (·[3]?) e
   simp only[mq,pd] at this
   rw[gj (by omega),w1,show ws.length=3 by omega] at this
   simp at this
def CB (ls:List (List Nat)):Prop:=∀ al ws r ms,bf al ws r->tT al ws ms->ls≠bU al ws r::ms.map (cz al ws r)
structure tU (t:List Nat):Prop where
 rd:rG t
 no:wt t
theorem oF {t:List Nat} (h1:t.length<=45000) (h2:t.count 10<64):rG t:=⟨h1,fun al ws r es R=>.inl (by
 have:=iN 10 t
 rw[R.eq,ag,aj] at this
 omega)⟩
theorem mM (hne:ls≠[]) (h10:∀ l∈ls,10∉l/\l.length<=300) (hl:ls.length<=64) (hn:CB ls):tU (Mk.b7 10 ls):=by
 have sp:=Mk.cT ls hne fun l h=>(h10 l h).1
 refine⟨⟨?_,fun al ws r es R=>?_⟩,fun al ws r es ib=>hn al ws r es ib.ok ib.mo ?_⟩
 ·have h1:=Mk.jR (c:=10) ls
  have h2:∀ (ls:List (List Nat)),(∀ l∈ls,l.length<=300)->(ls.map fun w=>w.length+1).sum<=301*ls.length:=fun ls=>by
   induction ls with
   | nil=>simp
   | cons l r ih =>
    intro h
    have h1:=ih fun x hx=>h x (bb _ hx)
    have h2:=h l aR
    simp only[aQ,fb,ag]
    rw[Nat.mul_add]
    omega
  have:=h2 ls fun l h=>(h10 l h).2
  omega
 ·have e:=R.eq
  rw[sp] at e
  have:=aG List.length e
  rw[ag,aj] at this
  exact .inl (by omega)
 ·have e:=ib.rws.eq
  rwa [sp] at e
def cI (al:List Nat) (ws:List Int) (r:Int) (ms:List Ben):List (List Nat):=bU al ws r::ms.map (cz al ws r)
theorem xH (ok:bf al ws r) (en:∀ m∈ms,jt al ws m):∀ l∈cI al ws r ms,10∉l/\l.length<=300:=fun l hl=>by
 rcases aH.mp hl with rfl | hl
 ·exact⟨(cK ok).2,by have:=jM ok;omega⟩
 ·obtain⟨m,hm,rfl⟩:=aM.mp hl
  exact⟨(pX ok (en m hm)).2,by have:=lA ok (en m hm);omega⟩
theorem vZ (ok:bf al ws r) (hx:x∈ls) (hn:∀ m,jt al ws m->cz al ws r m≠x):CB (bU al ws r::ls):=fun al' ws' r' ms' ok' mo e=>by
 injection e with e1 e2
 obtain⟨rfl,rfl,rfl⟩:=i5 ok ok' e1
 rw[e2] at hx
 obtain⟨m,hm,em⟩:=aM.mp hx
 exact hn m (mo.en m hm) em
theorem rq (hn:∀ al ws r,bf al ws r->bU al ws r≠x):CB (x::ls):=fun al' ws' r' ms' ok' mo e=>by
 injection e with e1 _
 exact hn al' ws' r' ok' e1.symm
theorem Cv (ok:bf al ws r) (mo:tT al ws ms) (h:CF (cI al ws r ms) ls):CB ls/\(∀ l∈ls,l∈cI al ws r ms)/\ls≠[]/\ls.length<=ms.length+2:=by
 obtain⟨i,i1,i2,h⟩:=h
 have il:i<ms.length+1:=by
  have:(cI al ws r ms).length=ms.length+1:=by simp [cI]
  omega
 obtain⟨j,rfl⟩:∃ j,i=j+1:=⟨i-1,by omega⟩
 obtain⟨m,hm⟩:∃ m,ms[j]?=some m:=⟨_,bu (by omega)⟩
 have hmi:=mo.en m (br hm)
 have at1:∀ {ms':List Ben}{k:Nat}{x:List Nat},(∀ m∈ms',jt al ws m)->(bU al ws r::ms'.map (cz al ws r))[k+1]?=some x->∃ m',ms'[k]?=some m'/\cz al ws r m'=x/\jt al ws m':=fun {ms' k x} en hx=>by
  rw[mq,bY] at hx
  obtain⟨m',h1,h2⟩:=fB.mp hx
  exact⟨m',h1,h2,en m' (br h1)⟩
 have lt:∀ {ms':List Ben}{a b:Nat}{x y:Ben},tT al ws ms'->a<b->ms'[a]?=some x->ms'[b]?=some y->x.num<y.num:=fun {ms' a b x y} mo' hab hx hy=>by
  obtain⟨ha,ex⟩:=b9.mp hx
  obtain⟨hb,ey⟩:=b9.mp hy
  have:=pj.mp mo'.up a b (by rw[aj];exact ha) (by rw[aj];exact hb) hab
  rw[List.getElem_map,List.getElem_map,ex,ey] at this
  exact this
 rcases h with rfl | ⟨k,x,y,k1,k2,kne,hx,hy,rfl⟩ | rfl
 ·refine⟨fun al' ws' r' ms' ok' mo' e=>?_,fun l hl=>(bw.mp hl).elim iU iT,by simp [cI],by rw[ah,bR,bA];simp [cI];omega⟩
  have e0:bU al ws r=bU al' ws' r':=by
   have:=aG List.head? e
   simp [cI] at this
   exact this
  obtain⟨rfl,rfl,rfl⟩:=i5 ok ok' e0
  have r1:(cI al ws r ms)[j+1]?=some (cz al ws r m):=by rw[cI,mq,bY,hm];rfl
  have f1:((cI al ws r ms).take (j+1+1)++(cI al ws r ms).drop (j+1))[j+1]?=some (cz al ws r m):=by
   rw[gi (by rw[bR];omega),List.getElem?_take,ao (by omega),r1]
  have f2:((cI al ws r ms).take (j+1+1)++(cI al ws r ms).drop (j+1))[j+1+1]?=some (cz al ws r m):=by
   rw[gj (by rw[bR];omega),bR,mw,show j+1+(j+1+1-min (j+1+1) (cI al ws r ms).length)=j+1 by omega,r1]
  rw[e] at f1 f2
  obtain⟨a,a1,a2,a3⟩:=at1 mo'.en f1
  obtain⟨b,b1,b2,b3⟩:=at1 mo'.en f2
  have:=lt mo' (gZ j) a1 b1
  have en:=lu ok a3 b3 (a2.trans b2.symm)
  have:a.num=b.num:=aG Prod.fst en
  omega
 ·refine⟨fun al' ws' r' ms' ok' mo' e=>?_,fun l hl=>?_,by simp [cI],by simp [cI]⟩
  ·have hk:k≠0:=by omega
   have e0:bU al ws r=bU al' ws' r':=by
    have:=aG (·[0]?) e
    simp only[pd] at this
    rw[iQ (by omega),iQ (by omega)] at this
    simp [cI] at this
    exact this
   obtain⟨rfl,rfl,rfl⟩:=i5 ok ok' e0
   obtain⟨k',rfl⟩:∃ k',k=k'+1:=⟨k-1,by omega⟩
   have f1:(((cI al ws r ms).set (j+1) y).set (k'+1) x)[j+1]?=some y:=by rw[iQ (by omega),kc i2]
   have f2:(((cI al ws r ms).set (j+1) y).set (k'+1) x)[k'+1]?=some x:=by rw[kc (by rw[List.length_set];exact k2)]
   rw[e] at f1 f2
   obtain⟨a,a1,a2,a3⟩:=at1 mo'.en f1
   obtain⟨b,b1,b2,b3⟩:=at1 mo'.en f2
   obtain⟨c,c1,c2,c3⟩:=at1 mo.en hx
   obtain⟨d,d1,d2,d3⟩:=at1 mo.en hy
   have n1:a.num=d.num:=aG Prod.fst (lu ok a3 d3 (a2.trans d2.symm))
   have n2:b.num=c.num:=aG Prod.fst (lu ok b3 c3 (b2.trans c2.symm))
   rcases Nat.lt_or_gt_of_ne (show j≠k' by omega) with h | h
   ·have:=lt mo' h a1 b1
    have:=lt mo h c1 d1
    omega
   ·have:=lt mo' h b1 a1
    have:=lt mo h d1 c1
    omega
  ·rcases List.mem_or_eq_of_mem_set hl with hl | rfl
   ·rcases List.mem_or_eq_of_mem_set hl with hl | rfl
    ·exact hl
    ·exact br hy
   ·exact br hx
 ·refine⟨?_,fun l hl=>?_,by simp [cI],by rw[ah,ah,bR,bR,bA];simp [cI];omega⟩
  ·have e:(cI al ws r ms).take (j+1)++(cI al ws r ms).take 1++(cI al ws r ms).drop (j+1)=bU al ws r::((ms.map (cz al ws r)).take j++[bU al ws r]++(ms.map (cz al ws r)).drop j):=by simp [cI]
   rw[e]
   exact vZ ok (x:=bU al ws r) (by simp) fun m' hm' e=>wz ok ok hm' e.symm
  ·rcases bw.mp hl with hl | hl
   ·rcases bw.mp hl with hl | hl
    ·exact iU hl
    ·exact iU hl
   ·exact iT hl
end
theorem DX (c:Nat):∀ l:List Nat,[]∈(Mk.aZ c (l++[c])).tail
 | []=>by simp [Mk.aZ]
 | a::l=>by
  have ih:=DX c l
  rw[List.cons_append]
  unfold Mk.aZ
  split
  ·exact List.mem_of_mem_tail ih
  ·split
   ·rename_i e;rw[e] at ih;cases ih
   ·rename_i e;rw[e] at ih;exact ih
theorem Co (h:i7 key):u4 (fH key++[32])=false:=by
 rcases eQ h with rfl | ⟨l,rfl,_⟩ | ⟨l,rfl,_⟩
 ·rfl
 ·rw[fS]
  show fj 6 (l++[32])=false
  rw[←jq]
  intro z
  unfold fj at z
  rw[bS,bM] at z
  have:=z.2 [] (List.mem_of_mem_tail (DX 32 l))
  cases this
 ·rw[fR]
  show dv 6 (l++[32])=false
  rw[←jq]
  intro z
  have:=(u9 z).2 32 (by simp)
  omega
theorem wU (c:Nat) (x y:List Nat):∀ ls:List (List Nat),Mk.b7 c (ls++[x])++y=Mk.b7 c (ls++[x++y])
 | []=>rfl
 | [a]=>by show (a++c::x)++y=a++c::(x++y);simp
 | a::b::q=>by
  have:=wU c x y (b::q)
  show (a++c::Mk.b7 c ((b::q)++[x]))++y=a++c::Mk.b7 c ((b::q)++[x++y])
  rw[←this];simp
theorem CS {ms:List Ben} (ok:bf al ws r) (mo:tT al ws ms) (h59:ms.length<=59):tU (eu al ws r ms++[32]):=by
 have rb:=xH ok mo.en
 obtain⟨R0,x,e,hx,hn⟩:∃ R0 x,cI al ws r ms=R0++[x]/\x∈cI al ws r ms/\CB (R0++[x++[32]]):=by
  rcases List.eq_nil_or_concat ms with rfl | ⟨q,m,rfl⟩
  ·refine⟨[],bU al ws r,rfl,aR,rq (xv ?_ (by rw[ah];have:=jM ok;simp only[ag,ax];omega) (by have:=(cK ok).2;simp [this])).no⟩
   have:=iN 32 (bU al ws r)
   rw[(cK ok).1] at this
   rw[gh]
   simp at this ⊢
   omega
  ·have hm:=mo.en m (by simp)
   refine⟨bU al ws r::q.map (cz al ws r),cz al ws r m,by simp [cI],by simp [cI],?_⟩
   refine vZ ok (x:=cz al ws r m++[32]) (by simp) fun m' hm' e=>?_
   refine vw ok (w:=wdL al ws r m.num) (s:=fH m.key++[32]) (fz ok hm.2.1 hm.2.2).1 (fun _ _ _ _=>Co hm.1) m' hm' ?_
   rw[e];unfold cz;rw[gU]
 have e2:eu al ws r ms++[32]=Mk.b7 10 (R0++[x++[32]]):=by
  rw[←wU,←e];rfl
 have lr:(cI al ws r ms).length=ms.length+1:=by simp [cI]
 rw[e2]
 have hx2:=rb x hx
 refine mM (by simp) (fun l hl=>?_) (by rw[e] at lr;simp only[ah,ag,ax] at lr ⊢;omega) hn
 rcases bw.mp hl with hl | hl
 ·exact rb l (by rw[e];exact fA _ hl)
 ·rw[bt.mp hl]
  refine⟨by simp [hx2.1],?_⟩
  rcases aH.mp hx with h | h
  ·rw[h,ah];have:=jM ok;simp only[ag,ax];omega
  ·obtain⟨m,hm,rfl⟩:=aM.mp h
   rw[ah];have:=lA ok (mo.en m hm);simp only[ag,ax];omega
theorem zU (c:Nat):∀ l:List Nat,(StrLaws.dbl c l).length<=2*l.length
 | []=>by simp [StrLaws.dbl]
 | a::l=>by
  have:=zU c l
  unfold StrLaws.dbl
  split<;>simp only[ag]<;>omega
theorem uq (c d:Nat) (h:d≠c):∀ l:List Nat,(StrLaws.dbl c l).count d=l.count d
 | []=>by simp [StrLaws.dbl]
 | a::l=>by
  have:=uq c d h l
  unfold StrLaws.dbl
  split
  ·rename_i e
   subst e
   rw[me (Ne.symm h),me (Ne.symm h),me (Ne.symm h),this]
  ·rw[List.count_cons,List.count_cons,this]
theorem rfs {K:PySem.W.Frag}{Ad:Ads}{E':XK} (Tb:G Ad.tb=some (iz lg)) (g:G p=some (.lst (ls.map fun l=>V.str (tx l)))) (hl:∀ l∈ls,l.length<=300) (h64:ls.length<=64) (N:tU (Mk.b7 10 ls)) (kk:∀ G',aD G G'->RR (.bl true) G') :
  ∃ ys,SqL K G p (List.map V.str ys)/\(List.map (fun x=>x.length) ys).sum+ys.length*(Str.ofString "\n").length<=16777216/\eT Ad [V.str (Txt.join (Str.ofString "\n") ys)] G RR E':=by
 refine⟨ls.map tx,.of (by rw[g,aK];rfl),?_,?_⟩
 ·have h1:=xI (ls:=ls) (n:=300) hl
  rw[aK,show (fun x:Str=>x.length) ∘ tx=fun l:List Nat=>l.length from funext aJ,aj]
  show _+ls.length*1<=_
  omega
 ·rw[show Str.ofString "\n"=tx [10] from rfl,jZ]
  exact⟨_,.str,rfl,rfl,Tb,(fun t' e=>by cases dG (V.str.inj e);exact⟨N.rd,N.no⟩),kk⟩
theorem rf1 {Ad:Ads}{t:List Nat} (Tb:G Ad.tb=some (iz lg)) (N:tU t) (kk:∀ G',aD G G'->RR (.bl true) G'):eT Ad [V.str (tx t)] G RR E' :=
 ⟨_,.str,rfl,rfl,Tb,(fun t' e=>by cases dG (V.str.inj e);exact⟨N.rd,N.no⟩),kk⟩
def z9 (K:PySem.W.Frag) (tb:Addr):Sp:=fun vs H Q _=>∃ (a:Addr) (ns:List Int),vs=[.ref a]/\SqL K H a (ns.map V.int)/\ns.length<=63/\H tb=some (iz lg)/\∀ H',Q (.bl true) H'
theorem fq:aL ["_law_script","_law_code_here","_law_words","_law_rows","_law_number","_law_at","_law_odd","_law_some","_law_things","_law_thing","_law_word_here","_law_blank","_law_says","_law_other"] ["_law_script"] (ay oH):=by subst_eqs
theorem IP (F:Fun K "law" "law" oH f fd) (T:Bl mg) (AF:AdF K mg Ad) (C_law_great:Fnc P w K mg base (CX1 P w) 10 "_law_great" ["_law_cell"] (oQ Ad)) (C_law_refused:Fnc P w K mg base (CX1 P w) 9 "_law_refused" ["_law_thing"] (eT Ad)) (C_law_stays:Fnc P w K mg base (CX1 P w) 9 "_law_stays" ["_law_words"] (kM Ad)) (C_law_changed:Fnc P w K mg base (CX1 P w) 2 "_law_changed" ["_law_words","_law_script"] (lV K)) (C_law_rows_turned:Fnc P w K mg base (CX1 P w) 1 "_law_rows_turned" ["_law_rows","_law_number"] iM) (C_law_odd_first:Fnc P w K mg base (CX1 P w) 2 "_law_odd_first" ["_law_code_here","_law_number"] (gJ Ad)) (C_law_odd_row:Fnc P w K mg base (CX1 P w) 4 "_law_odd_row" ["_law_code_here","_law_number"] (iL Ad)) (C_law_mixed:Fnc P w K mg base (CX1 P w) 1 "_law_mixed" ["_law_cell"] iy) (C_law_cell_at:Fnc P w K mg base (CX1 P w) 1 "_law_cell_at" ["_law_script","_law_k"] (gf K)) (C_shown:Fnc P w K mg base (CX1 P w) 4 "shown" ["book"] (jX Ad)) (C_law_filled:Fnc P w K mg base (CX1 P w) 6 "_law_filled" ["_law_code_here","_law_cells","_law_start"] (jH K Ad)) (C_law_code:Fnc P w K mg base (CX1 P w) 6 "_law_code" ["_law_script"] (qI K Ad)) (M_Code_word:Mtd P w K mg base (CX1 P w) Ad.Code "word" 3 ["self","k"] (dP Ad)):bI P w K mg base (CX1 P w) 11 f fd ["_law_script"] (z9 K Ad.tb):=by
 refine F.okX (k:=10) fq ?_ ?_
 ·bv_decide
 ·bv_normalize
  obtain⟨a,ns,rfl,hS,hlen,Tb,k⟩:=h
  refine⟨_,ae (aB (i:=1) fq.nd (aF C_law_code aw (hr.mono (by decide)) (af (pvL 0) (aa)))) (ae (aB (i:=2) fq.nd (aF C_shown aw (hr.mono (by decide)) (af (aF C_law_filled aw (hr.mono (by decide)) (af (pvL 1) (af (bX (eP (K:=K) rfl) (pvL 0) (cB (aq)) (cB (aq))) (af (aq) (aa))))) (aa)))) (ae (aB (i:=3) fq.nd (dy (K:=K) rfl cV ki kj lD (pvL 2) (af (au) (aa)))) (ae (aB (i:=4) fq.nd (aF C_law_mixed aw (hr.mono (by decide)) (af (aF C_law_cell_at aw (hr.mono (by decide)) (af (pvL 0) (af (aq) (aa)))) (aa)))) (ae (aB (i:=5) fq.nd (az a9 (aq) (az bC (az ck (pvL 4) (aq)) (a8 (aY (K:=K) rfl) T.len bQ (af (pvL 3) (aa)))))) (ae (bK (cx (c9 (aF C_law_refused aw (hr.mono (by decide)) (af (dy (K:=K) rfl cV h9 hO (gS (K:=K) rfl) (au) (af (az a9 (az a9 (bX (eP (K:=K) rfl) (pvL 3) (cH) (cB (pvL 5))) (bF (af (aF C_law_odd_row aw (hr.mono (by decide)) (af (pvL 1) (af (pvL 4) (aa)))) (aa)))) (bX (eP (K:=K) rfl) (pvL 3) (cB (pvL 5)) (cH))) (aa))) (aa))))) (ak (aI (ip))) (aX)) (ae (aB (i:=6) fq.nd (aF C_law_odd_first aw (hr.mono (by decide)) (af (pvL 1) (af (az ck (pvL 4) (aq)) (aa))))) (ae (fK cO rfl (cF (K:=K) rfl (bF (af (az a9 (bF (af (pvL 6) (aa))) (bX (eP (K:=K) rfl) (pvL 3) (cB (aq)) (cH))) (af (bF (af (pvL 6) (aa))) (af (bX (eP (K:=K) rfl) (pvL 3) (cB (aq)) (cH)) (aa)))))) (aV (i:=7) fq.nd) (ak (bK (cx (c9 (aF C_law_refused aw (hr.mono (by decide)) (af (dy (K:=K) rfl cV h9 hO (gS (K:=K) rfl) (au) (af (pvL 7) (aa))) (aa))))) (ak (aI (ip))) (aX)))) (ae (bK ((lG (bg k8 (a8 (aY (K:=K) rfl) T.len bQ (af (pvL 3) (aa))) (aq) (bo _)) (jf (cx (c9 (aF C_law_refused aw (hr.mono (by decide)) (af (dy (K:=K) rfl cV h9 hO (gS (K:=K) rfl) (au) (af (aF C_law_rows_turned aw (hr.mono (by decide)) (af (pvL 3) (af (pvL 4) (aa)))) (aa))) (aa))))))).pt) (ak (aI (ip))) (aX)) (ae (aB (i:=8) fq.nd (bF (af (az a9 (au) (pvL 2)) (Gs (i:=2) (pvL 2) (af (az a9 (pvL 2) (au)) (af (fk) (af (ip) (af (pvL 4) (af (bF (af (pvL 2) (aa))) (af (fE (af (pvL 2) (aa))) (aa))))))))))) (ae (fK cO rfl (cF (K:=K) rfl (az a9 (pvL 8) (bF (af (xy) (aa))))) (aV (i:=9) fq.nd) (ak (bK (cx (c9 (aF C_law_refused aw (hr.mono (by decide)) (af (pvL 9) (aa))))) (ak (aI (ip))) (aX)))) (ae (bK (bg k8 (a8 (aY (K:=K) rfl) T.len bQ (af (pvL 3) (aa))) (aq) (bo _)) (ae (sW (dy (K:=K) rfl cV PySem.F.slot_str_partition PySem.F.type_str_partition DV (cw (dE (K:=K) rfl) (pvL 3) (aq) (fun _ _=>rfl)) (af (au) (aa))) (ow (K:=K) (n:=3) rfl rfl (cG (aV (i:=10) fq.nd) (cG (aV (i:=11) fq.nd) (cG (aV (i:=12) fq.nd) (iu)))))) (ae (aB (i:=13) fq.nd (dA M_Code_word aw (hr.mono (by decide)) (pvL 1) (af (aq) (aa)))) (ae (bK (bg (cQ (K:=K) rfl hu) (pvL 13) (pvL 10) (bo _)) (ak (aB (i:=13) fq.nd (dA M_Code_word aw (hr.mono (by decide)) (pvL 1) (af (aq) (aa))))) (aX)) (ak (bK (cx (c9 (aF C_law_refused aw (hr.mono (by decide)) (af (az a9 (az a9 (az a9 (az a9 (pvL 2) (au)) (pvL 13)) (au)) (pvL 12)) (aa))))) (ak (aI (ip))) (aX)))))) (aX)) (ae (aB (i:=2) fq.nd (aF C_law_changed aw (hr.mono (by decide)) (af (pvL 2) (af (pvL 0) (aa))))) (ae (bK ((lG (cx (c9 (aF C_law_stays aw (hr.mono (by decide)) (af (pvL 2) (aa))))) (jf (cx (c9 (aF C_law_refused aw (hr.mono (by decide)) (af (pvL 2) (aa))))))).pt) (ak (aI (ip))) (aX)) (ak (aI (He (dU k8 (az bC (az ck (pvL 4) (aq)) (aq)) (aq) (bo _)) (k9 (aF C_law_great aw (hr.mono (by decide)) (af (pvL 4) (aa)))))))))))))))))))),?_⟩
  have big:∀ {u:Nat},u<=50000->u<=sizeLine:=fun hu=>aN (av (by omega))
  grind
  refine⟨a,ns,rfl,hS,fun ca al ws r H1 s1 C ok=>?_⟩
  have hS1:=s1.seq hS
  have a3:=ok.a3
  have a26:=ok.a26
  have w3:=ok.w3
  have w8:=ok.w8
  cbv
  grind
  obtain⟨l1,c1,z1⟩:=Dc ns 4 63
  refine⟨_,hS1,fun p1 G1 w1 t1 g1=>?_⟩
  rw[show kZ (ns.map V.int) (some 4) (some 63)=l1.map V.int from c1] at g1
  refine⟨ca,p1,al,ws,r,l1,4,rfl,C.same t1,ok,t1 _ _ (s1 _ _ Tb),.of g1,by omega,fun b dn de es H2 s2 B el hes=>?_⟩
  have s12:=t1.trans s2
  refine⟨b,ca,dn,de,es,al,ws,r,rfl,B,C.same s12,ok,by omega,.inl (by omega),hes,fun ms H3 mp ml s3=>?_⟩
  have lm:=mp.length_eq
  have mo:tT al ws ms:=⟨by omega,fun m hm=>hes m (mp.mem_iff.mp hm),ml,(mp.map _).nodup_iff.mpr B.nk⟩
  have ib:qL (eu al ws r ms) al ws r ms:=⟨ok,mo,rfl⟩
  have tl:=ui ok mo.en
  have sp:=qk ok mo.en
  have cn:=iN 10 (eu al ws r ms)
  rw[sp,ag,aj] at cn
  have sn:∀ {x:List Nat},10∉x->Mk.aZ 10 (eu al ws r ms++10::x)=cI al ws r ms++[x]:=fun hx=>uj ok mo.en hx
  have rb:=xH ok mo.en
  have tj:eu al ws r ms=Mk.b7 10 (cI al ws r ms):=rfl
  have S3:=s12.trans s3
  have C3:=C.same S3
  have Tb3:=S3 _ _ (s1 _ _ Tb)
  have hS3:=S3.seq hS1
  have ml59:ms.length<=59:=by omega
  clear B hes mp el es lm g1 c1
  rw[show bU al ws r::ms.map (cz al ws r)=cI al ws r ms from rfl] at sp
  have rl:(cI al ws r ms).length=ms.length+1:=by simp [cI]
  obtain⟨t,ht⟩:∃ t,eu al ws r ms=t:=⟨_,rfl⟩
  obtain⟨R,hR⟩:∃ R,cI al ws r ms=R:=⟨_,rfl⟩
  rw[ht,hR] at tj
  rw[ht] at ib tl sp cn ⊢
  rw[hR] at sp rb rl
  rw[ht,hR] at sn
  cbv
  grind
  refine⟨rfl,by rw[aJ];omega,10,rfl,fun p4 H4 hp4 s4 g4=>?_⟩
  rw[b0,sp] at g4
  cbv
  have S4:=S3.trans s4
  grind
  refine⟨a,ns,1,rfl,S4.seq hS1,by decide,_,rfl,?_⟩
  have hmx:0<=sv (ns.getD (Int.toNat 1) 0):=vo _
  generalize sv (ns.getD (Int.toNat 1) 0)=nu at hmx
  cbv
  grind
  refine⟨⟨by decide,by decide⟩,_,.l g4,?_⟩
  rw[aj]
  refine⟨by omega,?_⟩
  obtain⟨i,hi⟩:=cC (show 0<=1+nu/11%(R.length:Int) by have:=cA (nu/11) (b:=(R.length:Int)) (by omega);omega)
  have hi1:1<=i/\i<=R.length:=by
   have:=cA (nu/11) (b:=(R.length:Int)) (by omega)
   have:=df (nu/11) (b:=(R.length:Int)) (by omega)
   omega
  rw[hi,hN]
  clear hN nn hi
  grind
  have tk:∀ (j:Nat),(R.map fun l=>V.str (tx l)).take j=(R.take j).map fun l=>V.str (tx l):=fun j=>by rw[List.map_take]
  have dp:∀ (j:Nat),(R.map fun l=>V.str (tx l)).drop j=(R.drop j).map fun l=>V.str (tx l):=fun j=>by rw[ke]
  refine⟨rfl,_,.of g4,fun p5 H5 hp5 s5 g5=>?_⟩
  rw[mF,tk] at g5
  refine⟨ca,al,ws,r,nu,rfl,C3.same (s4.trans s5),ok,hmx,fun row H6 ho s6=>⟨big (by decide),fun p7 H7 hp7 s7 g7=>⟨_,_,s7 _ _ (s6 _ _ g5),g7,big (by simp only[aj,bR,ag,ax];omega),fun p8 H8 hp8 s8 g8=>?_⟩⟩⟩
  have s48:=s5.trans (s6.trans (s7.trans s8))
  refine⟨_,.of (s48 _ _ g4),fun p9 H9 hp9 s9 g9=>?_⟩
  rw[eN,dp] at g9
  refine⟨_,_,s9 _ _ g8,g9,big (by simp only[ah,aj,bR,bA,ag,ax];omega),fun pA HA hpA sA gA=>?_⟩
  have s4A:=s48.trans (s9.trans sA)
  have gA':HA pA=some (.lst ((R.take i++[row]++R.drop i).map fun l=>V.str (tx l))):=by rw[gA];simp
  have eR:R.take i++[row]++R.drop i=bU al ws r::((ms.map (cz al ws r)).take (i-1)++[row]++(ms.map (cz al ws r)).drop (i-1)):=by
   obtain⟨j,rfl⟩:∃ j,i=j+1:=⟨i-1,by omega⟩
   rw[←hR];simp [cI]
  have inR:∀ l∈R.take i++[row]++R.drop i,10∉l/\l.length<=300:=fun l hl=>by
   rcases bw.mp hl with hl | hl
   ·rcases bw.mp hl with hl | hl
    ·exact rb l (iU hl)
    ·rw[bt.mp hl];exact⟨ho.nl,by have:=ho.len;omega⟩
   ·exact rb l (iT hl)
  have Tb4:=s4 _ _ Tb3
  refine rfs (s4A _ _ Tb4) gA' (fun l h=>(inR l h).2) (by simp only[ah,bR,bA,ag,ax];omega) (mM (by simp) inR (by simp only[ah,bR,bA,ag,ax];omega) (by rw[eR];exact vZ ok (x:=row) (by simp) ho.no)) fun HB sB=>⟨true,rfl,?_⟩
  rw[ai (by decide),hN]
  clear hN nn gA' gA eR inR g9 g8 g7 g5
  have S4B:=s4A.trans sB
  grind
  refine⟨⟨by decide,by decide⟩,ca,al,ws,r,nu/3,rfl,C3.same (s4.trans S4B),ok,by omega,fun od HC hof sC=>?_⟩
  cbv
  have S4C:=S4B.trans sC
  grind
  refine⟨big (by decide),fun q1 J1 hq1 j1 f1=>⟨_,.of ((S4C.trans j1) _ _ g4),fun q2 J2 hq2 j2 f2=>?_⟩⟩
  rw[show kZ _ (some 1) none=_ from eN _ 1,dp] at f2
  refine⟨_,_,j2 _ _ f1,f2,big (by simp only[aj,bA,ag,ax];omega),fun q3 J3 hq3 j3 f3=>⟨big (by decide),fun q4 J4 hq4 j4 f4=>?_⟩⟩
  have jj:=j1.trans (j2.trans (j3.trans j4))
  refine⟨_,.of ((S4C.trans jj) _ _ g4),fun q5 J5 hq5 j5 f5=>?_⟩
  rw[show kZ _ (some 1) none=_ from eN _ 1,dp] at f5
  refine⟨big (by decide),fun q6 J6 hq6 j6 f6=>?_⟩
  have od3:10∉od/\od.length<=300:=⟨hof.nl,hof.len⟩
  have rd1:∀ l∈R.drop 1,10∉l/\l.length<=300:=fun l h=>rb l (iT h)
  have dl:(R.drop 1).length<=60:=by rw[bA];omega
  have all3:∀ v∈[V.ref q3,V.ref q4,V.ref q5],∃ (p:Addr) (ls:List (List Nat)),v=.ref p/\J6 p=some (.lst (ls.map fun l=>V.str (tx l)))/\(∀ l∈ls,l.length<=300)/\ls.length<=64/\tU (Mk.b7 10 ls):=by
   simp only[cM]
   refine⟨⟨q3,od::R.drop 1,rfl,by rw[(j4.trans (j5.trans j6)) _ _ f3];rfl,?_,by rw[ag];omega,?_⟩,⟨q4,[od],rfl,by rw[(j5.trans j6) _ _ f4];rfl,?_,by simp,?_⟩,⟨q5,R.drop 1,rfl,j6 _ _ f5,fun l h=>(rd1 l h).2,by omega,?_⟩,fun _ h=>by cases h⟩
   ·exact cM.mpr ⟨od3.2,fun l h=>(rd1 l h).2⟩
   ·exact mM (by simp) (cM.mpr ⟨od3,rd1⟩) (by rw[ag];omega) (rq hof.no)
   ·exact cM.mpr ⟨od3.2,fun l h=>by cases h⟩
   ·exact mM (by simp) (cM.mpr ⟨od3,fun l h=>by cases h⟩) (by simp) (rq hof.no)
   ·have eD:R.drop 1=ms.map (cz al ws r):=by rw[←hR];rfl
    cases hms:ms with
    | nil =>
     rw[eD,hms]
     show tU []
     exact⟨oF (by decide) (by decide),fun al' ws' r' ms' i'=>by obtain⟨c,x,e,_⟩:=uS i';cases e⟩
    | cons m q =>
     refine mM (by rw[eD,hms];simp) rd1 (by omega) ?_
     rw[eD,hms,aQ]
     exact rq fun al' ws' r' ok'=>wz ok ok' (mo.en m (by rw[hms];exact aR))
  have S46:=S4C.trans (jj.trans (j5.trans j6))
  refine .inl ⟨⟨_,.of f6⟩,jP (xs:=[V.ref q3,V.ref q4,V.ref q5]) (fun _ σ G=>(∃ o7,σ=[some (V.ref a),some (V.ref ca),some (V.str (tx t)),some (V.ref p4),some (V.int nu),some (V.int (i:Int)),some (V.str (tx od)),o7,none,none,none,none,none,none])/\aD J6 G) ?_ ?_ ?_ ?_⟩
  ·exact⟨⟨_,rfl⟩,aD.refl _⟩
  ·rintro _ σ G _ ⟨_,sG⟩
   exact .of (sG _ _ f6)
  ·rintro j v σ G hj ⟨⟨o7,rfl⟩,sG⟩ N hNx
   clear hN
   obtain⟨p,ls,rfl,gp,l300,l64,nb⟩:=all3 _ (br hj)
   and_intros
   refine⟨rfl,rfs ((S46.trans sG) _ _ Tb4) (sG _ _ gp) l300 l64 nb fun G' sG'=>⟨true,rfl,?_⟩⟩
   rw[ai (by decide)]
   exact hNx _ _ ⟨⟨_,rfl⟩,sG.trans sG'⟩
  rintro σ K1 ⟨⟨o7,rfl⟩,k1⟩
  show nn _ _ _
  rw[hN]
  clear hN nn all3 f1 f2 f3 f4 f5 f6
  have SK1:=S46.trans k1
  grind
  refine⟨_,.l (SK1 _ _ g4),?_⟩
  rw[aj]
  have n9:∀ G,aD H4 G->nn { nx:=fun x H'=>Q V.non H',rt:=Q } [some (V.ref a),some (V.ref ca),some (V.str (tx t)),some (V.ref p4),some (V.int nu),some (V.int (i:Int)),some (V.str (tx od)),o7,none,none,none,none,none,none] G:=by
   intro G S4G
   cbv
   grind
   simp only[aJ]
   refine⟨big (show 1+t.length<=_ by omega),big (show t.length+1<=_ by omega),t,rfl,by omega,big (show t.length+1<=_ by omega),big (by decide),fun q1 J1 hq1 j1 f1=>⟨big (by decide),fun q2 J2 hq2 j2 f2=>⟨big (by decide),fun q3 J3 hq3 j3 f3=>?_⟩⟩⟩
   rw[show Str.ofString " "=tx [32] from rfl,show Str.ofString "\n"=tx [10] from rfl,cy,cy,cy,show (UInt8.ofNat ' '.val.toNat).toNat=32 from rfl] at f3
   have bn:=CS ok mo ml59
   rw[ht] at bn
   obtain⟨c6,x6,e6,c61,c62⟩:=uS ib
   have nw:tU (t++[10]):=by
    have nr:yb (t++10::[]):=fun al' ws' r' ms' R'=>by
     have e:=R'.eq
     rw[sn (by simp),←hR] at e
     have:([]:List Nat)∈ms'.map (cz al' ws' r'):=by
      injection e with _ e
      rw[←e]
      simp
     obtain⟨m,hm,em⟩:=aM.mp this
     exact (uF (row:=[]) R'.ok (by decide) (by simp)).no m (R'.mo.en m hm) em
    exact⟨nr.rd (by rw[ah];simp only[ag,ax];omega),nr.bk⟩
   have n1:tU (32::t):=⟨oF (by rw[ag];omega) (by rw[me (by decide)];omega),fun al' ws' r' ms' i'=>by obtain⟨c,x,e,_⟩:=uS i';cases e⟩
   have n2:tU (StrLaws.dbl 32 t):=⟨oF (by have:=zU 32 t;omega) (by rw[uq 32 10 (by decide)];omega),fun al' ws' r' ms' i'=>by
    obtain⟨c,x,e,h1,_⟩:=uS i'
    rw[e6] at e
    simp [StrLaws.dbl] at e
    omega⟩
   have txt:∀ {G:Hp}{l:List Nat},tU l->∃ tg,eI G (.str (tx l))=some tg/\∀ t',V.str (tx l)=.str (tx t')->rG t'/\wt t':=fun n=>⟨.str,rfl,fun t' e=>by cases dG (V.str.inj e);exact⟨n.rd,n.no⟩⟩
   cbv
   grind
   intro q4 J4 hq4 j4 f4
   refine⟨big (by decide),fun q5 J5 hq5 j5 f5=>⟨_,_,(j4.trans j5) _ _ f3,f5,big (by simp),fun q6 J6 hq6 j6 f6=>?_⟩⟩
   obtain⟨vs,ev,Av⟩:∃ vs,J6 q6=some (.lst vs)/\∀ v∈vs,∃ tg,eI J6 v=some tg/\∀ t',v=.str (tx t')->rG t'/\wt t':=⟨_,f6,by
    simp only[eY,cM]
    exact⟨⟨txt n1,txt bn,txt n2,txt nw,⟨.non,rfl,fun _ e=>by cases e⟩,⟨.bl,rfl,fun _ e=>by cases e⟩,⟨.int,rfl,fun _ e=>by cases e⟩,⟨.lst,by show i3 (J6 q1)=_;rw[(j2.trans (j3.trans (j4.trans (j5.trans j6)))) _ _ f1];rfl,fun _ e=>by cases e⟩,⟨.tup,by show i3 (J6 q2)=_;rw[(j3.trans (j4.trans (j5.trans j6))) _ _ f2];rfl,fun _ e=>by cases e⟩,fun _ h=>by cases h⟩,⟨.dct,by show i3 (J6 q4)=_;rw[(j5.trans j6) _ _ f4];rfl,fun _ e=>by cases e⟩,fun _ h=>by cases h⟩⟩
   have S46:=S4G.trans (j1.trans (j2.trans (j3.trans (j4.trans (j5.trans j6)))))
   clear f1 f2 f3 f4 f5 f6 n1 n2 bn txt
   refine .inl ⟨⟨_,.of ev⟩,jP (xs:=vs) (fun _ σ G=>(∃ o9,σ=[some (V.ref a),some (V.ref ca),some (V.str (tx t)),some (V.ref p4),some (V.int nu),some (V.int (i:Int)),some (V.str (tx od)),o7,some (V.ref q3),o9,none,none,none,none])/\aD J6 G) ?_ ?_ ?_ ?_⟩
   ·exact⟨⟨_,rfl⟩,aD.refl _⟩
   ·rintro _ σ G _ ⟨_,sG⟩
    exact .of (sG _ _ ev)
   ·rintro j v σ G hj ⟨⟨o9,rfl⟩,sG⟩ N hNx
    clear hN
    obtain⟨tg,htg,hv⟩:=Av _ (br hj)
    and_intros
    refine⟨v,tg,rfl,fw sG htg,(S46.trans sG) _ _ Tb4,hv,fun G' sG'=>⟨true,rfl,?_⟩⟩
    rw[ai (by decide)]
    exact hNx _ _ ⟨⟨_,rfl⟩,sG.trans sG'⟩
   rintro σ K1 ⟨⟨o9,rfl⟩,k1⟩
   show nn _ _ _
   rw[hN]
   clear hN nn Av ev
   have SK1:=S46.trans k1
   grind
   refine⟨_,.l (SK1 _ _ g4),?_⟩
   rw[aj]
   have n13:∀ G oA oB oC oD,aD H4 G->nn { nx:=fun x H'=>Q V.non H',rt:=Q } [some (V.ref a),some (V.ref ca),some (V.str (tx t)),some (V.ref p4),some (V.int nu),some (V.int (i:Int)),some (V.str (tx od)),o7,some (V.ref q3),o9,oA,oB,oC,oD] G:=by
    intro G oA oB oC oD S4G
    cbv
    grind
    refine⟨t,a,ns,rfl,S4G.seq (S4.seq hS1),by omega,fun t' G' h1 h2 sG'=>?_⟩
    have rd:rG t':=oF (by omega) (by omega)
    have Tb':=(S4G.trans sG') _ _ Tb4
    cbv
    grind
    have fin:∀ G2,aD G' G2->nn { nx:=fun x H'=>Q V.non H',rt:=Q } [some (V.ref a),some (V.ref ca),some (V.str (tx t')),some (V.ref p4),some (V.int nu),some (V.int (i:Int)),some (V.str (tx od)),o7,some (V.ref q3),o9,oA,oB,oC,oD] G2:=fun G2 sG2=>by
     cbv
     and_intros
     refine⟨⟨by decide,by decide⟩,by decide,?_⟩
     split
     ·exact k G2
     ·exact⟨nu,rfl,sG2 _ _ Tb',k⟩
    refine⟨t',rfl,Tb',rd,(fun _ G2 sG2=>⟨true,rfl,?_⟩),fun hno G2 sG2=>⟨false,rfl,?_⟩⟩
    ·rw[ai (by decide)]
     exact fin G2 sG2
    ·rw[ao (by decide)]
     refine rf1 (sG2 _ _ Tb') ⟨rd,hno⟩ fun G3 sG3=>⟨true,rfl,?_⟩
     rw[ai (by decide)]
     exact fin G3 (sG2.trans sG3)
   by_cases h1:1<R.length
   rotate_left
   ·rw[ai (by rw[aE (by omega)];decide)]
    exact n13 K1 _ _ _ _ SK1
   rw[ao (aC (by omega))]
   refine ft fun n2 hM=>?_
   and_intros
   obtain⟨m0,q0,hms⟩:∃ m q,ms=m::q:=by cases ms with | nil=>simp at rl;omega | cons m q=>exact⟨m,q,rfl⟩
   have hm0:=mo.en m0 (by rw[hms];exact aR)
   obtain⟨w01,w02,_⟩:=fz ok hm0.2.1 hm0.2.2
   have n32:32∉wdL al ws r m0.num:=fun z=>by have:=w02 _ z;omega
   obtain⟨y,hy⟩:∃ y,fH m0.key=32::y:=by
    rcases eQ hm0.1 with e | ⟨l,e,_⟩ | ⟨l,e,_⟩<;>rw[e]
    ·exact⟨_,rfl⟩
    ·exact⟨_,by rw[fS];rfl⟩
    ·exact⟨_,by rw[fR];rfl⟩
   have el:=lA ok hm0
   have eR0:cz al ws r m0=wdL al ws r m0.num++32::y:=by unfold cz;rw[hy]
   refine⟨_,_,.l (SK1 _ _ g4),bB (j:=1) (show _=some (V.str (tx (cz al ws r m0))) by rw[bY,←hR,hms];rfl),rfl,?_⟩
   and_intros
   refine⟨by rw[aJ];omega,32,wdL al ws r m0.num,y,rfl,by rw[eR0],n32,fun q7 K2 hq7 k2 f7=>⟨_,.t f7,rfl,?_⟩⟩
   and_intros
   rw[hM]
   clear hM n2
   have C4:=C3.same s4
   obtain⟨dc4,qc4,hc41,hc42⟩:=id C4
   have cfn:=bG (m:=Str.ofString "word") (by decide) (by decide) (by decide) al qc4 r
   have m9:9<=cg al ws:=by
    unfold cg
    rw[←Int.natCast_pow]
    exact Int.ofNat_le.mpr (bJ (show 9<=3^(ws.length-1) from bJ (show 9<=3^2 by decide) (m5 (by decide) (by omega))) (Nat.pow_le_pow_left a3 _))
   have wrd:∀ (j:Int) {G:Hp}{RR:VK}{E':XK},0<=j->j<9->aD H4 G->(∀ G',aD G G'->RR (.str (tx (wdL al ws r j))) G')->dP Ad [.ref ca,.int j] G RR E':=fun j {G RR E'} j0 j1 s kk=>⟨ca,al,ws,r,_,.int,rfl,C4.same s,ok,rfl,(fun h=>by rw[show bV ((al.length:Int)^(ws.length-1)) (V.int j)=true from i4 j0 (show j<cg al ws by omega)] at h;cases h),fun n e n0 n1 G' t'=>by cases e;exact kk G' t'⟩
   have S2:=SK1.trans k2
   refine ft fun n2 hM=>?_
   and_intros
   refine⟨dc4,_,S2 _ _ hc41,cfn,wrd 0 (by decide) (by decide) S2 fun K3 k3=>?_⟩
   rw[hM]
   clear hM n2
   have S3':=S2.trans k3
   refine ft fun n2 hM=>?_
   have fin:∀ (j:Int) (G:Hp),0<=j->j<9->aD H4 G->n2 { nx:=fun σ' H'=>nn { nx:=fun x H'=>Q V.non H',rt:=Q } σ' H',rt:=Q } [some (V.ref a),some (V.ref ca),some (V.str (tx t)),some (V.ref p4),some (V.int nu),some (V.int (i:Int)),some (V.str (tx od)),o7,some (V.ref q3),o9,some (V.str (tx (wdL al ws r m0.num))),some (V.str (tx [32])),some (V.str (tx y)),some (V.str (tx (wdL al ws r j)))] G:=by
    intro j G j0 j1 sG
    obtain⟨wj1,wj2,_⟩:=fz ok j0 (show j<cg al ws by omega)
    rw[hM]
    clear hM n2 hN
    and_intros
    rw[show Str.ofString "\n"=tx [10] from rfl,show Str.ofString " "=tx [32] from rfl]
    simp only[cy,aJ]
    have yl:y.length<=138:=by rw[eR0,ah,ag] at el;omega
    have es:=rN hm0.1
    have nr:yb (t++10::(wdL al ws r j++fH m0.key)):=fun al' ws' r' ms' R'=>by
     have e:=R'.eq
     rw[sn (fun z=>(bw.mp z).elim (fun z=>by have:=wj2 _ z;omega) es.2),←hR] at e
     have e':bU al ws r::(ms.map (cz al ws r)++[wdL al ws r j++fH m0.key])=bU al' ws' r'::ms'.map (cz al' ws' r'):=e
     injection e' with e1 e2
     obtain⟨rfl,rfl,rfl⟩:=i5 ok R'.ok e1
     have lms:ms'.length=ms.length+1:=by have:=aG List.length e2;simp at this;omega
     have z0:(ms'.map (cz al ws r))[0]?=some (cz al ws r m0):=by rw[←e2,hms];rfl
     have z1:(ms'.map (cz al ws r))[ms.length]?=some (wdL al ws r j++fH m0.key):=by rw[←e2,gj (by simp)];simp
     rw[bY] at z0 z1
     obtain⟨x0,x1,x2⟩:=fB.mp z0
     obtain⟨y0,y1,y2⟩:=fB.mp z1
     have hx0:=R'.mo.en x0 (br x1)
     have hy0:=R'.mo.en y0 (br y1)
     have k1:x0.key=m0.key:=aG Prod.snd (lu ok hx0 hm0 x2)
     have k2:=wH hy0.1 hm0.1 (vP ok hy0 wj1 y2.symm).2.symm
     have nd:=pj.mp R'.mo.nk 0 ms.length (by rw[aj];omega) (by rw[aj];omega) (by rw[hms];simp)
     rw[List.getElem_map,List.getElem_map,(b9.mp x1).2,(b9.mp y1).2] at nd
     exact nd (k1.trans k2.symm)
    refine⟨big (by simp only[ag,ax];omega),big (by simp only[ah,ag,ax];omega),big (by simp only[ah,ag,ax];omega),big (by simp only[ah,ag,ax];omega),?_⟩
    rw[show t++[10]++wdL al ws r j++[32]++y=t++10::(wdL al ws r j++fH m0.key) by rw[hy];simp]
    refine rf1 (sG _ _ Tb4) ⟨nr.rd (by simp only[ah,ag];omega),nr.bk⟩ fun G' sG'=>⟨true,rfl,?_⟩
    rw[ai (by decide)]
    exact n13 G' _ _ _ _ (sG.trans sG')
   and_intros
   split
   ·exact⟨dc4,_,S3' _ _ hc41,cfn,wrd 1 (by decide) (by decide) S3' fun K4 k4=>fin 1 K4 (by decide) (by decide) (S3'.trans k4)⟩
   ·exact fin 0 K3 (by decide) (by decide) S3'
  by_cases h1:1<R.length
  ·rw[ao (aC (by omega))]
   refine⟨rfl,p4,R,nu,rfl,SK1 _ _ g4,by omega,by omega,hmx,fun q ls K2 tu k2 gq=>?_⟩
   and_intros
   rw[←hR] at tu
   obtain⟨t1,t2,t3,t4⟩:=Cv ok mo tu
   rw[hR] at t2
   refine rfs ((SK1.trans k2) _ _ Tb4) gq (fun l h=>(rb l (t2 l h)).2) (by omega) (mM t3 (fun l h=>rb l (t2 l h)) (by omega) t1) fun K3 k3=>⟨true,rfl,?_⟩
   rw[ai (by decide)]
   exact n9 K3 (SK1.trans (k2.trans k3))
  ·rw[ai (by rw[aE (by omega)];decide)]
   exact n9 K1 SK1
end
theorem all_mk {l:PySem.W.OpenLaw}{w:World}{h:Heap}{mg:Str->Option Value}{fa:Addr}{k_Code k_Book k_CableError k_NoCode k_NoNumber k_NoWord k_NoEntry k_Twice k_TooMany k_NoBook k_NoText k_NoReading k_NoSetting k_TooGarbled k_NoNet k_NoOffice k_NoDay k_NoRow k_cd k_tb:Addr}{f11 f24 f26 f56:Addr} (X:K.In h) (G:h.Ns mainGlobals mg) (hfa:mg "law"=some (.ref fa))
  {od11 an11 od24 an24 od26 an26 od56 an56:Option Addr}{sl11 sl24 sl26 sl56:Array (Option Value)}{oc11 kV11 dc11 pm11 cd11 ct11 oc24 kV24 dc24 pm24 cd24 ct24 oc26 kV26 dc26 pm26 ct26 oc56 kV56 dc56 pm56 cd56 ct56:Value}
  (y0:PySem.W.nsIn K mainGlobals "Code"=some (some (.ref k_Code)))
  (y1:PySem.W.nsIn K mainGlobals "Book"=some (some (.ref k_Book)))
  (y2:PySem.W.nsIn K mainGlobals "CableError"=some (some (.ref k_CableError)))
  (y3:PySem.W.nsIn K mainGlobals "NoCode"=some (some (.ref k_NoCode)))
  (y4:PySem.W.nsIn K mainGlobals "NoNumber"=some (some (.ref k_NoNumber)))
  (y5:PySem.W.nsIn K mainGlobals "NoWord"=some (some (.ref k_NoWord)))
  (y6:PySem.W.nsIn K mainGlobals "NoEntry"=some (some (.ref k_NoEntry)))
  (y7:PySem.W.nsIn K mainGlobals "Twice"=some (some (.ref k_Twice)))
  (y8:PySem.W.nsIn K mainGlobals "TooMany"=some (some (.ref k_TooMany)))
  (y9:PySem.W.nsIn K mainGlobals "NoBook"=some (some (.ref k_NoBook)))
  (y10:PySem.W.nsIn K mainGlobals "NoText"=some (some (.ref k_NoText)))
  (y11:PySem.W.nsIn K mainGlobals "NoReading"=some (some (.ref k_NoReading)))
  (y12:PySem.W.nsIn K mainGlobals "NoSetting"=some (some (.ref k_NoSetting)))
  (y13:PySem.W.nsIn K mainGlobals "TooGarbled"=some (some (.ref k_TooGarbled)))
  (y14:PySem.W.nsIn K mainGlobals "NoNet"=some (some (.ref k_NoNet)))
  (y15:PySem.W.nsIn K mainGlobals "NoOffice"=some (some (.ref k_NoOffice)))
  (y16:PySem.W.nsIn K mainGlobals "NoDay"=some (some (.ref k_NoDay)))
  (y17:PySem.W.nsIn K mainGlobals "NoRow"=some (some (.ref k_NoRow)))
  (d0:dH K "is_whole" nC)
  (d1:dH K "common_divisor" gF)
  (d2:dH K "are_safe" n6)
  (d3:dH K "is_alphabet" j9)
  (d4:dH K "is_below" nA)
  (d5:dH K "are_weights" j8)
  (d6:dH K "is_word" pZ)
  (d7:dH K "places_of" lR)
  (d8:dH K "spelled" qa)
  (d9:dH K "are_good" n5)
  (d10:dH K "is_good" pY)
  (a11:PySem.W.findIn K (.ref k_Code) "__init__"=some (some (.ref f11)))
  (i11:PySem.W.isFn K (.ref f11)=true)
  (l11:K.lookup f11=some ⟨oc11,od11,.func (PySem.W.fnOf "__init__" "Code.__init__" (dD fN) (cE fN) (ay fN) .none kV11 dc11 pm11 an11 cd11 ct11),sl11⟩)
  (c11:PySem.W.codeIn K cd11 "Code.__init__"=true)
  (k11:PySem.W.keepIn K (.ref f11)=true)
  (d12:lq K k_Code "alphabet" "Code.alphabet" ia)
  (d13:lq K k_Code "weights" "Code.weights" iE)
  (d14:lq K k_Code "rest" "Code.rest" lJ)
  (d15:lq K k_Code "many" "Code.many" lI)
  (d16:lq K k_Code "word" "Code.word" lK)
  (d17:lq K k_Code "number" "Code.number" jz)
  (d18:lq K k_Code "has_good" "Code.has_good" ic)
  (d19:dH K "are_letters" j7)
  (d20:dH K "are_words" lL)
  (d21:dH K "number_written" gH)
  (d22:dH K "code_written" iF)
  (d23:dH K "is_entry" nB)
  (a24:PySem.W.findIn K (.ref k_Book) "__init__"=some (some (.ref f24)))
  (i24:PySem.W.isFn K (.ref f24)=true)
  (l24:K.lookup f24=some ⟨oc24,od24,.func (PySem.W.fnOf "__init__" "Book.__init__" (dD fM) (cE fM) (ay fM) .none kV24 dc24 pm24 an24 cd24 ct24),sl24⟩)
  (c24:PySem.W.codeIn K cd24 "Book.__init__"=true)
  (k24:PySem.W.keepIn K (.ref f24)=true)
  (d25:lq K k_Book "code" "Book.code" lH)
  (a26:PySem.W.findIn K (.ref k_Book) "put"=some (some (.ref f26)))
  (i26:PySem.W.isFn K (.ref f26)=true)
  {dt26:Addr}{tc26:Value}{td26:Option Addr}{tn26:Nat}{ts26:Array (Option Value)}
  (l26:K.lookup f26=some ⟨oc26,od26,.func (PySem.W.fnOf "put" "Book.put" (dD da) (cE da) (ay da) (.ref dt26) kV26 dc26 pm26 an26 (.ref k_cd) ct26),sl26⟩)
  (t26:K.lookup dt26=some ⟨tc26,td26,.seq #[.none] tn26,ts26⟩)
  (c26:PySem.W.codeIn K (.ref k_cd) "Book.put"=true)
  (k26:PySem.W.keepIn K (.ref f26)=true)
  (d27:lq K k_Book "choose" "Book.choose" jx)
  (d28:lq K k_Book "least_free" "Book.least_free" fW)
  (d29:lq K k_Book "entry" "Book.entry" kF)
  (d30:lq K k_Book "number" "Book.number" jy)
  (d31:lq K k_Book "entries" "Book.entries" iD)
  (d32:dH K "code_row" n8)
  (d33:dH K "entry_row" lM)
  (d34:dH K "shown" vR)
  (d35:dH K "entry_written" ie)
  (d36:dH K "built" vQ)
  (d37:dH K "read" zu)
  (d38:dH K "_law_cell_at" jA)
  (d39:dH K "_law_mixed" lP)
  (d40:dH K "_law_divisor" jC)
  (d41:dH K "_law_weight" kH)
  (d42:dH K "_law_code" nE)
  (d43:dH K "_law_word" nH)
  (d44:dH K "_law_some_words" gG)
  (d45:dH K "_law_entry" lN)
  (d46:dH K "_law_filled" kG)
  (d47:dH K "_law_told" nG)
  (d48:dH K "_law_only" nF)
  (d49:dH K "_law_refused" jE)
  (d50:dH K "_law_stays" lQ)
  (d51:dH K "_law_odd_row" jD)
  (d52:dH K "_law_odd_first" ig)
  (d53:dH K "_law_rows_turned" fX)
  (d54:dH K "_law_changed" jB)
  (d55:dH K "_law_great" lO)
  (a56:PySem.W.nsIn K mainGlobals "law"=some (some (.ref f56)))
  (l56:K.lookup f56=some ⟨oc56,od56,.func (PySem.W.fnOf "law" "law" (dD oH) (cE oH) (ay oH) .none kV56 dc56 pm56 an56 cd56 ct56),sl56⟩)
  (c56:PySem.W.codeIn K cd56 "law"=true)
  (k56:PySem.W.keepIn K (.ref f56)=true)
  (y91:PySem.W.plainGet K k_Code Str.empty=true)
  (y92:PySem.W.hasDictIn K k_Code=true)
  (y93:PySem.W.plainOver K k_Code=true)
  (y94:PySem.W.findIn K (.ref k_Code) "__setattr__"=some (some (.builtin "object.__setattr__")))
  (y95:PySem.W.makesIn K k_Code=true)
  (y96:PySem.W.keepIn K (.ref k_Code)=true)
  (y97:PySem.W.findIn K (.ref k_Code) "letters"=some none)
  (y98:PySem.W.findIn K (.ref k_Code) "factors"=some none)
  (y99:PySem.W.findIn K (.ref k_Code) "remainder"=some none)
  (y100:PySem.W.plainGet K k_Book Str.empty=true)
  (y101:PySem.W.hasDictIn K k_Book=true)
  (y102:PySem.W.plainOver K k_Book=true)
  (y103:PySem.W.findIn K (.ref k_Book) "__setattr__"=some (some (.builtin "object.__setattr__")))
  (y104:PySem.W.makesIn K k_Book=true)
  (y105:PySem.W.keepIn K (.ref k_Book)=true)
  (y106:PySem.W.findIn K (.ref k_Book) "basis"=some none)
  (y107:PySem.W.findIn K (.ref k_Book) "by_number"=some none)
  (y108:PySem.W.findIn K (.ref k_Book) "by_entry"=some none)
  (y109:PySem.W.excIn K k_NoCode [.type "ValueError",.type "Exception",.type "BaseException",.type "object"] "ValueError.__new__"=true)
  (y110:PySem.W.excIn K k_NoNumber [.type "ValueError",.type "Exception",.type "BaseException",.type "object"] "ValueError.__new__"=true)
  (y111:PySem.W.excIn K k_NoWord [.type "ValueError",.type "Exception",.type "BaseException",.type "object"] "ValueError.__new__"=true)
  (y112:PySem.W.excIn K k_NoEntry [.type "ValueError",.type "Exception",.type "BaseException",.type "object"] "ValueError.__new__"=true)
  (y113:PySem.W.excIn K k_Twice [.type "ValueError",.type "Exception",.type "BaseException",.type "object"] "ValueError.__new__"=true)
  (y114:PySem.W.excIn K k_TooMany [.type "ValueError",.type "Exception",.type "BaseException",.type "object"] "ValueError.__new__"=true)
  (y115:PySem.W.excIn K k_NoBook [.type "ValueError",.type "Exception",.type "BaseException",.type "object"] "ValueError.__new__"=true)
  (y116:PySem.W.excIn K k_NoText [.type "ValueError",.type "Exception",.type "BaseException",.type "object"] "ValueError.__new__"=true)
  (y117:PySem.W.excIn K k_NoNet [.type "ValueError",.type "Exception",.type "BaseException",.type "object"] "ValueError.__new__"=true)
  (y118:PySem.W.excIn K k_NoOffice [.type "ValueError",.type "Exception",.type "BaseException",.type "object"] "ValueError.__new__"=true)
  (y119:PySem.W.excIn K k_NoDay [.type "ValueError",.type "Exception",.type "BaseException",.type "object"] "ValueError.__new__"=true)
  (y120:PySem.W.excIn K k_NoRow [.type "ValueError",.type "Exception",.type "BaseException",.type "object"] "ValueError.__new__"=true)
  (y121:PySem.W.findIn K (.ref k_Book) "__class__"=some (some (.builtin "object.__class__")))
  (y122:PySem.W.specialIn K (.builtin "object.__class__") "__get__"=some (some (.builtin "getset_descriptor.__get__")))
  (y123:PySem.W.takesIn K (.builtin "object.__class__")=some true)
  (y124:PySem.W.mroIn K k_Book (.type "object")=some true)
  (y125:PySem.W.kitOne K (.ref k_Book) (.ref k_Book)=some true)
  (tab:PySem.W.codeHdIn K k_cd k_tb=true)
  (err:uZ K k_CableError [k_NoCode,k_NoNumber,k_NoWord,k_NoEntry,k_Twice,k_TooMany,k_NoBook,k_NoText,k_NoReading,k_NoSetting,k_TooGarbled,k_NoNet,k_NoOffice,k_NoDay,k_NoRow]=true)
  (ndx:ndB [k_NoCode,k_NoNumber,k_NoWord,k_NoEntry,k_Twice,k_TooMany,k_NoBook,k_NoText,k_NoReading,k_NoSetting,k_TooGarbled,k_NoNet,k_NoOffice,k_NoDay,k_NoRow]=true)
  {u_SMALL_LETTERS:Value}
  (y129:PySem.W.nsIn K mainGlobals "SMALL_LETTERS"=some (some u_SMALL_LETTERS))
  (y130:RelV (.str "abcdefghijklmnopqrstuvwxyz") u_SMALL_LETTERS)
  {u_FIGURES:Value}
  (y131:PySem.W.nsIn K mainGlobals "FIGURES"=some (some u_FIGURES))
  (y132:RelV (.str "0123456789") u_FIGURES)
  {u_MOST_FIGURES:Value}
  (y133:PySem.W.nsIn K mainGlobals "MOST_FIGURES"=some (some u_MOST_FIGURES))
  (y134:RelV (.int 9) u_MOST_FIGURES)
  {u_LONGEST_WORD:Value}
  (y135:PySem.W.nsIn K mainGlobals "LONGEST_WORD"=some (some u_LONGEST_WORD))
  (y136:RelV (.int 20) u_LONGEST_WORD)
  {u_MOST_ENTRIES:Value}
  (y137:PySem.W.nsIn K mainGlobals "MOST_ENTRIES"=some (some u_MOST_ENTRIES))
  (y138:RelV (.int 300) u_MOST_ENTRIES)
  {u_MOST_PHRASE_WORDS:Value}
  (y139:PySem.W.nsIn K mainGlobals "MOST_PHRASE_WORDS"=some (some u_MOST_PHRASE_WORDS))
  (y140:RelV (.int 6) u_MOST_PHRASE_WORDS)
  {u_MOST_PART_LETTERS:Value}
  (y141:PySem.W.nsIn K mainGlobals "MOST_PART_LETTERS"=some (some u_MOST_PART_LETTERS))
  (y142:RelV (.int 6) u_MOST_PART_LETTERS)
  (y143:PySem.W.nsIn K mainGlobals "isinstance"=some none)
  (y144:PySem.W.nsIn K mainGlobals "bool"=some none)
  (y145:PySem.W.nsIn K mainGlobals "int"=some none)
  (y146:PySem.W.nsIn K mainGlobals "abs"=some none)
  (y147:PySem.W.nsIn K mainGlobals "all"=some none)
  (y148:PySem.W.nsIn K mainGlobals "zip"=some none)
  (y149:PySem.W.nsIn K mainGlobals "len"=some none)
  (y150:PySem.W.nsIn K mainGlobals "set"=some none)
  (y151:PySem.W.nsIn K mainGlobals "str"=some none)
  (y152:PySem.W.nsIn K mainGlobals "list"=some none)
  (y153:PySem.W.nsIn K mainGlobals "sum"=some none)
  (y154:PySem.W.nsIn K mainGlobals "range"=some none)
  (y155:PySem.W.nsIn K mainGlobals "tuple"=some none)
  (y156:PySem.W.nsIn K mainGlobals "sorted"=some none)
  (y157:PySem.W.nsIn K mainGlobals "enumerate"=some none)
  (y158:PySem.W.nsIn K mainGlobals "ValueError"=some none)
  : (∃ c,PySem.W.codeHdIn K c k_tb=true)/\∃ fd:FuncData,(∀ (s:Shared) (v:Value),BindsTo s fd ⟨[v],[]⟩ [("_law_script",v)])/\∀ base:Heap,K.In base->base.Ns mainGlobals mg->bI l.prog w K mg base (CX1 l.prog w) 11 fa fd ["_law_script"] (z9 K k_tb):=by
 have e:=hfa.symm.trans (bO X G a56)
 cases e
 have T:Bl mg:=⟨dj X G y143,dj X G y144,dj X G y145,dj X G y146,dj X G y147,dj X G y148,dj X G y149,dj X G y150,dj X G y151,dj X G y152,dj X G y153,dj X G y154,dj X G y155,dj X G y156,dj X G y157,dj X G y158⟩
 have AF:AdF K mg ⟨k_Code,k_Book,k_CableError,k_NoCode,k_NoNumber,k_NoWord,k_NoEntry,k_Twice,k_TooMany,k_NoBook,k_NoText,k_NoReading,k_NoSetting,k_TooGarbled,k_NoNet,k_NoOffice,k_NoDay,k_NoRow,k_cd,k_tb,()⟩:=⟨bO X G y0,bO X G y1,bO X G y2,bO X G y3,bO X G y4,bO X G y5,bO X G y6,bO X G y7,bO X G y8,bO X G y9,bO X G y10,bO X G y11,bO X G y12,bO X G y13,bO X G y14,bO X G y15,bO X G y16,bO X G y17,⟨y91,y92,y93,y94⟩,y97,y98,y99,⟨y100,y101,y102,y103⟩,y106,y107,y108,y109,y110,y111,y112,y113,y114,y115,y116,y117,y118,y119,y120,⟨y121,y122,y123,y124,y125⟩,tab,err,ndx,⟨_,bO X G y129,y130⟩,⟨_,bO X G y131,y132⟩,⟨_,bO X G y133,y134⟩,⟨_,bO X G y135,y136⟩,⟨_,bO X G y137,y138⟩,⟨_,bO X G y139,y140⟩,⟨_,bO X G y141,y142⟩⟩
 have F11:=rV (st:=fN) l11 c11 k11
 have F24:=rV (st:=fM) l24 c24 k24
 have F26:=FU (st:=da) l26 c26 k26
 have F56:=rV (st:=oH) l56 c56 k56
 refine⟨⟨_,tab⟩,PySem.W.fnOf "law" "law" (dD oH) (cE oH) (ay oH) .none kV56 dc56 pm56 an56 cd56 ct56,fun s v=>.of_eq rfl,fun base _ _=>?_⟩
 have Z {k:Nat}{x:Str}{st:Stmt}{ps:List Str}{sp:Sp}{CX:L2.CXT}:=@dH.fnc l.prog w K h base mg k x st ps sp CX X G
 have Y {k:Nat}{m q:Str}{st:Stmt}{C:Addr}{ps:List Str}{sp:Sp}:=@lq.mtd l.prog w K base mg k m q st C ps sp
 have C_is_whole:=Z d0 (fun _ _ F=>xn F T AF ) fun _ _ _ _ _ _=>L2.bind1 fun _=>rfl
 have C_common_divisor:=Z d1 (fun _ _ F=>om F T AF ) fun _ _ _ _ _ _=>L2.eO fun _ _=>rfl
 have C_is_alphabet:=Z d3 (fun _ _ F=>sL F T AF ) fun _ _ _ _ _ _=>L2.bind1 fun _=>rfl
 have C_is_word:=Z d6 (fun _ _ F=>zb F T AF ) fun _ _ _ _ _ _=>L2.zN fun _ _ _=>rfl
 have C_places_of:=Z d7 (fun _ _ F=>vI F T AF ) fun _ _ _ _ _ _=>L2.eO fun _ _=>rfl
 have C_spelled:=Z d8 (fun _ _ F=>zc F T AF ) fun _ _ _ _ _ _=>L2.eO fun _ _=>rfl
 have C_are_good:=Z d9 (fun _ _ F=>xi F T AF ) fun _ _ _ _ _ _=>L2.zO fun _ _ _ _=>rfl
 have M_Code_alphabet:=Y AF.c_Code d12 (fun _ _ F=>pR F T AF ) fun _ _ _ _ _ _=>L2.bind1 fun _=>rfl
 have M_Code_weights:=Y AF.c_Code d13 (fun _ _ F=>qS F T AF ) fun _ _ _ _ _ _=>L2.bind1 fun _=>rfl
 have M_Code_rest:=Y AF.c_Code d14 (fun _ _ F=>vA F T AF ) fun _ _ _ _ _ _=>L2.bind1 fun _=>rfl
 have M_Code_many:=Y AF.c_Code d15 (fun _ _ F=>v8 F T AF ) fun _ _ _ _ _ _=>L2.bind1 fun _=>rfl
 have C_are_letters:=Z d19 (fun _ _ F=>sI F T AF ) fun _ _ _ _ _ _=>L2.eO fun _ _=>rfl
 have C_number_written:=Z d21 (fun _ _ F=>oq F T AF ) fun _ _ _ _ _ _=>L2.bind1 fun _=>rfl
 have b24:=F24.binds (ps:=["self","code"]) fun _ _ _ _ _ _=>L2.eO fun _ _=>rfl
 have K_Book:Mak l.prog w K mg base (CX1 l.prog w) k_Book "Book" 1 ["self","code"] (gc (⟨k_Code,k_Book,k_CableError,k_NoCode,k_NoNumber,k_NoWord,k_NoEntry,k_Twice,k_TooMany,k_NoBook,k_NoText,k_NoReading,k_NoSetting,k_TooGarbled,k_NoNet,k_NoOffice,k_NoDay,k_NoRow,k_cd,k_tb,()⟩:Ads)):=⟨⟨f24,_,vz F24 T AF ,⟨y104,a24,i24,y105⟩,b24⟩,AF.g_Book⟩
 have M_Book_code:=Y AF.c_Book d25 (fun _ _ F=>vy F T AF ) fun _ _ _ _ _ _=>L2.bind1 fun _=>rfl
 have M_Book_entries:=Y AF.c_Book d31 (fun _ _ F=>qR F T AF ) fun _ _ _ _ _ _=>L2.bind1 fun _=>rfl
 have C_entry_row:=Z d33 (fun _ _ F=>vD F T AF ) fun _ _ _ _ _ _=>L2.eO fun _ _=>rfl
 have C_entry_written:=Z d35 (fun _ _ F=>pT F T AF ) fun _ _ _ _ _ _=>L2.bind1 fun _=>rfl
 have C_law_cell_at:=Z d38 (fun _ _ F=>sM F T AF ) fun _ _ _ _ _ _=>L2.eO fun _ _=>rfl
 have C_law_mixed:=Z d39 (fun _ _ F=>vG F T AF ) fun _ _ _ _ _ _=>L2.bind1 fun _=>rfl
 have C_law_divisor:=Z d40 (fun _ _ F=>sO F T AF ) fun _ _ _ _ _ _=>L2.eO fun _ _=>rfl
 have C_law_word:=Z d43 (fun _ _ F=>xt F T AF ) fun _ _ _ _ _ _=>L2.bind1 fun _=>rfl
 have C_law_only:=Z d48 (fun _ _ F=>xp F T AF ) fun _ _ _ _ _ _=>L2.bind1 fun _=>rfl
 have C_law_rows_turned:=Z d53 (fun _ _ F=>nt F T AF ) fun _ _ _ _ _ _=>L2.eO fun _ _=>rfl
 have C_are_safe:=Z d2 (fun _ _ F=>xj F T AF C_common_divisor) fun _ _ _ _ _ _=>L2.eO fun _ _=>rfl
 have C_is_below:=Z d4 (fun _ _ F=>xl F T AF C_is_whole) fun _ _ _ _ _ _=>L2.eO fun _ _=>rfl
 have C_is_good:=Z d10 (fun _ _ F=>za F T AF C_are_good C_places_of C_is_word) fun _ _ _ _ _ _=>L2.zO fun _ _ _ _=>rfl
 have C_are_words:=Z d20 (fun _ _ F=>vC F T AF C_are_letters) fun _ _ _ _ _ _=>L2.eO fun _ _=>rfl
 have C_code_written:=Z d22 (fun _ _ F=>qT F T AF C_number_written) fun _ _ _ _ _ _=>L2.bind1 fun _=>rfl
 have M_Book_least_free:=Y AF.c_Book d28 (fun _ _ F=>nq F T AF M_Code_many) fun _ _ _ _ _ _=>L2.eO fun _ _=>rfl
 have C_code_row:=Z d32 (fun _ _ F=>xk F T AF M_Code_rest M_Code_weights M_Code_alphabet) fun _ _ _ _ _ _=>L2.bind1 fun _=>rfl
 have C_law_weight:=Z d41 (fun _ _ F=>tZ F T AF C_law_divisor) fun _ _ _ _ _ _=>L2.zN fun _ _ _=>rfl
 have C_law_some_words:=Z d44 (fun _ _ F=>oo F T AF C_law_word) fun _ _ _ _ _ _=>L2.eO fun _ _=>rfl
 have C_law_odd_first:=Z d52 (fun _ _ F=>pU F T AF M_Code_alphabet M_Code_rest M_Code_weights) fun _ _ _ _ _ _=>L2.eO fun _ _=>rfl
 have C_law_changed:=Z d54 (fun _ _ F=>sN F T AF C_law_cell_at) fun _ _ _ _ _ _=>L2.eO fun _ _=>rfl
 have C_are_weights:=Z d5 (fun _ _ F=>sJ F T AF C_is_below) fun _ _ _ _ _ _=>L2.eO fun _ _=>rfl
 have M_Code_word:=Y AF.c_Code d16 (fun _ _ F=>vB F T AF C_spelled C_are_good C_is_below M_Code_many) fun _ _ _ _ _ _=>L2.eO fun _ _=>rfl
 have M_Code_has_good:=Y AF.c_Code d18 (fun _ _ F=>pS F T AF C_is_good) fun _ _ _ _ _ _=>L2.eO fun _ _=>rfl
 have C_is_entry:=Z d23 (fun _ _ F=>xm F T AF C_are_letters C_are_words) fun _ _ _ _ _ _=>L2.bind1 fun _=>rfl
 have M_Book_entry:=Y AF.c_Book d29 (fun _ _ F=>tX F T AF C_is_below M_Code_many) fun _ _ _ _ _ _=>L2.eO fun _ _=>rfl
 have C_law_entry:=Z d45 (fun _ _ F=>vE F T AF C_law_some_words C_law_word) fun _ _ _ _ _ _=>L2.bind1 fun _=>rfl
 have b11:=F11.binds (ps:=["self","alphabet","weights","rest"]) fun _ _ _ _ _ _=>L2.zO fun _ _ _ _=>rfl
 have K_Code:Mak l.prog w K mg base (CX1 l.prog w) k_Code "Code" 4 ["self","alphabet","weights","rest"] (eF (⟨k_Code,k_Book,k_CableError,k_NoCode,k_NoNumber,k_NoWord,k_NoEntry,k_Twice,k_TooMany,k_NoBook,k_NoText,k_NoReading,k_NoSetting,k_TooGarbled,k_NoNet,k_NoOffice,k_NoDay,k_NoRow,k_cd,k_tb,()⟩:Ads)):=⟨⟨f11,_,v3 F11 T AF C_are_safe C_is_below C_are_weights C_is_alphabet,⟨y95,a11,i11,y96⟩,b11⟩,AF.g_Code⟩
 have M_Code_number:=Y AF.c_Code d17 (fun _ _ F=>sF F T AF C_places_of M_Code_has_good) fun _ _ _ _ _ _=>L2.eO fun _ _=>rfl
 have M_Book_choose:=Y AF.c_Book d27 (fun _ _ F=>sD F T AF C_is_below C_is_entry M_Book_least_free M_Code_many) fun _ _ _ _ _ _=>L2.zO fun _ _ _ _=>rfl
 have M_Book_number:=Y AF.c_Book d30 (fun _ _ F=>sE F T AF C_is_entry) fun _ _ _ _ _ _=>L2.eO fun _ _=>rfl
 have C_shown:=Z d34 (fun _ _ F=>Ea F T AF C_code_row C_entry_row M_Book_entries M_Code_word M_Book_code) fun _ _ _ _ _ _=>L2.bind1 fun _=>rfl
 have C_law_odd_row:=Z d51 (fun _ _ F=>sP F T AF M_Code_alphabet M_Code_word M_Code_many) fun _ _ _ _ _ _=>L2.eO fun _ _=>rfl
 have b26:Binds K (PySem.W.fnOf "put" "Book.put" (dD da) (cE da) (ay da) (.ref dt26) kV26 dc26 pm26 an26 (.ref k_cd) ct26) ["self","entry","number"] []:=fun s us hK hl=>by rcases us with _ | ⟨_,_ | ⟨_,_ | ⟨_,_ | _⟩⟩⟩<;>first | (simp at hl;done) | exact .of_defaults rfl (hK _ _ t26) rfl rfl rfl
 have bd26:Binds K (PySem.W.fnOf "put" "Book.put" (dD da) (cE da) (ay da) (.ref dt26) kV26 dc26 pm26 an26 (.ref k_cd) ct26) ["self","entry","number"] [.none]:=fun s us hK hl=>by rcases us with _ | ⟨_,_ | ⟨_,_ | _⟩⟩<;>first | (simp at hl;done) | exact .of_defaults rfl (hK _ _ t26) rfl rfl rfl
 have M_Book_put:Mtd l.prog w K mg base (CX1 l.prog w) k_Book "put" 5 ["self","entry","number"] (cL (⟨k_Code,k_Book,k_CableError,k_NoCode,k_NoNumber,k_NoWord,k_NoEntry,k_Twice,k_TooMany,k_NoBook,k_NoText,k_NoReading,k_NoSetting,k_TooGarbled,k_NoNet,k_NoOffice,k_NoDay,k_NoRow,k_cd,k_tb,()⟩:Ads)):=⟨⟨f26,_,qy F26 T AF rfl M_Book_choose,⟨a26,i26,k26⟩,b26⟩,AF.c_Book⟩
 have D_Book_put:HH l.prog w K mg base (CX1 l.prog w) k_Book "put" 5 ["self","entry","number"] (cL (⟨k_Code,k_Book,k_CableError,k_NoCode,k_NoNumber,k_NoWord,k_NoEntry,k_Twice,k_TooMany,k_NoBook,k_NoText,k_NoReading,k_NoSetting,k_TooGarbled,k_NoNet,k_NoOffice,k_NoDay,k_NoRow,k_cd,k_tb,()⟩:Ads)):=⟨⟨f26,_,qy F26 T AF rfl M_Book_choose,⟨a26,i26,k26⟩,bd26⟩,AF.c_Book⟩
 have C_built:=Z d36 (fun _ _ F=>DZ F T AF C_entry_written C_code_written M_Book_put M_Code_number K_Book K_Code) fun _ _ _ _ _ _=>L2.bind1 fun _=>rfl
 have C_law_code:=Z d42 (fun _ _ F=>xo F T AF C_law_weight C_law_mixed C_law_cell_at K_Code) fun _ _ _ _ _ _=>L2.bind1 fun _=>rfl
 have C_law_filled:=Z d46 (fun _ _ F=>tY F T AF C_law_entry C_law_mixed M_Book_entries M_Code_many M_Book_number M_Book_entry M_Book_put D_Book_put K_Book) fun _ _ _ _ _ _=>L2.zN fun _ _ _=>rfl
 have C_read:=Z d37 (fun _ _ F=>Gj F T AF C_shown C_built) fun _ _ _ _ _ _=>L2.bind1 fun _=>rfl
 have C_law_told:=Z d47 (fun _ _ F=>xq F T AF C_read) fun _ _ _ _ _ _=>L2.bind1 fun _=>rfl
 have C_law_refused:=Z d49 (fun _ _ F=>sQ F T AF C_law_told C_law_only) fun _ _ _ _ _ _=>L2.bind1 fun _=>rfl
 have C_law_stays:=Z d50 (fun _ _ F=>vH F T AF C_shown C_law_told) fun _ _ _ _ _ _=>L2.bind1 fun _=>rfl
 have C_law_great:=Z d55 (fun _ _ F=>vF F T AF C_law_refused C_law_stays C_shown M_Code_word M_Book_put K_Book K_Code) fun _ _ _ _ _ _=>L2.bind1 fun _=>rfl
 exact IP F56 T AF C_law_great C_law_refused C_law_stays C_law_changed C_law_rows_turned C_law_odd_first C_law_odd_row C_law_mixed C_law_cell_at C_shown C_law_filled C_law_code M_Code_word
end Kb
open PySem PySem.W PyProof.Rows
local macro_rules | `(tactic| ac_rfl) => `(tactic| first | (refine' L2.FD ?a ?l ?c ?k; (case a => k_is); (case l => k_is); (case c => k_is); (case k => k_is)) | (refine' L2.FE ?a ?i ?l ?c ?k; (case a => k_is); (case i => k_is); (case l => k_is); (case c => k_is); (case k => k_is)))
set_option maxRecDepth 100000 in
set_option maxHeartbeats 0 in
theorem Hk.KO:Hk.top.c:=by
 delta Hk.top
 dsimp only
 k_fill
 refine L2.EU (l:=PySem.Challenge.rw_cablehouse_k15_no_book) (n:=63) (k:=11) (x:="_law_script") (CX:=fun w=>L2.CX1 PySem.Challenge.rw_cablehouse_k15_no_book.prog w) (sp:=fun w=>Kb.z9 _ _) Kb.lg rfl (by decide) rfl ⟨rfl,by decide,by decide⟩ (fun w h Y=>⟨PySem.W.km_in_of Y,PySem.W.km_tabs_of Y _ (List.Mem.head _)⟩) ?F (fun w=>by kernel_rfl) (fun _ _ a ns hl hS hT=>⟨a,ns,rfl,hS,hl,hT,fun _=>rfl⟩) fun _ _ _ _ _ z=>L2.Bm z
 case F =>
  intro w mg fa h KX G hmg
  refine' Kb.all_mk KX G hmg ?y0 ?y1 ?y2 ?y3 ?y4 ?y5 ?y6 ?y7 ?y8 ?y9 ?y10 ?y11 ?y12 ?y13 ?y14 ?y15 ?y16 ?y17 ?d0 ?d1 ?d2 ?d3 ?d4 ?d5 ?d6 ?d7 ?d8 ?d9 ?d10 ?a11 ?i11 ?l11 ?c11 ?k11 ?d12 ?d13 ?d14 ?d15 ?d16 ?d17 ?d18 ?d19 ?d20 ?d21 ?d22 ?d23 ?a24 ?i24 ?l24 ?c24 ?k24 ?d25 ?a26 ?i26 ?l26 ?t26 ?c26 ?k26 ?d27 ?d28 ?d29 ?d30 ?d31 ?d32 ?d33 ?d34 ?d35 ?d36 ?d37 ?d38 ?d39 ?d40 ?d41 ?d42 ?d43 ?d44 ?d45 ?d46 ?d47 ?d48 ?d49 ?d50 ?d51 ?d52 ?d53 ?d54 ?d55 ?a56 ?l56 ?c56 ?k56 ?y91 ?y92 ?y93 ?y94 ?y95 ?y96 ?y97 ?y98 ?y99 ?y100 ?y101 ?y102 ?y103 ?y104 ?y105 ?y106 ?y107 ?y108 ?y109 ?y110 ?y111 ?y112 ?y113 ?y114 ?y115 ?y116 ?y117 ?y118 ?y119 ?y120 ?y121 ?y122 ?y123 ?y124 ?y125 ?tab ?err ?ndx ?y129 ?y130 ?y131 ?y132 ?y133 ?y134 ?y135 ?y136 ?y137 ?y138 ?y139 ?y140 ?y141 ?y142 ?y143 ?y144 ?y145 ?y146 ?y147 ?y148 ?y149 ?y150 ?y151 ?y152 ?y153 ?y154 ?y155 ?y156 ?y157 ?y158
  (case y0 | y1 | y2 | y3 | y4 | y5 | y6 | y7 | y8 | y9 | y10 | y11 | y12 | y13 | y14 | y15 | y16 | y17=>k_is)
  (case d0 | d1 | d2 | d3 | d4 | d5 | d6 | d7 | d8 | d9 | d10=>ac_rfl)
  (case a11 | i11 | l11 | c11 | k11=>k_is)
  (case d12 | d13 | d14 | d15 | d16 | d17 | d18 | d19 | d20 | d21 | d22 | d23=>ac_rfl)
  (case a24 | i24 | l24 | c24 | k24=>k_is)
  (case d25=>ac_rfl)
  (case a26 | i26 | l26 | t26 | c26 | k26=>k_is)
  (case d27 | d28 | d29 | d30 | d31 | d32 | d33 | d34 | d35 | d36 | d37 | d38 | d39 | d40 | d41 | d42 | d43 | d44 | d45 | d46 | d47 | d48 | d49 | d50 | d51 | d52 | d53 | d54 | d55=>ac_rfl)
  (case a56 | l56 | c56 | k56 | y91 | y92 | y93 | y94 | y95 | y96 | y97 | y98 | y99 | y100 | y101 | y102 | y103 | y104 | y105 | y106 | y107 | y108=>k_is)
  (case y109 | y110 | y111 | y112 | y113 | y114 | y115 | y116 | y117 | y118 | y119 | y120=>kernel_rfl)
  (case y121=>k_is)
  (case y122 | y123 | y124 | y125 | tab | err | ndx=>kernel_rfl)
  (case y129=>k_is)
  (case y130=>exact⟨_,rfl⟩)
  (case y131=>k_is)
  (case y132=>exact⟨_,rfl⟩)
  (case y133=>k_is)
  (case y134=>exact⟨_,rfl⟩)
  (case y135=>k_is)
  (case y136=>exact⟨_,rfl⟩)
  (case y137=>k_is)
  (case y138=>exact⟨_,rfl⟩)
  (case y139=>k_is)
  (case y140=>exact⟨_,rfl⟩)
  (case y141=>k_is)
  (case y142=>exact⟨_,rfl⟩)
  (case y143 | y144 | y145 | y146 | y147 | y148 | y149 | y150 | y151 | y152 | y153 | y154 | y155 | y156 | y157 | y158=>k_is)
theorem PySem.Challenge.cw_cablehouse_k15_no_book_holds : PySem.Challenge.rw_cablehouse_k15_no_book.Holds :=
 Hk.top.go Hk.K9 Hk.KA Hk.KC Hk.KG Hk.KH Hk.KI Hk.KJ Hk.KL Hk.KN Hk.KP Hk.KO
